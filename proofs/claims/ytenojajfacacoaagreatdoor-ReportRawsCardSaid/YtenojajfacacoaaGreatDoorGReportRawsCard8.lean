/- A text. -/
import Derived.Test.YtenojajfacacoaaGreatDoorGReportRawsCard7
import Derived.RegionTactic
import Derived.WalkMore
import Derived.Deep.RegionHeld3
import Derived.Deep.DeepCutAuto
import Derived.Test.YtenojajfacacoaaGreatDoorGReportRawsCard4
import Derived.Test.YtenojajfacacoaaGreatDoorGReportRawsCard5
import Derived.Test.YtenojajfacacoaaGreatDoorGReportRawsCard3
import Derived.Test.YtenojajfacacoaaGreatDoorGReportRawsCard2
import Derived.Test.YtenojajfacacoaaGreatDoorGReportRawsCard6
/- A text. -/
namespace Go.Proofs.YtenojajfacacoaaGreatDoor
open Go.RowKit
set_option maxHeartbeats 4000000
set_option maxRecDepth 100000
variable {W0 w:World}{K:Know}{L:List Res}
theorem zPG{o:Oper}{a:Act}{KK:Act→World→Prop}{Q:Exit→Act→World→Prop}(sl x:Operand)(t:TypeId)
    (ho:o.op=.call {callee:=.builtin .append,args:= #[sl,x],argTypes:= #[t,t]})
    (e:TypeId){z:Value}{size bytes:Nat}(ht:Tryz.prog.underlying t=some (.slice e))(he:zER Tryz.prog e z size bytes)
    (v:Value)(n:Nat)(xs:List Value)(hs:a.eval sl=v)(bS m:Nat)(cs:Array Value)(T:TypeId)(hst:St W0 w K (.raw bS cs T::.row v e size n xs::L))
    (hx:a.eval x=.slice (some ⟨bS,0,none⟩) m m)(hl:cs.toList.length=m*size)(h1:∀u∈cs.toList,u.oneCell'=true)
    (h63:n+m≤maxLen)(hbytes:(n+m)*bytes≤140737488355328)
    (h:∀v' w',St W0 w' K (.row v' e size (n+m) (xs++cs.toList)::L)→KK (a.put o.dst v') w'):o.wp Tryz.prog a w KK Q:=by
  have hc:=hst.rawCell;have hst2:=hst.p1;obtain⟨⟨i,g1,g2,g3,g4⟩,g5,g6⟩:=he
  obtain⟨v',w',hr,h2,h3,h4⟩:=zNQ (P:=Tryz.prog) w t o.type e i z size bytes ht g1 g2 g3 g4 g5 g6 v n xs hst2.rowGet ⟨bS,0,none⟩ m m cs.toList hl (fun j u hj=>by
    have ha:(⟨bS,0,none⟩:Addr).add j=⟨bS,j,none⟩:=by unfold Addr.add;split<;>simp_all
    rw[ha,hc j]
    simpa using hj) h1 h63 hbytes
  unfold Oper.wp execOp;simp only[ho,resolve,invoke,builtin,Sem.run_bind,Sem.run_pure,Result.andThen_ok,List.map_toArray,List.map_cons,List.map_nil,hs,hx,hr];exact h v' w' (hst2.rowGrown h2 h3 h4).p1.drop
theorem build2(a b:Int)(w:World):(Instr.buildSlice 57 2 #[(0,.int .u8 a),(1,.int .u8 b)]).run Tryz.prog w=.ok (.slice (some ⟨w.heap.size,0,none⟩) 2 2) (w.alloc (.cells #[.int .u8 a,.int .u8 b] 5 (0,0))):=by go_simp
theorem zJ1{o:Oper}{ρ:Operand→Value}(ps:Array (Nat×Value))(v:Value)(w w':World)(ho:execOp ρ o=(do pure (Next.value (←Instr.buildSlice 57 2 ps))))(hb:(Instr.buildSlice 57 2 ps).run Tryz.prog w=.ok v w'):(execOp ρ o).run Tryz.prog w=.ok (.value v) w':=by
 rw[ho];simp[hb,Result.andThen]
theorem zN9(n:Nat)(hn:n<16)(h:St W0 w K L):
   Calls Tryz.prog 44 #[.int .i64 n] w fun en w'=>en=.returned (.int .u8 (hexD n).toNat)∧St W0 w' K L:=by
 have H:=hQd h;have hn1:(n:Int)<16:=by omega
 have HE:=hQd (show(hexD n).toNat=if n<10 then 48+n else 87+n by unfold hexD;split<;>(rw[UInt8.toNat_ofNat'];omega));clear h hn
 by_cases h1:n<10
 · have h2:(n:Int)<10:=by omega
   have h3:decide ((n:Int)<10)=true:=decide_eq_true h2;rw[if_pos h1]at HE;have h4:(48+(n:Int)) % 256=(((hexD n).toNat:Nat):Int):=by rw[HE.out];omega
   clear h1;go_enter Tryz.func44,Tryz.ntmps44;go_wp2;go_ret;exact⟨by rw[HE.out];rfl,H.out⟩
 · have h2:¬(n:Int)<10:=by omega
   have h3:decide ((n:Int)<10)=false:=decide_eq_false h2;rw[if_neg h1]at HE;clear h1;go_enter Tryz.func44,Tryz.ntmps44;go_wp2;go_ret;have e9:(97+(n:Int) - 10)=((87+n:Nat):Int):=by omega
   exact⟨by rw[HE.out,←e9];rfl,H.out⟩
theorem zIh(v:Int)(n:Nat)(d:UInt8)(hv:v=n)(hn:n<16)(hd:hexD n=d)(h:St W0 w K L):
  Calls Tryz.prog 44 #[.int .i64 v] w fun en w'=>en=.returned (.int .u8 d.toNat)∧St W0 w' K L:=by
 subst hv hd;exact zN9 n hn h
theorem wrap_i64(x:Int)(h0: -9223372036854775808≤x)(h1:x<9223372036854775808):IntKind.i64.wrap x=x:=IntWalk.i64_in _ (by omega)
theorem nib1(x:UInt8):IntKind.i64.wrap ((IntKind.i64.wrap ((x.toNat:Nat):Int)).tdiv 16)=((x.toNat / 16:Nat):Int):=by
 have hx:=x.toNat_lt;rw[wrap_i64 ((x.toNat:Nat):Int) (by omega) (by omega),Int.tdiv_eq_ediv_of_nonneg (by omega),wrap_i64 _ (by omega) (by omega)]
 rfl
theorem nib2(x:UInt8):(IntKind.i64.wrap ((x.toNat:Nat):Int)).tmod 16=((x.toNat % 16:Nat):Int):=by
 have hx:=x.toNat_lt;rw[wrap_i64 ((x.toNat:Nat):Int) (by omega) (by omega),Int.tmod_eq_emod_of_nonneg (by omega)]
 rfl
theorem rs_hex(s:Bs)(hs:s.length≤1000000){W0 w:World}{K:Know}{L:List Res}(h:St W0 w K L):
   Calls Tryz.prog 17 #[.string (bb s)] w fun en w'=>en=.returned (.string (bb (hexW s)))∧St W0 w' K L:=by
 by_cases h0:s=[]
 · subst h0;have H:=hQd h;clear h;go_enter Tryz.func17,Tryz.ntmps17;go_wp2;go_ret;exact⟨rfl,H.out⟩
 have hw:hexW s=hexL s:=by unfold hexW;rw[if_neg h0]
 rw[hw];have q3:(s==[])=false:=by rw[beq_eq_false_iff_ne];exact h0
 have q4:(s !=[])=true:=by simp[bne,q3]
 have hsl:(s.length:Int)≤1000000:=by omega
 have g1:=h.rowLit [] 5 1 0 (by simp) (Nat.zero_le _);have H:=hQd g1;have HS:=hQd hs;clear h g1 hs h0 hw;go_enter Tryz.func17,Tryz.ntmps17;go_wp2_with fail;go_loopw [3,4] (fun ov iv wr=>∃(k cp:Nat) (q:Option Addr),k≤s.length∧iv=.int .i64 k∧ov=.slice q (2*k) cp∧St W0 wr K (.row (.slice q (2*k) cp) 5 1 (2*k) (zAt (hexL (s.take k)))::L)) (fun _ iv _=>s.length - (intOf iv).toNat)
 case atStart=>exact⟨0,0,_,Nat.zero_le _,rfl,rfl,H.out⟩
 case round=>
   obtain⟨k,cp,q,hk,rfl,rfl,hst⟩:=hrel;clear H;have H:=hQd hst;clear hst
   by_cases hlt:k<s.length
   · have hlti:(k:Int)<(s.length:Int):=by omega
     have hx:=(s[k]'hlt).toNat_lt;have HQ1:=hQd (show(s[k]'hlt).toNat / 16<16 by omega);have HQ2:=hQd (show(s[k]'hlt).toNat % 16<16 by omega);have HV1:=hQd (nib1 (s[k]'hlt));have HV2:=hQd (nib2 (s[k]'hlt));obtain⟨d1,hd1⟩:∃d,hexD ((s[k]'hlt).toNat / 16)=d:=⟨_,rfl⟩;obtain⟨d2,hd2⟩:∃d,hexD ((s[k]'hlt).toNat % 16)=d:=⟨_,rfl⟩;have HD1:=hQd hd1;have HD2:=hQd hd2;have HTK:=hQd (show zAt (hexL (s.take k))++[.int .u8 d1.toNat,.int .u8 d2.toNat]=zAt (hexL (s.take (k+1))) by rw[←zNa s k hlt _ rfl,hd1,hd2];simp[zAt]);clear hx hd1 hd2;go_upto_region 7 with fail;have hs:=H.out.drew;clear H;refine wp_region_held_drew (S:=fun _=>True) (by kernel_rfl) trivial (fun hHeld=> ?_);refine tQ 0 ⟨some 14,.move (.tmp 3),57,_,_,none⟩ ?_;simp only[Act.put,sA,sB,sC];refine tQ 1 ⟨some 15,.move (.tmp 0),9,_,_,none⟩ ?_;simp only[Act.put,sA,sB,sC];refine tQ 2 ⟨some 16,.move (.tmp 4),3,_,_,none⟩ ?_;simp only[Act.put,sA,sB,sC];refine tQ 3 ⟨some 17,.index 9 (.tmp 15) (.tmp 16),5,_,_,none⟩ ?_;simp only[Act.put,sA,sB,sC];refine tQ 4 ⟨some 18,.convert 5 3 (.tmp 17),3,_,_,none⟩ ?_;simp only[Act.put,sA,sB,sC];refine tQ 5 ⟨some 19,.binOp .quo 3 (.tmp 18) (.const (Value.int IntKind.i64 16)) 3,3,_,_,none⟩ ?_;simp only[Act.put,sA,sB,sC];refine tQ 7 ⟨some 21,.move (.tmp 0),9,_,_,none⟩ ?_;simp only[Act.put,sA,sB,sC];refine tQ 8 ⟨some 22,.move (.tmp 4),3,_,_,none⟩ ?_;simp only[Act.put,sA,sB,sC];refine tQ 9 ⟨some 23,.index 9 (.tmp 21) (.tmp 22),5,_,_,none⟩ ?_;simp only[Act.put,sA,sB,sC];refine tQ 10 ⟨some 24,.convert 5 3 (.tmp 23),3,_,_,none⟩ ?_;simp only[Act.put,sA,sB,sC];refine tQ 11 ⟨some 25,.binOp .rem 3 (.tmp 24) (.const (Value.int IntKind.i64 16)) 3,3,_,_,none⟩ ?_;simp only[Act.put,sA,sB,sC];refine wpAnyH_ready (rs:=[6]) (by kernel_rfl) (by simp) (AllReadyH.cons (o:=⟨some 20,.call {callee:=.value (.func 44),args:= #[.tmp 19],argTypes:= #[3]},5,_,_,none⟩) rfl (fun KK hK=> ?_) AllReadyH.nil);go_simp;go_at_call 44;with_reducible refine(zIh _ _ d1 ?_ HQ1.out HD1.out hs).mono ?_
     · exact HV1.out
     rintro e wq ⟨rfl,hs⟩;refine hK.out _ _ (trivial) (fun hHeld=> ?_);clear hK KK
     try simp only[Act.put,sA,sB,sC]
     refine wpAnyH_ready (rs:=[12]) (by kernel_rfl) (by simp) (AllReadyH.cons (o:=⟨some 26,.call {callee:=.value (.func 44),args:= #[.tmp 25],argTypes:= #[3]},5,_,_,none⟩) rfl (fun KK hK=> ?_) AllReadyH.nil);go_simp;go_at_call 44;with_reducible refine(zIh _ _ d2 ?_ HQ2.out HD2.out hs).mono ?_
     · exact HV2.out
     rintro e wq ⟨rfl,hs⟩;refine hK.out _ _ (trivial) (fun hHeld=> ?_);clear hK KK
     try simp only[Act.put,sA,sB,sC]
     refine wpAnyH_ready (rs:=[13]) (by kernel_rfl) (by simp) (AllReadyH.cons (o:=⟨some 27,.buildSlice 57 2 #[(0,.tmp 20),(1,.tmp 26)],57,_,_,none⟩) rfl (fun KK hK=> ?_) AllReadyH.nil);rw[if_pos (by rfl)];refine zEZ (zJ1 _ _ _ _ (by kernel_rfl) (build2 d1.toNat d2.toNat wq)) ?_;obtain⟨wy,b2,ey,eb,hs⟩:=hs.allocEx #[.int .u8 d1.toNat,.int .u8 d2.toNat] 5;rw[ey,eb];clear ey eb;refine hK.out _ _ (trivial) (fun hHeld=> ?_);clear hK KK
     try simp only[Act.put,sA,sB,sC]
     refine wpAnyH_ready (rs:=[14]) (by kernel_rfl) (by simp) (AllReadyH.cons (o:=⟨some 28,.call {callee:=.builtin .append,args:= #[.tmp 14,.tmp 27],argTypes:= #[57,57]},57,_,_,none⟩) rfl (fun KK hK=> ?_) AllReadyH.nil);rw[if_pos (by rfl)];refine zPG (.tmp 14) (.tmp 27) 57 rfl 5 Tryz.underlying57 zHK _ _ _ (by rfl) b2 2 _ 5 hs (by rfl) rfl (by simp[Value.oneCell']) (by have:=HS.out;unfold maxLen;omega) (by have:=HS.out;omega) (fun v' w' h=> ?_);have hs:=h;clear h;obtain⟨qv,cv,hv⟩:=hs.rowAny;subst hv;refine hK.out _ _ (trivial) (fun hHeld=> ?_);clear hK KK
     try simp only[Act.put,sA,sB,sC]
     refine tQ 15 ⟨some 3,.assign (.tmp 28),57,_,_,none⟩ ?_;simp only[Act.put,sA,sB,sC];refine wpAnyH_done (by kernel_rfl) ?_ _;clear hHeld;have H:=hQd (show St W0 w' K (.row (.slice qv (2*(k+1)) cv) 5 1 (2*(k+1)) (zAt (hexL (s.take (k+1))))::L) by rw[←HTK.out];exact hs);clear hs;go_wp2_with fail;go_roundw
     case rel=>exact⟨k+1,cv,qv,hlt,by go_num,rfl,H.out⟩
     case measure=>first|(simp[intOf];done)|(simp[intOf];omega)
   · obtain rfl:k=s.length:=by omega
     have hz:St W0 wr K (.row (.slice q (2*s.length) cp) 5 1 (2*s.length) (zAt (hexL s))::L):=by have h9:=H.out;rw[List.take_length]at h9;exact h9
     have hcv:=hz.rowText (by rw[zE1]);have H2:=hQd hz;clear H hz;go_wp2_with fail;go_ret;exact⟨rfl,H2.out.drop⟩
def FitW (l:List (RecS×Value)):Prop:=∀x∈l,x.1.R∧x.1.hdrs.length≤9223372036854775807∧HFit x.1.hdrs∧x.1.key.data.length≤140737488351232∧x.1.val.data.length≤140737488351232
def hAll:List HdrS→Bool
  |[]=>true
  |h::t=>decide (h.key.length+h.val.data.length≤100) && hAll t
def zCX (x:RecS):Bool:=decide (x.key.data.length+x.val.data.length≤100) && (decide (x.hdrs.length≤6) && hAll x.hdrs)
def rAll:List RecS→Bool
  |[]=>true
  |r::t=>zCX r && rAll t
def zDs (l:List RecS):Bool:=decide (l.length≤12) && rAll l
theorem zHF:∀(l:List HdrS),hAll l=true→hsum l≤101*l.length
  |[],_=>by simp[hsum]
  |h::t,hh=>by
    simp only[hAll,Bool.and_eq_true,decide_eq_true_eq]at hh;have:=zHF t hh.2;simp only[hsum,List.length_cons,List.map_cons,List.sum_cons]at*
    omega
theorem zEW:∀(l:List RecS),rAll l=true→∀x∈l,zCX x=true
  |[],_,_,h=>by cases h
  |r::t,hh,x,hx=>by
    simp only[rAll,Bool.and_eq_true]at hh
    rcases List.mem_cons.1 hx with rfl|hx
    · exact hh.1
    · exact zEW t hh.2 x hx
theorem zEz{x:RecS}(h:zCX x=true):x.sum≤1000:=by
 unfold zCX at h;simp only[Bool.and_eq_true,decide_eq_true_eq]at h;have:=zHF _ h.2.2;unfold RecS.sum
 omega
theorem FitW.fit{l:List (RecS×Value)}(h:FitW l)(hs:zDs (l.map (·.1))=true):FitB l:=by
 intro x hx;unfold zDs at hs;simp only[Bool.and_eq_true]at hs;have h1:=zEz (zEW _ hs.2 x.1 (List.mem_map.2 ⟨x,hx,rfl⟩));obtain⟨a,b,c,_⟩:=h x hx;exact⟨a,c,by omega⟩
theorem zLc{l:List (RecS×Value)}(hs:zDs (l.map (·.1))=true):l.length≤12:=by
 unfold zDs at hs;simp only[Bool.and_eq_true,decide_eq_true_eq,List.length_map]at hs;exact hs.1
theorem zFn(base leader:Int)(app txn ctl:Bool)(last first maxt prod epoch sq:Int)(l:List (RecS×Value))(q:Option Addr)(cap:Nat)(G:Int)(hG:zCH first last (l.map (·.1)) (-1) first=.ok G)(hf:0≤first∧first≤9223372036854775807)(hfit:FitB l)(hll:l.length≤1000000){W0 w:World}{K:Know}{L:List Res}(hk:K.has (Know.recs (.slice q l.length cap) l))(h:St W0 w K L):
  Calls Tryz.prog 58 #[.agg #[.int .i64 base,.int .i64 leader,.bool app,.bool txn,.bool ctl,.int .i64 last,.int .i64 first,.int .i64 maxt,.int .i64 prod,.int .i64 epoch,.int .i64 sq,.slice q l.length cap]] w fun en w'=>en=.returned (.int .i64 G)∧St W0 w' K L:=by
 have HT:=hQd hG;have HK:=hQd hk;have HFT:=hQd hfit;have HF:=hQd hf;obtain⟨nf,hnf⟩:∃m,-first=m:=⟨_,rfl⟩;obtain⟨mf,hmf⟩:∃m,9223372036854775807 - first=m:=⟨_,rfl⟩;have HNF:=hQd hnf;have HMF:=hQd hmf;have n1:wrap64 (-first)=nf:=by rw[←hnf];unfold wrap64;omega
 have n2:IntKind.i64.wrap (-first)=nf:=by rw[←hnf];exact IntWalk.i64_in _ (by omega)
 have m1:wrap64 (9223372036854775807 - first)=mf:=by rw[←hmf];unfold wrap64;omega
 have m2:IntKind.i64.wrap (9223372036854775807 - first)=mf:=by rw[←hmf];exact IntWalk.i64_in _ (by omega)
 have h1:=h.allocRaw #[.int .i64 base,.int .i64 leader,.bool app,.bool txn,.bool ctl,.int .i64 last,.int .i64 first,.int .i64 maxt,.int .i64 prod,.int .i64 epoch,.int .i64 sq,.slice q l.length cap] 30;obtain⟨hb,hhb⟩:∃b,w.heap.size=b:=⟨_,rfl⟩;rw[hhb]at h1;obtain⟨x0,x1,x2,x3,x4,x5,x6,x7,x8,x9,x10,x11,y0,y1,y2,y3,y4,y5,y6,y7,y8,y9,y10,y11⟩:=zAc (b:=hb) (h1);have H:=hQd h1;clear h h1 hk hfit hG hnf hmf hf;go_enter Tryz.func58,Tryz.ntmps58;go_wp2;clear x0 y0 x1 y1 x2 y2 x3 y3 x4 y4 x5 y5 x6 y6 x7 y7 x8 y8 x9 y9 x10 y10 x11 y11;go_loopw [3,4,5] (fun gv iv _ wr=>∃(k:Nat) (ah g:Int),k≤l.length∧gv=.int .i64 g∧iv=.int .i64 k∧Hid (zCH first last ((l.map (·.1)).drop k) ah g=.ok G)∧St W0 wr K (.raw hb #[.int .i64 base,.int .i64 leader,.bool app,.bool txn,.bool ctl,.int .i64 last,.int .i64 first,.int .i64 maxt,.int .i64 prod,.int .i64 epoch,.int .i64 sq,.slice q l.length cap] 30::L)) (fun _ iv _ _=>l.length - (intOf iv).toNat)
 case atStart=>exact⟨0,-1,first,Nat.zero_le _,rfl,rfl,HT,H.out⟩
 case round=>
  obtain⟨k,ah,g,hkl,rfl,rfl,HC,hst⟩:=hrel;clear H;have H:=hQd hst;clear hst;obtain⟨x0,x1,x2,x3,x4,x5,x6,x7,x8,x9,x10,x11,y0,y1,y2,y3,y4,y5,y6,y7,y8,y9,y10,y11⟩:=zAc (b:=hb) (H.out)
  by_cases hlt:k<l.length
  · have hd:=zB6 l k hlt _ rfl;obtain⟨b,off,hqq⟩:=zBQ HK.out H.out (by omega);subst hqq;obtain⟨⟨x,vx⟩,hx⟩:∃x,l[k]=x:=⟨_,rfl⟩;have cc:=zAY HK.out H.out k hlt (x,vx) hx;have hmem:(x,vx)∈l:=hx ▸ List.getElem_mem hlt;have xf:x.R∧HFit x.hdrs∧x.sum≤1000000:=HFT.out (x,vx) hmem;have xk:K.has (Know.flat RHdr vx 3 x.hdrs):=zA5 HK.out hmem;obtain⟨qx,capx,hvx⟩:=zAu xk H.out;subst hvx;simp only at cc;obtain⟨c0,c1,c2,c3,c4,c5,c6⟩:=cc;rw[←Nat.add_assoc]at c1 c2 c3 c4 c5 c6;have hx1:l[k].1=x:=by rw[hx]
    have XF:=hQd xf;have XK:=hQd xk;have HX:=hQd hx1;clear xf xk hx1 hx hmem;have hki:(k:Int)<(l.length:Int):=by omega
    rw[HX.out]at hd;have hc:=HC.out;rw[hd,zCi]at hc
    by_cases c1:x.off≤ah∨last<x.off
    · rw[if_pos c1]at hc;cases hc
    rw[if_neg c1]at hc
    by_cases c3:x.time< -first∨9223372036854775807 - first<x.time
    · rw[if_pos c3]at hc;cases hc
    rw[if_neg c3]at hc;have d1:decide (mf<x.time)=false:=by rw[←HMF.out];exact decide_eq_false (by omega)
    have d2:decide (x.time<nf)=false:=by rw[←HNF.out];exact decide_eq_false (by omega)
    obtain⟨ft,hft⟩:∃t,first+x.time=t:=⟨_,rfl⟩;have f1:wrap64 (first+x.time)=ft:=by have:=HF.out;rw[←hft];unfold wrap64;omega
    have f2:IntKind.i64.wrap (first+x.time)=ft:=by have:=HF.out;rw[←hft];exact IntWalk.i64_in _ (by omega)
    rw[hft]at hc
    by_cases c4:g<ft
    · have d4:decide (g<ft)=true:=decide_eq_true c4;have HC2:=hQd (show zCH first last ((l.map (·.1)).drop (k+1)) x.off ft=.ok G by rw[Int.max_eq_right (by omega)]at hc;exact hc);clear hd hc c1 c3 c4 hft;go_wp2;go_roundw
      case rel=>exact⟨k+1,x.off,ft,hlt,rfl,by go_num,HC2,H.out⟩
      case measure=>first|(simp[intOf];done)|(simp[intOf];omega)
    · have d4:decide (g<ft)=false:=decide_eq_false c4;have HC2:=hQd (show zCH first last ((l.map (·.1)).drop (k+1)) x.off g=.ok G by rw[Int.max_eq_left (by omega)]at hc;exact hc);clear hd hc c1 c3 c4 hft;go_wp2;go_roundw
      case rel=>exact⟨k+1,x.off,g,hlt,rfl,by go_num,HC2,H.out⟩
      case measure=>first|(simp[intOf];done)|(simp[intOf];omega)
  · obtain rfl:l.length=k:=by omega
    have hc:=HC.out;rw[List.drop_of_length_le (by simp)]at hc;obtain rfl:g=G:=by have hc:Except.ok g=Except.ok G:=hc;cases hc;rfl
    clear hc;go_wp2;go_ret;exact⟨rfl,H.out.drop⟩
def zNR (l:List (RecS×Value)) (k:Nat) (ah:Int):Prop:=(k=0∧ah= -1)∨(∃(j:Nat) (h:j<l.length),k=j+1∧(l[j]'h).1.off=ah∧0≤ah)
theorem zq10{p:Prop}(h:p:=by
  by_cases c3:9223372036854775807 - first<x.time
  · have d3:decide (mf<x.time)=true:=by rw[←HMF.out];exact decide_eq_true c3
    rw[if_pos (.inr c3)]at hc;obtain rfl:11=e:=by have:=HE.out;rw[←hc]at this;exact this
    clear c3 hc;go_wp2;go_ret;exact⟨rfl,H.out.drop⟩
  · have d3:decide (mf<x.time)=false:=by rw[←HMF.out];exact decide_eq_false c3
    by_cases c4:x.time< -first
    · have d4:decide (x.time<nf)=true:=by rw[←HNF.out];exact decide_eq_true c4
      rw[if_pos (.inl c4)]at hc;obtain rfl:11=e:=by have:=HE.out;rw[←hc]at this;exact this
      clear c3 c4 hc;go_wp2;go_ret;exact⟨rfl,H.out.drop⟩
    · have d4:decide (x.time<nf)=false:=by rw[←HNF.out];exact decide_eq_false c4
      rw[if_neg (by omega)]at hc;have HC2:=hQd hc;clear c3 c4 hc;go_wp2;go_roundw
      case rel=>exact⟨k+1,x.off,_,hlt,by go_num,HC2,PR2,H.out⟩
      case measure=>first|(simp[intOf];done)|(simp[intOf];omega)):p:=h
theorem zq14{p:Prop}(h:p:=by
  try simp only[Act.put,sA,sB,sC]
  refine tQ 8 ⟨some 68,.binOp .neq 3 (.tmp 65) (.tmp 67) 3,4,_,_,some (3,true)⟩ ?_;simp only[Act.put,sA,sB,sC];refine tQ 9 ⟨some 69,.pick (.tmp 63) (.tmp 68) (.const (Value.bool false)),4,_,_,none⟩ ?_;simp only[Act.put,sA,sB,sC];refine wpAnyH_done (by kernel_rfl) ?_ _;clear hHeld;go_wp2_with fail;go_ret;exact⟨rfl,hs.drop⟩):p:=h
theorem zEA(base leader:Int)(app txn ctl:Bool)(last first maxt prod epoch sq:Int)(l:List (RecS×Value))(q:Option Addr)(cap:Nat)(e:Int)(he:BatS.rows ⟨base,leader,app,txn,ctl,last,first,maxt,prod,epoch,sq,l.map (·.1)⟩=e)(hf:0≤first∧first≤9223372036854775807)(hfit:FitB l)(hll:l.length≤1000000){W0 w:World}{K:Know}{L:List Res}(hk:K.has (Know.recs (.slice q l.length cap) l))(h:St W0 w K L):
  Calls Tryz.prog 27 #[.agg #[.int .i64 base,.int .i64 leader,.bool app,.bool txn,.bool ctl,.int .i64 last,.int .i64 first,.int .i64 maxt,.int .i64 prod,.int .i64 epoch,.int .i64 sq,.slice q l.length cap]] w fun en w'=>en=.returned (.int .i64 e)∧St W0 w' K L:=by
 obtain⟨tot,htot⟩:∃t,zCH first last (l.map (·.1)) (-1) first=t:=⟨_,rfl⟩;have HE:=hQd (show zLf app maxt tot=e by rw[←he,←htot];rfl);have HT:=hQd htot;have HLL:=hQd hll;have HK:=hQd hk;have HFT:=hQd hfit;have HF:=hQd hf;obtain⟨nf,hnf⟩:∃m,-first=m:=⟨_,rfl⟩;obtain⟨mf,hmf⟩:∃m,9223372036854775807 - first=m:=⟨_,rfl⟩;have HNF:=hQd hnf;have HMF:=hQd hmf;have n1:wrap64 (-first)=nf:=by rw[←hnf];unfold wrap64;omega
 have n2:IntKind.i64.wrap (-first)=nf:=by rw[←hnf];exact IntWalk.i64_in _ (by omega)
 have m1:wrap64 (9223372036854775807 - first)=mf:=by rw[←hmf];unfold wrap64;omega
 have m2:IntKind.i64.wrap (9223372036854775807 - first)=mf:=by rw[←hmf];exact IntWalk.i64_in _ (by omega)
 have h1:=h.allocRaw #[.int .i64 base,.int .i64 leader,.bool app,.bool txn,.bool ctl,.int .i64 last,.int .i64 first,.int .i64 maxt,.int .i64 prod,.int .i64 epoch,.int .i64 sq,.slice q l.length cap] 30;obtain⟨hb,hhb⟩:∃b,w.heap.size=b:=⟨_,rfl⟩;rw[hhb]at h1;obtain⟨x0,x1,x2,x3,x4,x5,x6,x7,x8,x9,x10,x11,y0,y1,y2,y3,y4,y5,y6,y7,y8,y9,y10,y11⟩:=zAc (b:=hb) (h1);have H:=hQd h1;have HP:=hQd (show zNR l 0 (-1)from .inl ⟨rfl,rfl⟩);clear h h1 hk hfit he htot hnf hmf hf;go_enter Tryz.func27,Tryz.ntmps27;go_wp2;clear x0 y0 x1 y1 x2 y2 x3 y3 x4 y4 x5 y5 x6 y6 x7 y7 x8 y8 x9 y9 x10 y10 x11 y11;go_loopw [3,4,5] (fun iv _ _ wr=>∃(k:Nat) (ah g:Int),k≤l.length∧iv=.int .i64 k∧Hid (zCH first last ((l.map (·.1)).drop k) ah g=tot)∧Hid (zNR l k ah)∧St W0 wr K (.raw hb #[.int .i64 base,.int .i64 leader,.bool app,.bool txn,.bool ctl,.int .i64 last,.int .i64 first,.int .i64 maxt,.int .i64 prod,.int .i64 epoch,.int .i64 sq,.slice q l.length cap] 30::L)) (fun iv _ _ _=>l.length - (intOf iv).toNat)
 case atStart=>exact⟨0,-1,first,Nat.zero_le _,rfl,HT,HP,H.out⟩
 case round=>
  obtain⟨k,ah,g,hkl,rfl,HC,PR,hst⟩:=hrel;clear H;have H:=hQd hst;clear hst;obtain⟨x0,x1,x2,x3,x4,x5,x6,x7,x8,x9,x10,x11,y0,y1,y2,y3,y4,y5,y6,y7,y8,y9,y10,y11⟩:=zAc (b:=hb) (H.out)
  by_cases hlt:k<l.length
  · have hd:=zB6 l k hlt _ rfl;obtain⟨b,off,hqq⟩:=zBQ HK.out H.out (by omega);subst hqq;obtain⟨⟨x,vx⟩,hx⟩:∃x,l[k]=x:=⟨_,rfl⟩;have cc:=zAY HK.out H.out k hlt (x,vx) hx;have hmem:(x,vx)∈l:=hx ▸ List.getElem_mem hlt;have xf:x.R∧HFit x.hdrs∧x.sum≤1000000:=HFT.out (x,vx) hmem;have xk:K.has (Know.flat RHdr vx 3 x.hdrs):=zA5 HK.out hmem;obtain⟨qx,capx,hvx⟩:=zAu xk H.out;subst hvx;simp only at cc;obtain⟨c0,c1,c2,c3,c4,c5,c6⟩:=cc;rw[←Nat.add_assoc]at c1 c2 c3 c4 c5 c6;have hx1:l[k].1=x:=by rw[hx]
    have XF:=hQd xf;have XK:=hQd xk;have HX:=hQd hx1;clear xf xk hx1 hx hmem;have hki:(k:Int)<(l.length:Int):=by omega
    rw[HX.out]at hd;have hc:=HC.out;rw[hd,zCi]at hc;clear hd
    by_cases c2:last<x.off
    · have d2:decide (last<x.off)=true:=decide_eq_true c2;rw[if_pos (.inr c2)]at hc;clear c2;obtain rfl:13=e:=by have:=HE.out;rw[←hc]at this;exact this
      go_wp2;go_ret;exact⟨rfl,H.out.drop⟩
    · have d2:decide (last<x.off)=false:=decide_eq_false c2;have PR2:=hQd (show 0≤x.off→zNR l (k+1) x.off from fun h0=> .inr ⟨k,hlt,rfl,by rw[HX.out],h0⟩)
      rcases PR.out with ⟨hk0,rfl⟩|⟨j,hj,hk1,hjo,ha0⟩
      · have dk:decide ((0:Int)<(k:Int))=false:=decide_eq_false (by omega);have dk2:decide (0<k)=false:=decide_eq_false (by omega);clear hk0
        by_cases c5:x.off<0
        · have d5:decide (x.off<0)=true:=decide_eq_true c5;rw[if_pos (.inl (by omega))]at hc;clear c2 c5;obtain rfl:13=e:=by have:=HE.out;rw[←hc]at this;exact this
          go_wp2;go_ret;exact⟨rfl,H.out.drop⟩
        · have d5:decide (x.off<0)=false:=decide_eq_false c5;rw[if_neg (by omega)]at hc;replace PR2:=hQd (PR2.out (by omega));clear c2 c5
          exact zq10
      · have dk:decide ((0:Int)<(k:Int))=true:=decide_eq_true (by omega);have dk2:decide (0<k)=true:=decide_eq_true (by omega);have kj:(k:Int) - 1=(j:Int):=by omega
        obtain⟨⟨y,vy⟩,hy⟩:∃y,l[j]=y:=⟨_,rfl⟩;have cy:=zAY HK.out H.out j hj (y,vy) hy;rw[hy]at hjo;simp only at cy hjo;obtain⟨_,g1,_⟩:=cy;rw[←Nat.add_assoc,hjo]at g1;have hjl:(j:Int)<(l.length:Int):=by omega
        have hj0:(0:Int)≤(j:Int):=by omega
        clear hy hk1 hj
        by_cases c1:x.off≤ah
        · have d1:decide (x.off≤ah)=true:=decide_eq_true c1;rw[if_pos (.inl c1)]at hc;clear c1 c2;obtain rfl:13=e:=by have:=HE.out;rw[←hc]at this;exact this
          go_wp2;go_ret;exact⟨rfl,H.out.drop⟩
        · have d1:decide (x.off≤ah)=false:=decide_eq_false c1;have d5:decide (x.off<0)=false:=decide_eq_false (by omega);rw[if_neg (by omega)]at hc;replace PR2:=hQd (PR2.out (by omega));clear c1 c2
          exact zq10
  · obtain rfl:l.length=k:=by omega
    have hc:=HC.out;rw[List.drop_of_length_le (by simp)]at hc;obtain rfl:Except.ok g=tot:=hc;have hee:=HE.out;simp only[zLf]at hee
    cases app with
    |true=>
      obtain rfl:0=e:=by rw[←hee];rfl
      clear hee;go_upto_region 10 with (fail);have hs:=H.out.drew;refine wp_region_held_drew (S:=fun w'=>w'.cell? ⟨hb,0,none⟩=some (.int .i64 base)∧w'.cell? ⟨hb,1,none⟩=some (.int .i64 leader)∧w'.cell? ⟨hb,2,none⟩=some (.bool true)∧w'.cell? ⟨hb,3,none⟩=some (.bool txn)∧w'.cell? ⟨hb,4,none⟩=some (.bool ctl)∧w'.cell? ⟨hb,5,none⟩=some (.int .i64 last)∧w'.cell? ⟨hb,6,none⟩=some (.int .i64 first)∧w'.cell? ⟨hb,7,none⟩=some (.int .i64 maxt)∧w'.cell? ⟨hb,8,none⟩=some (.int .i64 prod)∧w'.cell? ⟨hb,9,none⟩=some (.int .i64 epoch)∧w'.cell? ⟨hb,10,none⟩=some (.int .i64 sq)∧w'.cell? ⟨hb,11,none⟩=some (.slice q l.length cap)) (by kernel_rfl) (let ⟨x0,x1,x2,x3,x4,x5,x6,x7,x8,x9,x10,x11,_⟩:=zAc (b:=hb) hs;⟨x0,x1,x2,x3,x4,x5,x6,x7,x8,x9,x10,x11⟩) (fun hHeld=> ?_);refine tQ 0 ⟨some 60,.fieldAddr 30 (.tmp 1) 2,0,_,_,none⟩ ?_;simp only[Act.put,sA,sB,sC];refine tQ 1 ⟨some 61,.load 4 (.tmp 60),4,_,_,none⟩ ?_;simp only[Act.put,sA,sB,sC];refine tQ 2 ⟨some 62,.unOp UnOp.not 4 (.tmp 61),4,_,_,none⟩ ?_;simp only[Act.put,sA,sB,sC];refine tQ 3 ⟨some 63,.move (.tmp 62),4,_,_,none⟩ ?_;simp only[Act.put,sA,sB,sC];refine wpAnyH_take (i:=4) (oi:=⟨some 64,.load 30 (.tmp 1),30,_,_,some (3,true)⟩) (v:=undef) rfl (by kernel_rfl) (by kernel_rfl) (by kernel_rfl) (fun _ _ _ h=>h) (Or.inr ⟨by rfl,rfl⟩) (by assumption) ?_;simp only[Act.put,sA,sB,sC];refine wpAnyH_take (i:=5) (oi:=⟨some 65,.call {callee:=.value (.func 58),args:= #[.tmp 64],argTypes:= #[30]},3,_,_,some (3,true)⟩) (v:=undef) rfl (by kernel_rfl) (by kernel_rfl) (by kernel_rfl) (fun _ _ _ h=>h) (Or.inr ⟨by rfl,rfl⟩) (by assumption) ?_;simp only[Act.put,sA,sB,sC];refine wpAnyH_take (i:=6) (oi:=⟨some 66,.fieldAddr 30 (.tmp 1) 7,0,_,_,some (3,true)⟩) (v:=undef) rfl (by kernel_rfl) (by kernel_rfl) (by kernel_rfl) (fun _ _ _ h=>h) (Or.inr ⟨by rfl,rfl⟩) (by assumption) ?_;simp only[Act.put,sA,sB,sC];refine wpAnyH_take (i:=7) (oi:=⟨some 67,.load 3 (.tmp 66),3,_,_,some (3,true)⟩) (v:=undef) rfl (by kernel_rfl) (by kernel_rfl) (by kernel_rfl) (fun _ _ _ h=>h) (Or.inr ⟨by rfl,rfl⟩) (by assumption) ?_;simp only[Act.put,sA,sB,sC];refine wpAnyH_take (i:=8) (oi:=⟨some 68,.binOp .neq 3 (.tmp 65) (.tmp 67) 3,4,_,_,some (3,true)⟩) (v:=undef) rfl (by kernel_rfl) (by kernel_rfl) (by kernel_rfl) (fun _ _ _ h=>h) (Or.inr ⟨by rfl,rfl⟩) (by assumption) ?_;simp only[Act.put,sA,sB,sC];refine tQ 9 ⟨some 69,.pick (.tmp 63) (.tmp 68) (.const (Value.bool false)),4,_,_,none⟩ ?_;simp only[Act.put,sA,sB,sC];refine wpAnyH_done (by kernel_rfl) ?_ _;clear hHeld;go_wp2_with fail;go_ret;exact⟨rfl,hs.drop⟩
    |false=>
      have HG:=hQd (show zCH first last (l.map (·.1)) (-1) first=.ok g from HT.out)
      by_cases c1:maxt=g
      · subst c1;obtain rfl:0=e:=by rw[←hee];simp
        clear hee;go_upto_region 10 with (fail);have hs:=H.out.drew;refine wp_region_held_drew (S:=fun w'=>w'.cell? ⟨hb,0,none⟩=some (.int .i64 base)∧w'.cell? ⟨hb,1,none⟩=some (.int .i64 leader)∧w'.cell? ⟨hb,2,none⟩=some (.bool false)∧w'.cell? ⟨hb,3,none⟩=some (.bool txn)∧w'.cell? ⟨hb,4,none⟩=some (.bool ctl)∧w'.cell? ⟨hb,5,none⟩=some (.int .i64 last)∧w'.cell? ⟨hb,6,none⟩=some (.int .i64 first)∧w'.cell? ⟨hb,7,none⟩=some (.int .i64 maxt)∧w'.cell? ⟨hb,8,none⟩=some (.int .i64 prod)∧w'.cell? ⟨hb,9,none⟩=some (.int .i64 epoch)∧w'.cell? ⟨hb,10,none⟩=some (.int .i64 sq)∧w'.cell? ⟨hb,11,none⟩=some (.slice q l.length cap)) (by kernel_rfl) (let ⟨x0,x1,x2,x3,x4,x5,x6,x7,x8,x9,x10,x11,_⟩:=zAc (b:=hb) hs;⟨x0,x1,x2,x3,x4,x5,x6,x7,x8,x9,x10,x11⟩) (fun hHeld=> ?_);refine tQ 0 ⟨some 60,.fieldAddr 30 (.tmp 1) 2,0,_,_,none⟩ ?_;simp only[Act.put,sA,sB,sC];refine tQ 1 ⟨some 61,.load 4 (.tmp 60),4,_,_,none⟩ ?_;simp only[Act.put,sA,sB,sC];refine tQ 2 ⟨some 62,.unOp UnOp.not 4 (.tmp 61),4,_,_,none⟩ ?_;simp only[Act.put,sA,sB,sC];refine tQ 3 ⟨some 63,.move (.tmp 62),4,_,_,none⟩ ?_;simp only[Act.put,sA,sB,sC];refine tQ 4 ⟨some 64,.load 30 (.tmp 1),30,_,_,some (3,true)⟩ ?_;simp only[Act.put,sA,sB,sC];refine tQ 6 ⟨some 66,.fieldAddr 30 (.tmp 1) 7,0,_,_,some (3,true)⟩ ?_;simp only[Act.put,sA,sB,sC];refine tQ 7 ⟨some 67,.load 3 (.tmp 66),3,_,_,some (3,true)⟩ ?_;simp only[Act.put,sA,sB,sC];refine wpAnyH_ready (rs:=[5]) (by kernel_rfl) (by simp) (AllReadyH.cons (o:=⟨some 65,.call {callee:=.value (.func 58),args:= #[.tmp 64],argTypes:= #[30]},3,_,_,some (3,true)⟩) rfl (fun KK hK=> ?_) AllReadyH.nil);go_simp;go_at_call 58;with_reducible refine(zFn base leader false txn ctl last first maxt prod epoch sq l _ _ _ HG.out HF.out HFT.out HLL.out HK.out hs).mono ?_;rintro e wq ⟨rfl,hs⟩;refine hK.out _ _ (let ⟨x0,x1,x2,x3,x4,x5,x6,x7,x8,x9,x10,x11,_⟩:=zAc (b:=hb) hs;⟨x0,x1,x2,x3,x4,x5,x6,x7,x8,x9,x10,x11⟩) (fun hHeld=> ?_);clear hK KK
        exact zq14
      · obtain rfl:11=e:=by rw[←hee];simp[c1]
        have b1:(g==maxt)=false:=by rw[beq_eq_false_iff_ne];exact fun h=>c1 h.symm
        have b2:(g !=maxt)=true:=by simp[bne,b1]
        clear hee c1;go_upto_region 10 with (fail);have hs:=H.out.drew;refine wp_region_held_drew (S:=fun w'=>w'.cell? ⟨hb,0,none⟩=some (.int .i64 base)∧w'.cell? ⟨hb,1,none⟩=some (.int .i64 leader)∧w'.cell? ⟨hb,2,none⟩=some (.bool false)∧w'.cell? ⟨hb,3,none⟩=some (.bool txn)∧w'.cell? ⟨hb,4,none⟩=some (.bool ctl)∧w'.cell? ⟨hb,5,none⟩=some (.int .i64 last)∧w'.cell? ⟨hb,6,none⟩=some (.int .i64 first)∧w'.cell? ⟨hb,7,none⟩=some (.int .i64 maxt)∧w'.cell? ⟨hb,8,none⟩=some (.int .i64 prod)∧w'.cell? ⟨hb,9,none⟩=some (.int .i64 epoch)∧w'.cell? ⟨hb,10,none⟩=some (.int .i64 sq)∧w'.cell? ⟨hb,11,none⟩=some (.slice q l.length cap)) (by kernel_rfl) (let ⟨x0,x1,x2,x3,x4,x5,x6,x7,x8,x9,x10,x11,_⟩:=zAc (b:=hb) hs;⟨x0,x1,x2,x3,x4,x5,x6,x7,x8,x9,x10,x11⟩) (fun hHeld=> ?_);refine tQ 0 ⟨some 60,.fieldAddr 30 (.tmp 1) 2,0,_,_,none⟩ ?_;simp only[Act.put,sA,sB,sC];refine tQ 1 ⟨some 61,.load 4 (.tmp 60),4,_,_,none⟩ ?_;simp only[Act.put,sA,sB,sC];refine tQ 2 ⟨some 62,.unOp UnOp.not 4 (.tmp 61),4,_,_,none⟩ ?_;simp only[Act.put,sA,sB,sC];refine tQ 3 ⟨some 63,.move (.tmp 62),4,_,_,none⟩ ?_;simp only[Act.put,sA,sB,sC];refine tQ 4 ⟨some 64,.load 30 (.tmp 1),30,_,_,some (3,true)⟩ ?_;simp only[Act.put,sA,sB,sC];refine tQ 6 ⟨some 66,.fieldAddr 30 (.tmp 1) 7,0,_,_,some (3,true)⟩ ?_;simp only[Act.put,sA,sB,sC];refine tQ 7 ⟨some 67,.load 3 (.tmp 66),3,_,_,some (3,true)⟩ ?_;simp only[Act.put,sA,sB,sC];refine wpAnyH_ready (rs:=[5]) (by kernel_rfl) (by simp) (AllReadyH.cons (o:=⟨some 65,.call {callee:=.value (.func 58),args:= #[.tmp 64],argTypes:= #[30]},3,_,_,some (3,true)⟩) rfl (fun KK hK=> ?_) AllReadyH.nil);go_simp;go_at_call 58;with_reducible refine(zFn base leader false txn ctl last first maxt prod epoch sq l _ _ _ HG.out HF.out HFT.out HLL.out HK.out hs).mono ?_;rintro e wq ⟨rfl,hs⟩;refine hK.out _ _ (let ⟨x0,x1,x2,x3,x4,x5,x6,x7,x8,x9,x10,x11,_⟩:=zAc (b:=hb) hs;⟨x0,x1,x2,x3,x4,x5,x6,x7,x8,x9,x10,x11⟩) (fun hHeld=> ?_);clear hK KK
        exact zq14
variable {W0 w:World}{K:Know}{L:List Res}
theorem zAj(n lo:Int)(r:Bool)(hr:decide (lo≤n∧n≤2147483647)=r)(h:St W0 w K L):
   Calls Tryz.prog 23 #[.int .i64 n,.int .i64 lo] w fun en w'=>en=.returned (.bool r)∧St W0 w' K L:=by
 have H:=hQd h;clear h
 by_cases h1:lo≤n
 · have d1:decide (lo≤n)=true:=decide_eq_true h1
   by_cases h2:n≤2147483647
   · have d2:decide (n≤2147483647)=true:=decide_eq_true h2;obtain rfl:true=r:=(decide_eq_true ⟨h1,h2⟩).symm.trans hr;clear h1 h2;go_enter Tryz.func23,Tryz.ntmps23;go_wp2;go_ret;exact⟨rfl,H.out⟩
   · have d2:decide (n≤2147483647)=false:=decide_eq_false h2;obtain rfl:false=r:=(decide_eq_false (fun x=>h2 x.2)).symm.trans hr;clear h1 h2;go_enter Tryz.func23,Tryz.ntmps23;go_wp2;go_ret;exact⟨rfl,H.out⟩
 · have d1:decide (lo≤n)=false:=decide_eq_false h1;obtain rfl:false=r:=(decide_eq_false (fun x=>h1 x.1)).symm.trans hr;clear h1;go_enter Tryz.func23,Tryz.ntmps23;go_wp2;go_ret;exact⟨rfl,H.out⟩
theorem zBi(base leader:Int)(app txn ctl:Bool)(last first maxt prod epoch sq:Int)(rv:Value)(r:Bool)(hr:(if prod= -1 then decide (epoch= -1∧sq= -1∧txn=false)else if prod<0∨¬(0≤epoch∧epoch≤32767)then false else if ctl then decide (sq= -1)else decide (0≤sq∧sq≤2147483647))=r)(h:St W0 w K L):
   Calls Tryz.prog 24 #[.agg #[.int .i64 base,.int .i64 leader,.bool app,.bool txn,.bool ctl,.int .i64 last,.int .i64 first,.int .i64 maxt,.int .i64 prod,.int .i64 epoch,.int .i64 sq,rv]] w fun en w'=>en=.returned (.bool r)∧St W0 w' K L:=by
 have h1:=h.allocRaw #[.int .i64 base,.int .i64 leader,.bool app,.bool txn,.bool ctl,.int .i64 last,.int .i64 first,.int .i64 maxt,.int .i64 prod,.int .i64 epoch,.int .i64 sq,rv] 30;obtain⟨hb,hhb⟩:∃b,w.heap.size=b:=⟨_,rfl⟩;rw[hhb]at h1;obtain⟨x0,x1,x2,x3,x4,x5,x6,x7,x8,x9,x10,x11,y0,y1,y2,y3,y4,y5,y6,y7,y8,y9,y10,y11⟩:=zAc (b:=hb) (h1);have H:=hQd h1;clear h h1
 by_cases c0:prod= -1
 · rw[if_pos c0]at hr;subst c0
   by_cases c1:epoch= -1
   · subst c1
     by_cases c2:sq= -1
     · subst c2;obtain rfl:(!txn)=r:=by rw[←hr];cases txn<;>rfl
       clear hr;go_enter Tryz.func24,Tryz.ntmps24;go_wp2;go_ret;exact⟨rfl,H.out.drop⟩
     · obtain rfl:false=r:=by rw[←hr];exact(decide_eq_false (fun x=>c2 x.2.1)).symm
       have b2:(sq== -1)=false:=by rw[beq_eq_false_iff_ne];exact c2
       clear hr c2;go_enter Tryz.func24,Tryz.ntmps24;go_wp2;go_ret;exact⟨rfl,H.out.drop⟩
   · obtain rfl:false=r:=by rw[←hr];exact(decide_eq_false (fun x=>c1 x.1)).symm
     have b1:(epoch== -1)=false:=by rw[beq_eq_false_iff_ne];exact c1
     clear hr c1;go_enter Tryz.func24,Tryz.ntmps24;go_wp2;go_ret;exact⟨rfl,H.out.drop⟩
 · rw[if_neg c0]at hr;have b0:(prod== -1)=false:=by rw[beq_eq_false_iff_ne];exact c0
   by_cases c1:prod<0
   · rw[if_pos (.inl c1)]at hr;subst hr;have d1:decide (prod<0)=true:=decide_eq_true c1;clear c0 c1;go_enter Tryz.func24,Tryz.ntmps24;go_wp2;go_ret;exact⟨rfl,H.out.drop⟩
   · have d1:decide (prod<0)=false:=decide_eq_false c1
     by_cases c2:epoch<0
     · rw[if_pos (.inr (by omega))]at hr;subst hr;have d2:decide (epoch<0)=true:=decide_eq_true c2;clear c0 c1 c2;go_enter Tryz.func24,Tryz.ntmps24;go_wp2;go_ret;exact⟨rfl,H.out.drop⟩
     · have d2:decide (epoch<0)=false:=decide_eq_false c2
       by_cases c3:32767<epoch
       · rw[if_pos (.inr (by omega))]at hr;subst hr;have d3:decide ((32767:Int)<epoch)=true:=decide_eq_true c3;clear c0 c1 c2 c3;go_enter Tryz.func24,Tryz.ntmps24;go_wp2;go_ret;exact⟨rfl,H.out.drop⟩
       · have d3:decide ((32767:Int)<epoch)=false:=decide_eq_false c3;rw[if_neg (by rintro(x|x);exact c1 x;exact x (by omega))]at hr;clear c0 c1 c2 c3
         cases ctl with
         |true=>
          obtain rfl:(sq== -1)=r:=by rw[←hr];rfl
          clear hr;go_enter Tryz.func24,Tryz.ntmps24;go_wp2;go_ret;exact⟨rfl,H.out.drop⟩
         |false=>
          have HS:=hQd (show decide (0≤sq∧sq≤2147483647)=r from hr);clear hr;go_enter Tryz.func24,Tryz.ntmps24;go_wp2_with (go_at_call 23;(with_reducible refine(zAj sq 0 _ HS.out H.out).mono ?_);rintro e_ wn ⟨rfl,h⟩;replace H:=hQd h;clear h;obtain⟨x0,x1,x2,x3,x4,x5,x6,x7,x8,x9,x10,x11,y0,y1,y2,y3,y4,y5,y6,y7,y8,y9,y10,y11⟩:=zAc (b:=hb) (H.out));go_ret;exact⟨rfl,H.out.drop⟩
theorem zq8{p:Prop}(h:p:=by
  have hd:=zB6 l k hlt _ rfl;obtain⟨b,off,hqq⟩:=zBQ HK.out H.out (by omega);subst hqq;obtain⟨⟨x,vx⟩,hx⟩:∃x,l[k]=x:=⟨_,rfl⟩;have cc:=zAY HK.out H.out k hlt (x,vx) hx;have hmem:(x,vx)∈l:=hx ▸ List.getElem_mem hlt;have xf:x.R∧HFit x.hdrs∧x.sum≤1000000:=HFT.out (x,vx) hmem;have xk:K.has (Know.flat RHdr vx 3 x.hdrs):=zA5 HK.out hmem;obtain⟨qx,capx,hvx⟩:=zAu xk H.out;subst hvx;simp only at cc;obtain⟨c0,c1,c2,c3,c4,c5,c6⟩:=cc;rw[←Nat.add_assoc]at c1 c2 c3 c4 c5 c6;have hx1:l[k].1=x:=by rw[hx]
  have XF:=hQd xf;have XK:=hQd xk;have HX:=hQd hx1;clear xf xk hx1 hx hmem;have hki:(k:Int)<(l.length:Int):=by omega
  rw[HX.out]at hd;have hc:=HC.out;rw[hd]at hc;have hc:(if zAZ x=0 then zBT ((l.map (·.1)).drop (k+1))else zAZ x)=tot:=hc;have XL:=hQd (show x.hdrs.length≤9223372036854775807 by have:=zKw XF.out.2.2;omega);clear hd
  by_cases c1:zAZ x=0
  · rw[if_pos c1]at hc;have HC2:=hQd hc;have ER:=hQd c1;clear hc c1;go_wp2_with (go_at_call 25;(with_reducible refine(zFr x (.slice qx x.hdrs.length capx) _ ER.out XL.out XK.out H.out).mono ?_);rintro e_ wn ⟨rfl,h⟩;replace H:=hQd h;clear h;obtain⟨x0,x1,x2,x3,x4,x5,x6,x7,x8,x9,x10,x11,y0,y1,y2,y3,y4,y5,y6,y7,y8,y9,y10,y11⟩:=zAc (b:=hb) (H.out));go_roundw
    case rel=>exact⟨k+1,hlt,by go_num,HC2.out,H.out⟩
    case measure=>first|(simp[intOf];done)|(simp[intOf];omega)
  · rw[if_neg c1]at hc;have ER:=hQd hc;have gz:(tot==0)=false:=by rw[beq_eq_false_iff_ne,←hc];exact c1
    obtain rfl:tot=e:=HTE.out (by rw[←hc];exact c1);clear hc c1;go_wp2_with (go_at_call 25;(with_reducible refine(zFr x (.slice qx x.hdrs.length capx) _ ER.out XL.out XK.out H.out).mono ?_);rintro e_ wn ⟨rfl,h⟩;replace H:=hQd h;clear h;obtain⟨x0,x1,x2,x3,x4,x5,x6,x7,x8,x9,x10,x11,y0,y1,y2,y3,y4,y5,y6,y7,y8,y9,y10,y11⟩:=zAc (b:=hb) (H.out));go_ret;exact⟨rfl,H.out.drop⟩):p:=h
theorem zDi(base leader:Int)(app txn ctl:Bool)(last first maxt prod epoch sq:Int)(l:List (RecS×Value))(q:Option Addr)(cap:Nat)(e:Int)(he:zAA ⟨base,leader,app,txn,ctl,last,first,maxt,prod,epoch,sq,l.map (·.1)⟩=e)(hmx:first≤9223372036854775807)(hb0:Rn base)(hfit:FitB l)(hll:l.length≤1000000){W0 w:World}{K:Know}{L:List Res}(hk:K.has (Know.recs (.slice q l.length cap) l))(h:St W0 w K L):
    Calls Tryz.prog 8 #[.agg #[.int .i64 base,.int .i64 leader,.bool app,.bool txn,.bool ctl,.int .i64 last,.int .i64 first,.int .i64 maxt,.int .i64 prod,.int .i64 epoch,.int .i64 sq,.slice q l.length cap]] w fun en w'=>en=.returned (.int .i64 e)∧St W0 w' K L:=by
  have HK:=hQd hk;have HFT:=hQd hfit;have HLL:=hQd hll;unfold Rn at hb0;have h1:=h.allocRaw #[.int .i64 base,.int .i64 leader,.bool app,.bool txn,.bool ctl,.int .i64 last,.int .i64 first,.int .i64 maxt,.int .i64 prod,.int .i64 epoch,.int .i64 sq,.slice q l.length cap] 30;obtain⟨hb,hhb⟩:∃b,w.heap.size=b:=⟨_,rfl⟩;rw[hhb]at h1;obtain⟨x0,x1,x2,x3,x4,x5,x6,x7,x8,x9,x10,x11,y0,y1,y2,y3,y4,y5,y6,y7,y8,y9,y10,y11⟩:=zAc (b:=hb) (h1);have H:=hQd h1;clear h h1 hk hfit;unfold zAA at he;simp only[List.length_map]at he
  by_cases p1:BatS.placed ⟨base,leader,app,txn,ctl,last,first,maxt,prod,epoch,sq,l.map (·.1)⟩=false
  · rw[if_pos p1]at he;subst he
    by_cases g0:0≤base
    case neg=>
      have d0:decide (base<0)=true:=decide_eq_true (by omega);clear g0;clear p1 hmx hll hb0;go_enter Tryz.func8,Tryz.ntmps8
      go_wp2_with (first
    |(go_at_call 23;(with_reducible refine(zAj leader (-1) _ HW1.out H.out).mono ?_);rintro e_ wn ⟨rfl,h⟩;replace H:=hQd h;clear h;obtain⟨x0,x1,x2,x3,x4,x5,x6,x7,x8,x9,x10,x11,y0,y1,y2,y3,y4,y5,y6,y7,y8,y9,y10,y11⟩:=zAc (b:=hb) (H.out))
    |(go_at_call 23;(with_reducible refine(zAj last 0 _ HW2.out H.out).mono ?_);rintro e_ wn ⟨rfl,h⟩;replace H:=hQd h;clear h;obtain⟨x0,x1,x2,x3,x4,x5,x6,x7,x8,x9,x10,x11,y0,y1,y2,y3,y4,y5,y6,y7,y8,y9,y10,y11⟩:=zAc (b:=hb) (H.out)))
      go_ret;exact⟨rfl,H.out.drop⟩
    by_cases g1: -1≤leader∧leader≤2147483647
    case neg=>
      have d0:decide (base<0)=false:=decide_eq_false (by omega);have HW1:=hQd (show decide (-1≤leader∧leader≤2147483647)=false from decide_eq_false g1);clear g0 g1;clear p1 hmx hll hb0;go_enter Tryz.func8,Tryz.ntmps8
      go_wp2_with (first
    |(go_at_call 23;(with_reducible refine(zAj leader (-1) _ HW1.out H.out).mono ?_);rintro e_ wn ⟨rfl,h⟩;replace H:=hQd h;clear h;obtain⟨x0,x1,x2,x3,x4,x5,x6,x7,x8,x9,x10,x11,y0,y1,y2,y3,y4,y5,y6,y7,y8,y9,y10,y11⟩:=zAc (b:=hb) (H.out))
    |(go_at_call 23;(with_reducible refine(zAj last 0 _ HW2.out H.out).mono ?_);rintro e_ wn ⟨rfl,h⟩;replace H:=hQd h;clear h;obtain⟨x0,x1,x2,x3,x4,x5,x6,x7,x8,x9,x10,x11,y0,y1,y2,y3,y4,y5,y6,y7,y8,y9,y10,y11⟩:=zAc (b:=hb) (H.out)))
      go_ret;exact⟨rfl,H.out.drop⟩
    by_cases g2:0≤last∧last≤2147483647
    case neg=>
      have d0:decide (base<0)=false:=decide_eq_false (by omega);have HW1:=hQd (show decide (-1≤leader∧leader≤2147483647)=true from decide_eq_true g1);have HW2:=hQd (show decide (0≤last∧last≤2147483647)=false from decide_eq_false g2);clear g0 g1 g2;clear p1 hmx hll hb0;go_enter Tryz.func8,Tryz.ntmps8
      go_wp2_with (first
    |(go_at_call 23;(with_reducible refine(zAj leader (-1) _ HW1.out H.out).mono ?_);rintro e_ wn ⟨rfl,h⟩;replace H:=hQd h;clear h;obtain⟨x0,x1,x2,x3,x4,x5,x6,x7,x8,x9,x10,x11,y0,y1,y2,y3,y4,y5,y6,y7,y8,y9,y10,y11⟩:=zAc (b:=hb) (H.out))
    |(go_at_call 23;(with_reducible refine(zAj last 0 _ HW2.out H.out).mono ?_);rintro e_ wn ⟨rfl,h⟩;replace H:=hQd h;clear h;obtain⟨x0,x1,x2,x3,x4,x5,x6,x7,x8,x9,x10,x11,y0,y1,y2,y3,y4,y5,y6,y7,y8,y9,y10,y11⟩:=zAc (b:=hb) (H.out)))
      go_ret;exact⟨rfl,H.out.drop⟩
    by_cases g3:base≤9223372036854775807 - last
    case neg=>
      have d0:decide (base<0)=false:=decide_eq_false (by omega);have HW1:=hQd (show decide (-1≤leader∧leader≤2147483647)=true from decide_eq_true g1);have HW2:=hQd (show decide (0≤last∧last≤2147483647)=true from decide_eq_true g2);obtain⟨ml,hml⟩:∃ml,9223372036854775807 - base=ml:=⟨_,rfl⟩;have wl:wrap64 (9223372036854775807 - base)=ml:=by rw[←hml];unfold wrap64;omega
      have wl2:IntKind.i64.wrap (9223372036854775807 - base)=ml:=by rw[←hml];exact IntWalk.i64_in _ (by omega)
      have d3:decide (ml<last)=true:=by rw[←hml];exact decide_eq_true (by omega)
      clear g0 g1 g2 g3 hml;clear p1 hmx hll hb0;go_enter Tryz.func8,Tryz.ntmps8
      go_wp2_with (first
    |(go_at_call 23;(with_reducible refine(zAj leader (-1) _ HW1.out H.out).mono ?_);rintro e_ wn ⟨rfl,h⟩;replace H:=hQd h;clear h;obtain⟨x0,x1,x2,x3,x4,x5,x6,x7,x8,x9,x10,x11,y0,y1,y2,y3,y4,y5,y6,y7,y8,y9,y10,y11⟩:=zAc (b:=hb) (H.out))
    |(go_at_call 23;(with_reducible refine(zAj last 0 _ HW2.out H.out).mono ?_);rintro e_ wn ⟨rfl,h⟩;replace H:=hQd h;clear h;obtain⟨x0,x1,x2,x3,x4,x5,x6,x7,x8,x9,x10,x11,y0,y1,y2,y3,y4,y5,y6,y7,y8,y9,y10,y11⟩:=zAc (b:=hb) (H.out)))
      go_ret;exact⟨rfl,H.out.drop⟩
    by_cases g4:0≤first
    case neg=>
      have d0:decide (base<0)=false:=decide_eq_false (by omega);have HW1:=hQd (show decide (-1≤leader∧leader≤2147483647)=true from decide_eq_true g1);have HW2:=hQd (show decide (0≤last∧last≤2147483647)=true from decide_eq_true g2);obtain⟨ml,hml⟩:∃ml,9223372036854775807 - base=ml:=⟨_,rfl⟩;have wl:wrap64 (9223372036854775807 - base)=ml:=by rw[←hml];unfold wrap64;omega
      have wl2:IntKind.i64.wrap (9223372036854775807 - base)=ml:=by rw[←hml];exact IntWalk.i64_in _ (by omega)
      have d3:decide (ml<last)=false:=by rw[←hml];exact decide_eq_false (by omega)
      have d4:decide (first<0)=true:=decide_eq_true (by omega);clear g0 g1 g2 g3 g4 hml;clear p1 hmx hll hb0;go_enter Tryz.func8,Tryz.ntmps8
      go_wp2_with (first
    |(go_at_call 23;(with_reducible refine(zAj leader (-1) _ HW1.out H.out).mono ?_);rintro e_ wn ⟨rfl,h⟩;replace H:=hQd h;clear h;obtain⟨x0,x1,x2,x3,x4,x5,x6,x7,x8,x9,x10,x11,y0,y1,y2,y3,y4,y5,y6,y7,y8,y9,y10,y11⟩:=zAc (b:=hb) (H.out))
    |(go_at_call 23;(with_reducible refine(zAj last 0 _ HW2.out H.out).mono ?_);rintro e_ wn ⟨rfl,h⟩;replace H:=hQd h;clear h;obtain⟨x0,x1,x2,x3,x4,x5,x6,x7,x8,x9,x10,x11,y0,y1,y2,y3,y4,y5,y6,y7,y8,y9,y10,y11⟩:=zAc (b:=hb) (H.out)))
      go_ret;exact⟨rfl,H.out.drop⟩
    by_cases g5:0≤maxt
    case neg=>
      have d0:decide (base<0)=false:=decide_eq_false (by omega);have HW1:=hQd (show decide (-1≤leader∧leader≤2147483647)=true from decide_eq_true g1);have HW2:=hQd (show decide (0≤last∧last≤2147483647)=true from decide_eq_true g2);obtain⟨ml,hml⟩:∃ml,9223372036854775807 - base=ml:=⟨_,rfl⟩;have wl:wrap64 (9223372036854775807 - base)=ml:=by rw[←hml];unfold wrap64;omega
      have wl2:IntKind.i64.wrap (9223372036854775807 - base)=ml:=by rw[←hml];exact IntWalk.i64_in _ (by omega)
      have d3:decide (ml<last)=false:=by rw[←hml];exact decide_eq_false (by omega)
      have d4:decide (first<0)=false:=decide_eq_false (by omega);have d5:decide (maxt<0)=true:=decide_eq_true (by omega);clear g0 g1 g2 g3 g4 g5 hml;clear p1 hmx hll hb0;go_enter Tryz.func8,Tryz.ntmps8
      go_wp2_with (first
    |(go_at_call 23;(with_reducible refine(zAj leader (-1) _ HW1.out H.out).mono ?_);rintro e_ wn ⟨rfl,h⟩;replace H:=hQd h;clear h;obtain⟨x0,x1,x2,x3,x4,x5,x6,x7,x8,x9,x10,x11,y0,y1,y2,y3,y4,y5,y6,y7,y8,y9,y10,y11⟩:=zAc (b:=hb) (H.out))
    |(go_at_call 23;(with_reducible refine(zAj last 0 _ HW2.out H.out).mono ?_);rintro e_ wn ⟨rfl,h⟩;replace H:=hQd h;clear h;obtain⟨x0,x1,x2,x3,x4,x5,x6,x7,x8,x9,x10,x11,y0,y1,y2,y3,y4,y5,y6,y7,y8,y9,y10,y11⟩:=zAc (b:=hb) (H.out)))
      go_ret;exact⟨rfl,H.out.drop⟩
    exact absurd (show BatS.placed ⟨base,leader,app,txn,ctl,last,first,maxt,prod,epoch,sq,l.map (·.1)⟩=true from decide_eq_true ⟨g0,g1,g2,g3,g4,g5⟩) (by rw[p1];decide)
  rw[if_neg p1]at he
  have p2:BatS.placed ⟨base,leader,app,txn,ctl,last,first,maxt,prod,epoch,sq,l.map (·.1)⟩=true:=by cases hh:BatS.placed ⟨base,leader,app,txn,ctl,last,first,maxt,prod,epoch,sq,l.map (·.1)⟩with
    |false=>exact absurd hh p1
    |true=>rfl
  obtain⟨g0,g1,g2,g3,g4,g5⟩:=of_decide_eq_true (show decide (0≤base∧(-1≤leader∧leader≤2147483647)∧(0≤last∧last≤2147483647)∧base≤9223372036854775807 - last∧0≤first∧0≤maxt)=true from p2);have HFP:=hQd (show 0≤first∧first≤9223372036854775807 from⟨g4,hmx⟩);have d0:decide (base<0)=false:=decide_eq_false (by omega);have HW1:=hQd (show decide (-1≤leader∧leader≤2147483647)=true from decide_eq_true g1);have HW2:=hQd (show decide (0≤last∧last≤2147483647)=true from decide_eq_true g2);obtain⟨ml,hml⟩:∃ml,9223372036854775807 - base=ml:=⟨_,rfl⟩;have wl:wrap64 (9223372036854775807 - base)=ml:=by rw[←hml];unfold wrap64;omega
  have wl2:IntKind.i64.wrap (9223372036854775807 - base)=ml:=by rw[←hml];exact IntWalk.i64_in _ (by omega)
  have d3:decide (ml<last)=false:=by rw[←hml];exact decide_eq_false (by omega)
  have d4:decide (first<0)=false:=decide_eq_false (by omega);have d5:decide (maxt<0)=false:=decide_eq_false (by omega);clear g0 g1 g2 g3 g4 g5 hml;clear p1 p2 hmx hb0
  by_cases c1:ctl=true∧txn=false
  · rw[if_pos c1]at he;subst he;obtain⟨rfl,rfl⟩:=c1;clear hll;go_enter Tryz.func8,Tryz.ntmps8
    go_wp2_with (first
    |(go_at_call 23;(with_reducible refine(zAj leader (-1) _ HW1.out H.out).mono ?_);rintro e_ wn ⟨rfl,h⟩;replace H:=hQd h;clear h;obtain⟨x0,x1,x2,x3,x4,x5,x6,x7,x8,x9,x10,x11,y0,y1,y2,y3,y4,y5,y6,y7,y8,y9,y10,y11⟩:=zAc (b:=hb) (H.out))
    |(go_at_call 23;(with_reducible refine(zAj last 0 _ HW2.out H.out).mono ?_);rintro e_ wn ⟨rfl,h⟩;replace H:=hQd h;clear h;obtain⟨x0,x1,x2,x3,x4,x5,x6,x7,x8,x9,x10,x11,y0,y1,y2,y3,y4,y5,y6,y7,y8,y9,y10,y11⟩:=zAc (b:=hb) (H.out)))
    go_ret;exact⟨rfl,H.out.drop⟩
  rw[if_neg c1]at he
  by_cases s1:BatS.signed ⟨base,leader,app,txn,ctl,last,first,maxt,prod,epoch,sq,l.map (·.1)⟩=false
  · rw[if_pos s1]at he;subst he;have HS:=hQd (show(if prod= -1 then decide (epoch= -1∧sq= -1∧txn=false)else if prod<0∨¬(0≤epoch∧epoch≤32767)then false else if ctl then decide (sq= -1)else decide (0≤sq∧sq≤2147483647))=false from s1);clear s1 hll
    cases ctl with
    |false=>
      go_enter Tryz.func8,Tryz.ntmps8
      go_wp2_with (first
    |(go_at_call 23;(with_reducible refine(zAj leader (-1) _ HW1.out H.out).mono ?_);rintro e_ wn ⟨rfl,h⟩;replace H:=hQd h;clear h;obtain⟨x0,x1,x2,x3,x4,x5,x6,x7,x8,x9,x10,x11,y0,y1,y2,y3,y4,y5,y6,y7,y8,y9,y10,y11⟩:=zAc (b:=hb) (H.out))
    |(go_at_call 23;(with_reducible refine(zAj last 0 _ HW2.out H.out).mono ?_);rintro e_ wn ⟨rfl,h⟩;replace H:=hQd h;clear h;obtain⟨x0,x1,x2,x3,x4,x5,x6,x7,x8,x9,x10,x11,y0,y1,y2,y3,y4,y5,y6,y7,y8,y9,y10,y11⟩:=zAc (b:=hb) (H.out))
    |(go_at_call 24;(with_reducible refine(zBi _ _ _ _ _ _ _ _ _ _ _ _ _ HS.out H.out).mono ?_);rintro e_ wn ⟨rfl,h⟩;replace H:=hQd h;clear h;obtain⟨x0,x1,x2,x3,x4,x5,x6,x7,x8,x9,x10,x11,y0,y1,y2,y3,y4,y5,y6,y7,y8,y9,y10,y11⟩:=zAc (b:=hb) (H.out)))
      go_ret;exact⟨rfl,H.out.drop⟩
    |true=>
      cases txn with
      |false=>exact absurd ⟨rfl,rfl⟩ c1
      |true=>
        clear c1;go_enter Tryz.func8,Tryz.ntmps8
        go_wp2_with (first
    |(go_at_call 23;(with_reducible refine(zAj leader (-1) _ HW1.out H.out).mono ?_);rintro e_ wn ⟨rfl,h⟩;replace H:=hQd h;clear h;obtain⟨x0,x1,x2,x3,x4,x5,x6,x7,x8,x9,x10,x11,y0,y1,y2,y3,y4,y5,y6,y7,y8,y9,y10,y11⟩:=zAc (b:=hb) (H.out))
    |(go_at_call 23;(with_reducible refine(zAj last 0 _ HW2.out H.out).mono ?_);rintro e_ wn ⟨rfl,h⟩;replace H:=hQd h;clear h;obtain⟨x0,x1,x2,x3,x4,x5,x6,x7,x8,x9,x10,x11,y0,y1,y2,y3,y4,y5,y6,y7,y8,y9,y10,y11⟩:=zAc (b:=hb) (H.out))
    |(go_at_call 24;(with_reducible refine(zBi _ _ _ _ _ _ _ _ _ _ _ _ _ HS.out H.out).mono ?_);rintro e_ wn ⟨rfl,h⟩;replace H:=hQd h;clear h;obtain⟨x0,x1,x2,x3,x4,x5,x6,x7,x8,x9,x10,x11,y0,y1,y2,y3,y4,y5,y6,y7,y8,y9,y10,y11⟩:=zAc (b:=hb) (H.out)))
        go_ret;exact⟨rfl,H.out.drop⟩
  rw[if_neg s1]at he
  have s2:BatS.signed ⟨base,leader,app,txn,ctl,last,first,maxt,prod,epoch,sq,l.map (·.1)⟩=true:=by cases hh:BatS.signed ⟨base,leader,app,txn,ctl,last,first,maxt,prod,epoch,sq,l.map (·.1)⟩with
    |false=>exact absurd hh s1
    |true=>rfl
  have HS:=hQd (show(if prod= -1 then decide (epoch= -1∧sq= -1∧txn=false)else if prod<0∨¬(0≤epoch∧epoch≤32767)then false else if ctl then decide (sq= -1)else decide (0≤sq∧sq≤2147483647))=true from s2);clear s1 s2
  cases ctl with
  |false=>
    rw[if_neg (fun h=>by cases h.1)]at he;obtain⟨tot,htot⟩:∃t,zBT (l.map (·.1))=t:=⟨_,rfl⟩;rw[htot]at he;have HTE:=hQd (show tot≠0→tot=e from fun h=>by rw[if_pos h]at he;exact he);have HTZ:=hQd (show tot=0→BatS.rows ⟨base,leader,app,txn,false,last,first,maxt,prod,epoch,sq,l.map (·.1)⟩=e from fun h=>by rw[if_neg (fun x=>x h),if_neg (fun h=>by cases h.1)]at he;exact he);have HT:=hQd htot;clear he htot c1;go_enter Tryz.func8,Tryz.ntmps8
    go_wp2_with (first
        |(go_at_call 23;(with_reducible refine(zAj leader (-1) _ HW1.out H.out).mono ?_);rintro e_ wn ⟨rfl,h⟩;replace H:=hQd h;clear h;obtain⟨x0,x1,x2,x3,x4,x5,x6,x7,x8,x9,x10,x11,y0,y1,y2,y3,y4,y5,y6,y7,y8,y9,y10,y11⟩:=zAc (b:=hb) (H.out))
        |(go_at_call 23;(with_reducible refine(zAj last 0 _ HW2.out H.out).mono ?_);rintro e_ wn ⟨rfl,h⟩;replace H:=hQd h;clear h;obtain⟨x0,x1,x2,x3,x4,x5,x6,x7,x8,x9,x10,x11,y0,y1,y2,y3,y4,y5,y6,y7,y8,y9,y10,y11⟩:=zAc (b:=hb) (H.out))
        |(go_at_call 24;(with_reducible refine(zBi _ _ _ _ _ _ _ _ _ _ _ _ _ HS.out H.out).mono ?_);rintro e_ wn ⟨rfl,h⟩;replace H:=hQd h;clear h;obtain⟨x0,x1,x2,x3,x4,x5,x6,x7,x8,x9,x10,x11,y0,y1,y2,y3,y4,y5,y6,y7,y8,y9,y10,y11⟩:=zAc (b:=hb) (H.out)))
    go_loopw [3,4] (fun iv _ wr=>∃k:Nat,k≤l.length∧iv=.int .i64 k∧Hid (zBT ((l.map (·.1)).drop k)=tot)∧St W0 wr K (.raw hb #[.int .i64 base,.int .i64 leader,.bool app,.bool txn,.bool false,.int .i64 last,.int .i64 first,.int .i64 maxt,.int .i64 prod,.int .i64 epoch,.int .i64 sq,.slice q l.length cap] 30::L)) (fun iv _ _=>l.length - (intOf iv).toNat)
    case atStart=>exact⟨0,Nat.zero_le _,rfl,HT,H.out⟩
    case round=>
      clear x0 y0 x1 y1 x2 y2 x3 y3 x4 y4 x5 y5 x6 y6 x7 y7 x8 y8 x9 y9 x10 y10 x11 y11;obtain⟨k,hkl,rfl,HC,hst⟩:=hrel;clear H;have H:=hQd hst;clear hst;obtain⟨x0,x1,x2,x3,x4,x5,x6,x7,x8,x9,x10,x11,y0,y1,y2,y3,y4,y5,y6,y7,y8,y9,y10,y11⟩:=zAc (b:=hb) (H.out)
      by_cases hlt:k<l.length
      · exact zq8
      · obtain rfl:l.length=k:=by omega
        have hc:=HC.out;rw[List.drop_of_length_le (by simp)]at hc;obtain rfl:0=tot:=hc;have HROW:=hQd (HTZ.out rfl);go_wp2_with (go_at_call 27;(with_reducible refine(zEA _ _ _ _ _ _ _ _ _ _ _ l _ _ _ HROW.out HFP.out HFT.out HLL.out HK.out H.out).mono ?_);rintro e_ wn ⟨rfl,h⟩;replace H:=hQd h;clear h);go_ret;exact⟨rfl,H.out.drop⟩
  |true=>
    cases txn with
    |false=>exact absurd ⟨rfl,rfl⟩ c1
    |true=>
      clear c1
      by_cases c2:l.length=1
      · rw[if_neg (fun h=>h.2 c2)]at he;have HLEN:=hQd c2;have bl:((l.length:Int)==1)=true:=by rw[c2];rfl
        have bl2:((l.length:Int) !=1)=false:=by rw[c2];rfl
        obtain⟨tot,htot⟩:∃t,zBT (l.map (·.1))=t:=⟨_,rfl⟩;rw[htot]at he;have HTE:=hQd (show tot≠0→tot=e from fun h=>by rw[if_pos h]at he;exact he)
        have HEN:=hQd (show ∀(x:RecS) (h0:0<l.length),(l[0]'h0).1=x→((zBM x).2.2≠0→tot=0→(zBM x).2.2=e)∧((zBM x).2.2=0→tot=0→BatS.rows ⟨base,leader,app,true,true,last,first,maxt,prod,epoch,sq,l.map (·.1)⟩=e)from fun x h0 hx=>by
          have hm:l.map (·.1)=x::(l.map (·.1)).drop 1:=by have:=zB6 l 0 (by omega) x hx;simpa using this
          have hens:BatS.ends ⟨base,leader,app,true,true,last,first,maxt,prod,epoch,sq,l.map (·.1)⟩=(zBM x).2.2:=by unfold BatS.ends;simp only;rw[hm]
          rw[hens]at he;refine⟨fun h h2=> ?_,fun h h2=> ?_⟩
          · rw[if_neg (fun y=>y h2),if_pos ⟨rfl,h⟩]at he;exact he
          · rw[if_neg (fun y=>y h2),if_neg (fun y=>y.2 h)]at he;exact he)
        have HT:=hQd htot;clear he htot c2;go_enter Tryz.func8,Tryz.ntmps8
        go_wp2_with (first
            |(go_at_call 23;(with_reducible refine(zAj leader (-1) _ HW1.out H.out).mono ?_);rintro e_ wn ⟨rfl,h⟩;replace H:=hQd h;clear h;obtain⟨x0,x1,x2,x3,x4,x5,x6,x7,x8,x9,x10,x11,y0,y1,y2,y3,y4,y5,y6,y7,y8,y9,y10,y11⟩:=zAc (b:=hb) (H.out))
            |(go_at_call 23;(with_reducible refine(zAj last 0 _ HW2.out H.out).mono ?_);rintro e_ wn ⟨rfl,h⟩;replace H:=hQd h;clear h;obtain⟨x0,x1,x2,x3,x4,x5,x6,x7,x8,x9,x10,x11,y0,y1,y2,y3,y4,y5,y6,y7,y8,y9,y10,y11⟩:=zAc (b:=hb) (H.out))
            |(go_at_call 24;(with_reducible refine(zBi _ _ _ _ _ _ _ _ _ _ _ _ _ HS.out H.out).mono ?_);rintro e_ wn ⟨rfl,h⟩;replace H:=hQd h;clear h;obtain⟨x0,x1,x2,x3,x4,x5,x6,x7,x8,x9,x10,x11,y0,y1,y2,y3,y4,y5,y6,y7,y8,y9,y10,y11⟩:=zAc (b:=hb) (H.out)))
        go_loopw [3,4] (fun iv _ wr=>∃k:Nat,k≤l.length∧iv=.int .i64 k∧Hid (zBT ((l.map (·.1)).drop k)=tot)∧St W0 wr K (.raw hb #[.int .i64 base,.int .i64 leader,.bool app,.bool true,.bool true,.int .i64 last,.int .i64 first,.int .i64 maxt,.int .i64 prod,.int .i64 epoch,.int .i64 sq,.slice q l.length cap] 30::L)) (fun iv _ _=>l.length - (intOf iv).toNat)
        case atStart=>exact⟨0,Nat.zero_le _,rfl,HT,H.out⟩
        case round=>
          clear x0 y0 x1 y1 x2 y2 x3 y3 x4 y4 x5 y5 x6 y6 x7 y7 x8 y8 x9 y9 x10 y10 x11 y11;obtain⟨k,hkl,rfl,HC,hst⟩:=hrel;clear H;have H:=hQd hst;clear hst;obtain⟨x0,x1,x2,x3,x4,x5,x6,x7,x8,x9,x10,x11,y0,y1,y2,y3,y4,y5,y6,y7,y8,y9,y10,y11⟩:=zAc (b:=hb) (H.out)
          by_cases hlt:k<l.length
          · exact zq8
          · obtain rfl:l.length=k:=by omega
            have hc:=HC.out;rw[List.drop_of_length_le (by simp)]at hc;obtain rfl:0=tot:=hc;obtain⟨b,off,hqq⟩:=zBQ HK.out H.out (by rw[HLEN.out];decide);subst hqq;obtain⟨⟨x,vx⟩,hx⟩:∃x,l[0]'(by rw[HLEN.out];decide)=x:=⟨_,rfl⟩;have cc:=zAY HK.out H.out 0 (by rw[HLEN.out];decide) (x,vx) hx;have hmem:(x,vx)∈l:=hx ▸ List.getElem_mem _;have xf:x.R∧HFit x.hdrs∧x.sum≤1000000:=HFT.out (x,vx) hmem;have xk:K.has (Know.flat RHdr vx 3 x.hdrs):=zA5 HK.out hmem;obtain⟨qx,capx,hvx⟩:=zAu xk H.out;subst hvx;simp only[Nat.zero_mul,Nat.zero_add,Nat.add_zero]at cc;obtain⟨c0,c1,c2,c3,c4,c5,c6⟩:=cc;have XD:=hQd (zHc xf.2.2);have hl0:(0:Int)<(l.length:Int):=by have:=HLEN.out;omega
            obtain⟨⟨i1,i2,i3⟩,hi⟩:∃r,zBM x=r:=⟨_,rfl⟩;have EC:=hQd (show zBC x.key.null x.val.null x.key.data x.val.data x.hdrs.length x.off=(i1,i2,i3)from hi);have hen:=HEN.out x (by rw[HLEN.out];decide) (by rw[hx]);rw[hi]at hen;clear hx hmem xf xk hi
            by_cases c9:i3=0
            · subst c9;have HROW:=hQd (hen.2 rfl rfl);clear hen
              go_wp2_with (first
            |(go_at_call 26;(with_reducible refine(zEd x.time x.off x.key.null x.val.null x.key.data x.val.data qx x.hdrs.length capx (i1,i2,_) EC.out XD.out.1 XD.out.2 H.out).mono ?_);rintro e_ wn ⟨rfl,h⟩;replace H:=hQd h;clear h;obtain⟨x0,x1,x2,x3,x4,x5,x6,x7,x8,x9,x10,x11,y0,y1,y2,y3,y4,y5,y6,y7,y8,y9,y10,y11⟩:=zAc (b:=hb) (H.out))
            |(go_at_call 27;(with_reducible refine(zEA _ _ _ _ _ _ _ _ _ _ _ l _ _ _ HROW.out HFP.out HFT.out HLL.out HK.out H.out).mono ?_);rintro e_ wn ⟨rfl,h⟩;replace H:=hQd h;clear h))
              go_ret;exact⟨rfl,H.out.drop⟩
            · have gz:(i3==0)=false:=by rw[beq_eq_false_iff_ne];exact c9
              obtain rfl:i3=e:=hen.1 c9 rfl;clear hen c9;go_wp2_with (go_at_call 26;(with_reducible refine(zEd x.time x.off x.key.null x.val.null x.key.data x.val.data qx x.hdrs.length capx (i1,i2,_) EC.out XD.out.1 XD.out.2 H.out).mono ?_);rintro e_ wn ⟨rfl,h⟩;replace H:=hQd h;clear h;obtain⟨x0,x1,x2,x3,x4,x5,x6,x7,x8,x9,x10,x11,y0,y1,y2,y3,y4,y5,y6,y7,y8,y9,y10,y11⟩:=zAc (b:=hb) (H.out));go_ret;exact⟨rfl,H.out.drop⟩
      · rw[if_pos ⟨rfl,c2⟩]at he;subst he;have bl:((l.length:Int)==1)=false:=by rw[beq_eq_false_iff_ne];omega
        clear c2 hll;go_enter Tryz.func8,Tryz.ntmps8
        go_wp2_with (first
    |(go_at_call 23;(with_reducible refine(zAj leader (-1) _ HW1.out H.out).mono ?_);rintro e_ wn ⟨rfl,h⟩;replace H:=hQd h;clear h;obtain⟨x0,x1,x2,x3,x4,x5,x6,x7,x8,x9,x10,x11,y0,y1,y2,y3,y4,y5,y6,y7,y8,y9,y10,y11⟩:=zAc (b:=hb) (H.out))
    |(go_at_call 23;(with_reducible refine(zAj last 0 _ HW2.out H.out).mono ?_);rintro e_ wn ⟨rfl,h⟩;replace H:=hQd h;clear h;obtain⟨x0,x1,x2,x3,x4,x5,x6,x7,x8,x9,x10,x11,y0,y1,y2,y3,y4,y5,y6,y7,y8,y9,y10,y11⟩:=zAc (b:=hb) (H.out))
    |(go_at_call 24;(with_reducible refine(zBi _ _ _ _ _ _ _ _ _ _ _ _ _ HS.out H.out).mono ?_);rintro e_ wn ⟨rfl,h⟩;replace H:=hQd h;clear h;obtain⟨x0,x1,x2,x3,x4,x5,x6,x7,x8,x9,x10,x11,y0,y1,y2,y3,y4,y5,y6,y7,y8,y9,y10,y11⟩:=zAc (b:=hb) (H.out)))
        go_ret;exact⟨rfl,H.out.drop⟩
theorem zLL(x:RecS)(hx:x.R)(hs:x.sum≤1000):(encR x).length≤33000:=by
 have h1:=zEg x hx (by omega);have h2:=zCe ⟨false,recF x⟩ (by simp only;omega);simp only at h2;unfold encR
 omega
theorem zEa:∀(l:List RecS) (n:Nat),(∀x∈l,(encR x).length≤n)→(l.flatMap encR).length≤n*l.length
  |[],_,_=>by simp
  |x::t,n,h=>by
    rw[List.flatMap_cons,List.length_append,List.length_cons,Nat.mul_succ];have h1:=zEa t n (fun y hy=>h y (by simp[hy]));have h2:=h x (by simp)
    omega
theorem zCv:∀(l:List (RecS×Value)),zAX l=(l.map (·.1)).flatMap encR
  |[]=>rfl
  |x::t=>by
    have:=zCv t;unfold zAX at*;rw[List.flatMap_cons,List.map_cons,List.flatMap_cons,this]
structure SmallOk (b:BatS):Prop where
  fit:∀x∈b.recs,x.R∧zAZ x=0∧x.sum≤1000
  len:b.recs.length≤12
  err:zAA b=0
  rng:b.R
theorem SmallOk.rows{b:BatS}(h:SmallOk b):b.rowsB.length≤400000:=by
 have:=zEa b.recs 33000 (fun x hx=>zLL x (h.fit x hx).1 (h.fit x hx).2.2);have h2:=h.len;unfold BatS.rowsB
 omega
theorem SmallOk.recs{b:BatS}(h:SmallOk b):∀x∈b.recs,x.R∧zAZ x=0∧x.sum≤1000000:=fun x hx=>⟨(h.fit x hx).1,(h.fit x hx).2.1,by have:=(h.fit x hx).2.2;omega⟩
theorem SmallOk.back{b:BatS}(h:SmallOk b)(t:Bs):zBv (b.enc++t)=.ok (b,b.enc.length):=
 zLr h.err h.rng h.recs (by have:=h.rows;omega) (by have:=h.len;omega) t
theorem BatS.enc_len(b:BatS):b.enc.length=61+b.rowsB.length:=by unfold BatS.enc;rw[List.length_append,zA0]
theorem SmallOk.elen{b:BatS}(h:SmallOk b):b.enc.length≤401000:=by rw[b.enc_len];have:=h.rows;omega
theorem SmallOk.of{b:BatS}{l:List (RecS×Value)}(hl:b.recs=l.map (·.1))(hw:FitW l)(hs:zDs (l.map (·.1))=true)(he:zAA b=0)(hR:b.R):SmallOk b where
 fit:=by
  intro x hx;rw[hl]at hx;have hf:=hw.fit hs;obtain⟨y,hy,rfl⟩:=List.mem_map.1 hx;have hr:=zHm _ (zB7 he).2.2.2;have hss:=hs;unfold zDs at hss;simp only[Bool.and_eq_true]at hss;exact⟨(hf y hy).1,hr y.1 (by rw[hl];exact hx),zEz (zEW _ hss.2 y.1 hx)⟩
 len:=by rw[hl,List.length_map];exact zLc hs
 err:=he
 rng:=hR
theorem zC1{x:PreS}(h:FitsAll x.items):(⟨[],0⟩:OutS).ints x.items=⟨zAi x.items,0⟩:=by
 rw[OutS.ints_put _ _ h]
 rfl
theorem SmallOk.preX{b:BatS}(so:SmallOk b):(Go.Proofs.YtenojajfacacoaaGreatDoor.preX b.enc).1=b.pre b.crc∧(Go.Proofs.YtenojajfacacoaaGreatDoor.preX b.enc).2=2∧zAI b.enc=.ok (b.pre b.crc):=by
 have hb:=so.back [];rw[List.append_nil]at hb;obtain⟨x,hx,_⟩:=zEV hb;have hrow:=so.rows;have hlen:=so.len;have hcr:=b.crc_lt;have f1:=BatS.fitsAll so.err so.rng b.crc (by omega) (by omega) (by omega);have hp:=zIy (b.pre b.crc) f1 (show(49:Int)≤49+(b.rowsB.length:Int) by omega) (show(0:Int)≤(b.recs.length:Int) by omega) b.rowsB;have hp:zAI b.enc=.ok (b.pre b.crc):=hp;obtain⟨_,h2,h3,_⟩:=zBE hp;exact⟨h2,h3,hp⟩
variable {W0 w:World}{K:Know}{L:List Res}
theorem zKz(p:Nat)(o:OutS)(s:Bs)(e:Int)(hx:o.text=(s,e))(h:St W0 w K (.out p o::L)):
  Calls Tryz.prog 50 #[zA6 p] w fun en w'=>en=.returned (.tuple #[.string (bb s),.int .i64 e])∧St W0 w' K (.out p o::L):=by
 have:=zJx p o h;rw[hx]at this;exact this
theorem zHw(p:Nat)(o o2:OutS)(a0 a1 a2 a3 a4 a5 a6 a7 a8 a9 a10 a11:Int)(hx:PreS.R ⟨a0,a1,a2,a3,a4,a5,a6,a7,a8,a9,a10,a11⟩)(ho:o.ints (PreS.items ⟨a0,a1,a2,a3,a4,a5,a6,a7,a8,a9,a10,a11⟩)=o2)(hr:o.ok 200)(h:St W0 w K (.out p o::L)):
  Calls Tryz.prog 121 #[zA6 p,.agg #[.int .i64 a0,.int .i64 a1,.int .i64 a2,.int .i64 a3,.int .i64 a4,.int .i64 a5,.int .i64 a6,.int .i64 a7,.int .i64 a8,.int .i64 a9,.int .i64 a10,.int .i64 a11]] w fun en w'=>en=.returned (.tuple #[])∧St W0 w' K (.out p o2::L):=by
 subst ho;exact zIE p o ⟨a0,a1,a2,a3,a4,a5,a6,a7,a8,a9,a10,a11⟩ hx h hr
theorem zGd(a0 a1 a2 a3 a4 a5 a6 a7 a8 a9 a10 a11:Int)(hx:PreS.R ⟨a0,a1,a2,a3,a4,a5,a6,a7,a8,a9,a10,a11⟩)(o2:OutS)(s:Bs)(e:Int)(ho:(⟨[],0⟩:OutS).ints (PreS.items ⟨a0,a1,a2,a3,a4,a5,a6,a7,a8,a9,a10,a11⟩)=o2)(ht:o2.text=(s,e))(h:St W0 w K L):
  Calls Tryz.prog 87 #[.agg #[.int .i64 a0,.int .i64 a1,.int .i64 a2,.int .i64 a3,.int .i64 a4,.int .i64 a5,.int .i64 a6,.int .i64 a7,.int .i64 a8,.int .i64 a9,.int .i64 a10,.int .i64 a11]] w fun en w'=>en=.returned (.tuple #[.string (bb s),.int .i64 e])∧St W0 w' K L:=by
 have g1:=h.allocRaw #[.int .i64 a0,.int .i64 a1,.int .i64 a2,.int .i64 a3,.int .i64 a4,.int .i64 a5,.int .i64 a6,.int .i64 a7,.int .i64 a8,.int .i64 a9,.int .i64 a10,.int .i64 a11] 130;have g2:=g1.allocOut;obtain⟨hb,hhb⟩:∃b,w.heap.size=b:=⟨_,rfl⟩;obtain⟨po,hpo⟩:∃b,hb+1=b:=⟨_,rfl⟩;simp only[World.size_alloc,hhb,hpo]at g2;obtain⟨x0,x1,x2,x3,x4,x5,x6,x7,x8,x9,x10,x11,y0,y1,y2,y3,y4,y5,y6,y7,y8,y9,y10,y11⟩:=zAc (b:=hb) (g2.p1);have H:=hQd g2;have HX:=hQd hx;have HO:=hQd ho;have HT:=hQd ht;have HR:=hQd (show(⟨[],0⟩:OutS).ok 200 by simp[OutS.ok]);clear g1 g2 h hx ho ht;go_enter Tryz.func87,Tryz.ntmps87
 go_wp2_with (first
  |(go_at_call 121;(with_reducible refine(zHw po _ _ _ _ _ _ _ _ _ _ _ _ _ _ HX.out HO.out HR.out H.out).mono ?_);rintro e_ wn ⟨rfl,h⟩;replace H:=hQd h;clear h)
  |(go_at_call 50;(with_reducible refine(zKz po _ _ _ HT.out H.out).mono ?_);rintro e_ wn ⟨rfl,h⟩;replace H:=hQd h;clear h))
 go_ret2;exact⟨rfl,H.out.drop.drop⟩
theorem zOQ(l:List (RecS×Value))(q:Option Addr)(cap:Nat)(rows:Bs)(hrows:zAX l=rows)(hc:zBT (l.map (·.1))=0)(hfit:FitB l)(hll:l.length≤1000){W0 w:World}{K:Know}{L:List Res}(hk:K.has (Know.recs (.slice q l.length cap) l))(h:St W0 w K L):
  Calls Tryz.prog 85 #[.slice q l.length cap] w fun en w'=>en=.returned (.tuple #[.string (bb rows),.int .i64 0])∧St W0 w' K L:=by
 have g1:=h.allocOut;obtain⟨po,hpo⟩:∃b,w.heap.size=b:=⟨_,rfl⟩;rw[hpo]at g1;have H:=hQd g1;have HK:=hQd hk;have HFT:=hQd hfit;have HC:=hQd hc;have HRW:=hQd hrows;have HLL:=hQd hll;clear h g1 hk hfit hc hrows hll;go_enter Tryz.func85,Tryz.ntmps85;go_wp2;go_loopw [6,9] (fun _ iv wr=>∃k:Nat,k≤l.length∧iv=.int .i64 k∧St W0 wr K (.out po ⟨zAX (l.take k),0⟩::L)) (fun _ iv _=>l.length - (intOf iv).toNat)
 case atStart=>exact⟨0,Nat.zero_le _,rfl,H.out⟩
 case round=>
  obtain⟨k,hkl,rfl,hst⟩:=hrel;clear H;have H:=hQd hst;clear hst
  by_cases hlt:k<l.length
  · have OK:=hQd (show(⟨zAX (l.take k),0⟩:OutS).ok 40000000 by
     have h1:=zI3 (l:=l.take k) (fun y hy=>HFT.out y (List.mem_of_mem_take hy));have h2:=HLL.out;rw[List.length_take]at h1;unfold OutS.ok;simp only
     omega)
    have hok:=zHm _ HC.out l[k].1 (List.mem_map.2 ⟨_,List.getElem_mem hlt,rfl⟩);have het:=zF6 l k hlt;have hll2:=HLL.out;obtain⟨b,off,hqq⟩:=zBQ HK.out H.out (by omega);subst hqq;obtain⟨⟨x,vx⟩,hx⟩:∃x,l[k]=x:=⟨_,rfl⟩;have cc:=zAY HK.out H.out k hlt (x,vx) hx;have hmem:(x,vx)∈l:=hx ▸ List.getElem_mem hlt;have xf:x.R∧HFit x.hdrs∧x.sum≤1000000:=HFT.out (x,vx) hmem;have xk:K.has (Know.flat RHdr vx 3 x.hdrs):=zA5 HK.out hmem;obtain⟨qx,capx,hvx⟩:=zAu xk H.out;subst hvx;simp only at cc;obtain⟨c0,c1,c2,c3,c4,c5,c6⟩:=cc;rw[←Nat.add_assoc]at c1 c2 c3 c4 c5 c6;have hx1:l[k].1=x:=by rw[hx]
    have XF:=hQd xf;have XK:=hQd xk;have HX:=hQd hx1;clear xf xk hx1 hx hmem;obtain⟨wE,hwE⟩:∃b,wr.heap.size=b:=⟨_,rfl⟩;have hki:(k:Int)<(l.length:Int):=by omega
    have h:=H.out.allocRaw #[.int .i64 x.time,.int .i64 x.off,.bool x.key.null,.string (bb x.key.data),.bool x.val.null,.string (bb x.val.data),.slice qx x.hdrs.length capx] 54;rw[hwE]at h;clear H;have H:=hQd h;clear h;rw[HX.out]at hok het;have EO:=hQd (show(⟨zAX (l.take k),0⟩:OutS).putRec x=⟨zAX (l.take (k+1)),0⟩ by rw[zJP _ _ hok,het]);have hll3:(l.length:Int)≤1000:=by omega
    obtain⟨ec0,ec1,ec2,ec3,ec4,ec5,ec6,ef0,ef1,ef2,ef3,ef4,ef5,ef6⟩:=raw7 (b:=wE) (H.out);clear hok het hll2;go_wp2_with (go_at_call 119;(with_reducible refine(zMA po _ _ x (.slice qx x.hdrs.length capx) XF.out.1 XF.out.2.2 EO.out OK.out XK.out H.out.p1).mono ?_);rintro e_ wn ⟨rfl,h⟩;replace H:=hQd h;clear h);go_roundw
    case rel=>exact⟨k+1,hlt,by go_num,H.out.p1.drop⟩
    case measure=>first|(simp[intOf];done)|(simp[intOf];omega)
  · obtain rfl:l.length=k:=by omega
    have h:=H.out;rw[List.take_length,HRW.out]at h;clear H;have H:=hQd h;clear h;have HT:=hQd (show(⟨rows,0⟩:OutS).text=(rows,0)from rfl);go_wp2_with (go_at_call 50;(with_reducible refine(zKz po _ _ _ HT.out H.out).mono ?_);rintro e_ wn ⟨rfl,h⟩;replace H:=hQd h;clear h);go_ret2;exact⟨rfl,H.out.drop⟩
theorem zDS(base leader:Int)(app txn ctl:Bool)(last first maxt prod epoch sq:Int)(l:List (RecS×Value))(q:Option Addr)(cap:Nat)(he:zAA ⟨base,leader,app,txn,ctl,last,first,maxt,prod,epoch,sq,l.map (·.1)⟩=0)(hmx:first≤9223372036854775807)(hfit:FitB l)(hll:l.length≤1000)(rows said0 said1 all:Bs)(x:Nat)(at_:Int)(hrc:zBT (l.map (·.1))=0)(hrw:zAX l=rows)(hrl:rows.length≤100000000)(hat:zAQ app txn ctl 3=at_)
    (r0:PreS.R ⟨base,49+rows.length,leader,0,at_,last,first,maxt,prod,epoch,sq,l.length⟩)(r1:PreS.R ⟨base,49+rows.length,leader,x,at_,last,first,maxt,prod,epoch,sq,l.length⟩)(o0:(⟨[],0⟩:OutS).ints (PreS.items ⟨base,49+rows.length,leader,0,at_,last,first,maxt,prod,epoch,sq,l.length⟩)=⟨said0,0⟩)(o1:(⟨[],0⟩:OutS).ints (PreS.items ⟨base,49+rows.length,leader,x,at_,last,first,maxt,prod,epoch,sq,l.length⟩)=⟨said1,0⟩)(l0:said0.length=61)(l1:said1.length=61)(hx:(zAq 0#32 (said0.drop 21++rows)).toNat=x)(hall:said1++rows=all){W0 w:World}{K:Know}{L:List Res}(hk:K.has (Know.recs (.slice q l.length cap) l))(h:St W0 w K L):
    Calls Tryz.prog 48 #[.agg #[.int .i64 base,.int .i64 leader,.bool app,.bool txn,.bool ctl,.int .i64 last,.int .i64 first,.int .i64 maxt,.int .i64 prod,.int .i64 epoch,.int .i64 sq,.slice q l.length cap]] w fun en w'=>en=.returned (.tuple #[.string (bb all),.int .i64 0])∧St W0 w' K L:=by
  have HK:=hQd hk;have HFT:=hQd hfit;have HLL:=hQd (show l.length≤1000000 by omega);have HL1:=hQd hll;have HMX:=hQd hmx;have HE:=hQd he;have HRW:=hQd hrw;have HRC:=hQd hrc;have AT:=hQd hat;have HSZ:=hQd (show rows.length≤140737488355328 by omega);have R0:=hQd r0;have R1:=hQd r1;have O0:=hQd o0;have O1:=hQd o1;have T0:=hQd (show(⟨said0,0⟩:OutS).text=(said0,0)from rfl);have T1:=hQd (show(⟨said1,0⟩:OutS).text=(said1,0)from rfl);have HX:=hQd hx;have HS21:=hQd (show 21≤said0.length by omega);have HS2:=hQd (show said0.length≤140737488355328 by omega);have HR2:=hQd (show rows.length≤140737488355328 by omega);have HALL:=hQd hall;have hcat:bb said1++bb rows=bb all:=by rw[←hall];exact zAg _ _
  have hg:¬(9223372036854775807<said1.length+rows.length):=by omega
  have t1:True:=trivial;have h1:=h.allocRaw #[.int .i64 base,.int .i64 leader,.bool app,.bool txn,.bool ctl,.int .i64 last,.int .i64 first,.int .i64 maxt,.int .i64 prod,.int .i64 epoch,.int .i64 sq,.slice q l.length cap] 30;obtain⟨hb,hhb⟩:∃b,w.heap.size=b:=⟨_,rfl⟩;rw[hhb]at h1;obtain⟨x0,x1,x2,x3,x4,x5,x6,x7,x8,x9,x10,x11,y0,y1,y2,y3,y4,y5,y6,y7,y8,y9,y10,y11⟩:=zAc (b:=hb) (h1);have H:=hQd h1;clear h h1 hk hfit hll hmx he hrw hrc hat r0 r1 o0 o1 l0 l1 hx hall hrl;go_enter Tryz.func48,Tryz.ntmps48
  go_wp2_with (first
    |(go_at_call 35;(with_reducible refine(zCR _ _ _ _ _ _ _ _ _ _ _ l _ _ 0 HE.out HMX.out HFT.out HLL.out HK.out H.out).mono ?_);rintro e_ wn ⟨rfl,h⟩;replace H:=hQd h;clear h;obtain⟨x0,x1,x2,x3,x4,x5,x6,x7,x8,x9,x10,x11,y0,y1,y2,y3,y4,y5,y6,y7,y8,y9,y10,y11⟩:=zAc (b:=hb) (H.out))
    |(go_at_call 85;(with_reducible refine(zOQ l _ _ rows HRW.out HRC.out HFT.out HL1.out HK.out H.out).mono ?_);rintro e_ wn ⟨rfl,h⟩;replace H:=hQd h;clear h;obtain⟨x0,x1,x2,x3,x4,x5,x6,x7,x8,x9,x10,x11,y0,y1,y2,y3,y4,y5,y6,y7,y8,y9,y10,y11⟩:=zAc (b:=hb) (H.out))
    |(go_at_call 86;(with_reducible refine(zOR _ _ _ _ _ _ _ _ _ _ _ l _ _ rows.length HSZ.out H.out).mono ?_);rw[AT.out];rintro e_ wn ⟨rfl,h⟩;have h:=h.allocRaw #[.int .i64 base,.int .i64 (49+rows.length),.int .i64 leader,.int .i64 0,.int .i64 at_,.int .i64 last,.int .i64 first,.int .i64 maxt,.int .i64 prod,.int .i64 epoch,.int .i64 sq,.int .i64 l.length] 130;obtain⟨pb,hpb⟩:∃b,wn.heap.size=b:=⟨_,rfl⟩;rw[hpb]at h;replace H:=hQd h;clear h;obtain⟨p0,p1,p2,p3,p4,p5,p6,p7,p8,p9,p10,p11,u0,u1,u2,u3,u4,u5,u6,u7,u8,u9,u10,u11⟩:=zAc (b:=pb) (H.out))
    |(go_at_call 87;have _t:=t1;clear _t;(with_reducible refine(zGd _ _ _ _ _ _ _ _ _ _ _ _ R0.out _ _ _ O0.out T0.out H.out).mono ?_);rintro e_ wn ⟨rfl,h⟩;replace H:=hQd h;clear h;obtain⟨p0,p1,p2,p3,p4,p5,p6,p7,p8,p9,p10,p11,u0,u1,u2,u3,u4,u5,u6,u7,u8,u9,u10,u11⟩:=zAc (b:=pb) (H.out);have t2:True:=trivial;clear t1)
    |(go_at_call 88;(with_reducible refine(zEw said0 rows x HX.out HS21.out HS2.out HR2.out H.out).mono ?_);rintro e_ wn ⟨rfl,h⟩;replace H:=hQd h;clear h;obtain⟨p0,p1,p2,p3,p4,p5,p6,p7,p8,p9,p10,p11,u0,u1,u2,u3,u4,u5,u6,u7,u8,u9,u10,u11⟩:=zAc (b:=pb) (H.out);have h3:St W0 _ K (.raw pb #[.int .i64 base,.int .i64 (49+rows.length),.int .i64 leader,.int .i64 x,.int .i64 at_,.int .i64 last,.int .i64 first,.int .i64 maxt,.int .i64 prod,.int .i64 epoch,.int .i64 sq,.int .i64 l.length] 130::_):=H.out.rawSet 3 (.int .i64 x);obtain⟨a0,a1,a2,a3,a4,a5,a6,a7,a8,a9,a10,a11,f0,f1,f2,f3,f4,f5,f6,f7,f8,f9,f10,f11⟩:=zAc (b:=pb) (h3);clear h3)
    |(go_at_call 87;have _t:=t2;clear _t;(with_reducible refine(zGd _ _ _ _ _ _ _ _ _ _ _ _ R1.out _ _ _ O1.out T1.out (H.out.rawSet 3 (.int .i64 x))).mono ?_);rintro e_ wn ⟨rfl,h⟩;replace H:=hQd h;clear h;clear t2))
  go_ret2;exact⟨rfl,H.out.drop.drop⟩
def AgreeB (a b:Bs) (first n:Nat):Prop:=b.take 21=a.take 21∧∀i,(i<first∨first+n≤i)→(zBh (a.drop 21)).getD i false=(zBh (b.drop 21)).getD i false
theorem AgreeB.refl(a:Bs)(f:Nat):AgreeB a a f 0:=⟨rfl,fun _ _=>rfl⟩
theorem AgreeB.step{a b:Bs}{f n:Nat}(h:AgreeB a b f n):AgreeB a b f (n+1):=⟨h.1,fun i hi=>h.2 i (by omega)⟩
structure BatR where
  b:BatS
  l:List (RecS×Value)
  q:Option Addr
  cap:Nat
def RBat (cs:List Value) (x:BatR):Prop:=cs=[.int .i64 x.b.base,.int .i64 x.b.leader,.bool x.b.app,.bool x.b.txn,.bool x.b.ctl,.int .i64 x.b.last,.int .i64 x.b.first,.int .i64 x.b.maxt,.int .i64 x.b.prod,.int .i64 x.b.epoch,.int .i64 x.b.seq,.slice x.q x.l.length x.cap]
def BatR.Fit (x:BatR):Prop:=x.b.R∧FitW x.l∧x.l.map (·.1)=x.b.recs
def Know.bats (v:Value) (l:List BatR):Know:=(Know.flat RBat v 12 l).and (Know.all l fun x=>Know.recs (.slice x.q x.l.length x.cap) x.l)
theorem zGb{K:Know}{v:Value}{l:List BatR}(h:K.has (Know.bats v l)):K.has (Know.flat RBat v 12 l):=fun w F x=>(h w F x).1
theorem zCQ{K:Know}{v:Value}{l:List BatR}(h:K.has (Know.bats v l)){x:BatR}(hx:x∈l):K.has (Know.recs (.slice x.q x.l.length x.cap) x.l):=fun w F y=>(h w F y).2 x hx
theorem zGc{q:Option Addr}{n cap:Nat}{l:List BatR}(hk:K.has (Know.bats (.slice q n cap) l))(h:St W0 w K L)(h0:0<l.length):∃b off,q=some ⟨b,off,none⟩:=by
 obtain⟨F,hF,_⟩:=h.get;obtain⟨q2,cap2,hv,hr⟩:=(zGb hk _ _ hF).at;obtain⟨b,off,hq,_⟩:=hr h0;simp at hv;exact⟨b,off,hv.1.trans hq⟩
theorem zDQ{b off n cap:Nat}{l:List BatR}(hk:K.has (Know.bats (.slice (some ⟨b,off,none⟩) n cap) l))(h:St W0 w K L)(i:Nat)(hi:i<l.length)(x:BatR)(hx:l[i]=x):
  w.cell? ⟨b,off+i*12,none⟩=some (.int .i64 x.b.base)∧w.cell? ⟨b,off+i*12+1,none⟩=some (.int .i64 x.b.leader)∧w.cell? ⟨b,off+i*12+2,none⟩=some (.bool x.b.app)∧w.cell? ⟨b,off+i*12+3,none⟩=some (.bool x.b.txn)∧w.cell? ⟨b,off+i*12+4,none⟩=some (.bool x.b.ctl)∧w.cell? ⟨b,off+i*12+5,none⟩=some (.int .i64 x.b.last)∧w.cell? ⟨b,off+i*12+6,none⟩=some (.int .i64 x.b.first)∧w.cell? ⟨b,off+i*12+7,none⟩=some (.int .i64 x.b.maxt)∧w.cell? ⟨b,off+i*12+8,none⟩=some (.int .i64 x.b.prod)∧w.cell? ⟨b,off+i*12+9,none⟩=some (.int .i64 x.b.epoch)∧w.cell? ⟨b,off+i*12+10,none⟩=some (.int .i64 x.b.seq)∧w.cell? ⟨b,off+i*12+11,none⟩=some (.slice x.q x.l.length x.cap):=by
 subst hx;obtain⟨F,hF,_⟩:=h.get;obtain⟨q2,cap2,hv,hr⟩:=(zGb hk _ _ hF).at;obtain⟨b2,off2,hq,hc⟩:=hr (by omega);rw[hq]at hv;simp at hv;obtain⟨⟨rfl,rfl⟩,_,_⟩:=hv;obtain⟨cs,_,hR,hcs⟩:=hc i hi;unfold RBat at hR;subst hR;refine⟨?_,?_,?_,?_,?_,?_,?_,?_,?_,?_,?_,?_⟩
 · exact hcs 0 _ rfl
 · rw[Nat.add_assoc];exact hcs 1 _ rfl
 · rw[Nat.add_assoc];exact hcs 2 _ rfl
 · rw[Nat.add_assoc];exact hcs 3 _ rfl
 · rw[Nat.add_assoc];exact hcs 4 _ rfl
 · rw[Nat.add_assoc];exact hcs 5 _ rfl
 · rw[Nat.add_assoc];exact hcs 6 _ rfl
 · rw[Nat.add_assoc];exact hcs 7 _ rfl
 · rw[Nat.add_assoc];exact hcs 8 _ rfl
 · rw[Nat.add_assoc];exact hcs 9 _ rfl
 · rw[Nat.add_assoc];exact hcs 10 _ rfl
 · rw[Nat.add_assoc];exact hcs 11 _ rfl
def encB (l:List BatR):Bs:=l.flatMap fun x=>x.b.enc
theorem zJ5(l m:List BatR):encB (l++m)=encB l++encB m:=List.flatMap_append
theorem zOK(x:BatR):encB [x]=x.b.enc:=by unfold encB;rw[List.flatMap_cons,List.flatMap_nil,List.append_nil]
theorem zNq(l:List BatR)(k:Nat)(h:k<l.length):encB (l.take (k+1))=encB (l.take k)++l[k].b.enc:=by
 rw[List.take_succ_eq_append_getElem h,zJ5,zOK]
theorem BatR.small{x:BatR}(hf:x.Fit)(hs:zDs (x.l.map (·.1))=true)(he:zAA x.b=0):SmallOk x.b:=SmallOk.of hf.2.2.symm hf.2.1 hs he hf.1
theorem zJ4(x:RecS)(hx:x.R)(hs:zCX x=true):(encR x).length≤1100:=by
 unfold zCX at hs;simp only[Bool.and_eq_true,decide_eq_true_eq]at hs;obtain⟨s1,s2,s3⟩:=hs;have hm:=zHF _ s3;have h0:=zCc x.hdrs;have h1:=zDl x.time hx.1;have h2:=zDl x.off hx.2;have h3:=zCe x.key (by omega);have h4:=zCe x.val (by omega);have h5:=zE2 x.hdrs (by omega);have h8:=zDl x.hdrs.length (by omega)
 have h6:(recF x).length≤1060:=by
  unfold recF zCB;simp only[List.length_append,List.length_cons,List.length_nil]
  omega
 have h7:=zCe ⟨false,recF x⟩ (by simp only;omega);simp only at h7;unfold encR
 omega
theorem BatR.elen{x:BatR}(hf:x.Fit)(hs:zDs (x.l.map (·.1))=true):x.b.enc.length≤14000:=by
 rw[x.b.enc_len];unfold zDs at hs;simp only[Bool.and_eq_true,decide_eq_true_eq]at hs;rw[hf.2.2]at hs
 have h1:=zEa x.b.recs 1100 (fun y hy=>zJ4 y (by
  have hy2:y∈x.l.map (·.1):=hf.2.2 ▸ hy;obtain⟨z,hz,rfl⟩:=List.mem_map.1 hy2
  exact(hf.2.1 z hz).1) (zEW _ hs.2 y hy))
 unfold BatS.rowsB
 omega
def pw (n:Nat):Bool:=decide (n∈[28,27,26,25,23,22,20,19,18,14,13,11,10,9,8,6,0])
theorem pw_cP:∀j,j<32→pw (31 - j)=cP.getLsbD j:=by decide
def zC8 (m:List Bool) (i:Nat):Nat→List Bool
  |0=>m
  |k+1=>(zC8 m i k).set (i+(k+1)) ((zC8 m i k).getD (i+(k+1)) false ^^ pw (31 - k))
def zBY (m:List Bool):Nat→List Bool
  |0=>m
  |i+1=>if (zBY m i).getD i false then zC8 (zBY m i) i 32 else zBY m i
def zB1:Nat→List Bool→List Bool
  |0,m=>m
  |k+1,m=>(zB1 k m).set k (!(zB1 k m).getD k false)
theorem zFZ(m:List Bool)(i k:Nat):(zC8 m i k).length=m.length:=by
 induction k with
 |zero=>rfl
 |succ k ih=>show(List.set _ _ _).length=_;rw[List.length_set,ih]
theorem zDE(m:List Bool)(i:Nat):(zBY m i).length=m.length:=by
 induction i with
 |zero=>rfl
 |succ i ih=>
  show(if _ then _ else _:List Bool).length=_
  split
  · rw[zFZ,ih]
  · exact ih
theorem zCU(m:List Bool)(k:Nat):(zB1 k m).length=m.length:=by
 induction k with
 |zero=>rfl
 |succ k ih=>show(List.set _ _ _).length=_;rw[List.length_set,ih]
theorem zHG(m:List Bool)(i x:Nat)(b:Bool)(h:i<m.length):(m.set i b).getD x false=if x=i then b else m.getD x false:=by
 rw[List.getD_eq_getElem?_getD,List.getD_eq_getElem?_getD,List.getElem?_set]
 by_cases hx:i=x
 · subst hx;simp[h]
 · have hx2:¬x=i:=fun e=>hx e.symm
   simp[hx,hx2]
theorem zK6(m:List Bool)(k:Nat)(h:k≤m.length)(x:Nat):(zB1 k m).getD x false=if x<k then !m.getD x false else m.getD x false:=by
 induction k with
 |zero=>simp[zB1]
 |succ k ih=>
  have ih:=ih (by omega)
  show((zB1 k m).set k (!(zB1 k m).getD k false)).getD x false=_
  rw[zHG _ _ _ _ (by rw[zCU];omega)]
  by_cases hx:x=k
  · subst hx;rw[if_pos rfl,ih,if_neg (by omega),if_pos (by omega)]
  · rw[if_neg hx,ih]
    by_cases h2:x<k
    · rw[if_pos h2,if_pos (by omega)]
    · rw[if_neg h2,if_neg (by omega)]
theorem zM5(m:List Bool)(i k:Nat)(h:i+k<m.length)(x:Nat):(zC8 m i k).getD x false=if i<x∧x≤i+k then(m.getD x false ^^ pw (32 - (x - i)))else m.getD x false:=by
 induction k generalizing x with
 |zero=>
  show m.getD x false=_
  rw[if_neg (by omega)]
 |succ k ih=>
  have ih:=fun x=>ih (by omega) x
  show((zC8 m i k).set (i+(k+1)) ((zC8 m i k).getD (i+(k+1)) false ^^ pw (31 - k))).getD x false=_
  rw[zHG _ _ _ _ (by rw[zFZ];omega)]
  by_cases hx:x=i+(k+1)
  · subst hx;rw[if_pos rfl,ih,if_neg (by omega),if_pos (by omega),show 32 - (i+(k+1) - i)=31 - k by omega]
  · rw[if_neg hx,ih]
    by_cases h2:i<x∧x≤i+k
    · rw[if_pos h2,if_pos (by omega)]
    · rw[if_neg h2,if_neg (by omega)]
theorem zNK(b:Bool)(j:Nat):(b2w b).getLsbD j=(decide (j=0) && b):=by
 cases b
 · simp[b2w]
 · cases j with
   |zero=>rfl
   |succ j=>simp[b2w]
theorem zN0(r:W32)(j:Nat)(hj:j<32):(step r).getLsbD j=(r.getLsbD (j+1) ^^ (r.getLsbD 0 && pw (31 - j))):=by
 unfold step;rw[BitVec.getLsbD_xor,BitVec.getLsbD_ushiftRight,Nat.add_comm 1 j,pw_cP j hj]
 cases r.getLsbD 0<;>simp
theorem zLz(b:List Bool)(r:W32)(m:List Bool)(hm:m.length=b.length+32)(h0:∀x,m.getD x false=if x<32 then(r.getLsbD x ^^ b.getD x false)else b.getD x false):
  ∀i,i≤b.length→∀x,i≤x→(zBY m i).getD x false=if x<i+32 then((feed r (b.take i)).getLsbD (x - i) ^^ b.getD x false)else b.getD x false:=by
 intro i
 induction i with
 |zero=>
  intro _ x _
  show m.getD x false=_
  rw[h0 x,Nat.zero_add,Nat.sub_zero,List.take_zero]
  rfl
 |succ i ih=>
  intro hi x hx;have ih:=ih (by omega);have hb:i<b.length:=by omega
  have hf:feed r (b.take (i+1))=step (feed r (b.take i) ^^^ b2w b[i]):=by
    rw[List.take_succ_eq_append_getElem hb,zF5]
    rfl
  have hbi:b.getD i false=b[i]:=by rw[List.getD_eq_getElem?_getD,List.getElem?_eq_getElem hb];rfl
  have hi0:=ih i (Nat.le_refl _);rw[if_pos (by omega),Nat.sub_self,hbi]at hi0;have hx0:=ih x (by omega)
  have hq:(zBY m (i+1)).getD x false=((zBY m i).getD x false ^^ ((zBY m i).getD i false && (decide (x≤i+32) && pw (32 - (x - i))))):=by
    show(if (zBY m i).getD i false then zC8 (zBY m i) i 32 else zBY m i).getD x false=_
    cases hc:(zBY m i).getD i false with
    |false=>simp
    |true=>
      rw[if_pos rfl,zM5 _ _ _ (by rw[zDE];omega)]
      by_cases h2:x≤i+32
      · rw[if_pos ⟨by omega,h2⟩];simp[h2]
      · rw[if_neg (by omega)];simp[h2]
  rw[hq,hi0,hf];generalize feed r (b.take i)=R at hx0 ⊢;generalize b[i]=c
  by_cases h1:x<i+1+32
  · have hj:x - (i+1)<32:=by omega
    rw[if_pos h1,zN0 _ _ hj,BitVec.getLsbD_xor,BitVec.getLsbD_xor,zNK,zNK,show x - (i+1)+1=x - i by omega,show 31 - (x - (i+1))=32 - (x - i) by omega];have e1:decide (x≤i+32)=true:=decide_eq_true (by omega);have e2:decide (x - i=0)=false:=decide_eq_false (by omega);rw[e1,e2,hx0]
    by_cases h3:x<i+32
    · rw[if_pos h3]
      cases R.getLsbD (x - i)<;>cases b.getD x false<;>cases R.getLsbD 0<;>cases c<;>simp
    · rw[if_neg h3];have e3:R.getLsbD (x - i)=false:=BitVec.getLsbD_of_ge _ _ (by omega);rw[e3]
      cases b.getD x false<;>cases R.getLsbD 0<;>cases c<;>simp
  · rw[if_neg h1,hx0,if_neg (by omega)];have e1:decide (x≤i+32)=false:=decide_eq_false (by omega);rw[e1]
    simp
def zBo (f:Nat→Bool):Nat→Nat
  |0=>0
  |k+1=>zBo f k*2+(if f (31 - k)then 1 else 0)
def zDh (s:Bs):List Bool:=zBh s++List.replicate 32 false
def zHL (s:Bs):List Bool:=zBY (zB1 32 (zDh s)) (8*s.length)
theorem zDw(s:Bs):(zDh s).length=8*s.length+32:=by unfold zDh;rw[List.length_append,zCy,List.length_replicate]
theorem zIm(s:Bs)(x:Nat):(zDh s).getD x false=(zBh s).getD x false:=by
 unfold zDh;rw[List.getD_eq_getElem?_getD,List.getD_eq_getElem?_getD,List.getElem?_append]
 split
 · rfl
 · next h=>
   rw[List.getElem?_eq_none (l:=zBh s) (by omega),List.getElem?_replicate]
   split<;>rfl
theorem zJ8(s:Bs)(j:Nat)(hj:j<32):(zHL s).getD (8*s.length+j) false= !((zAq 0#32 s).getLsbD j):=by
 have hl:=zCy s
 have h:=zLz (zBh s) (BitVec.allOnes 32) (zB1 32 (zDh s)) (by rw[zCU,zDw,hl]) (fun x=>by
  rw[zK6 _ _ (by rw[zDw];omega),zIm]
  by_cases hx:x<32
  · rw[if_pos hx,if_pos hx,BitVec.getLsbD_allOnes];simp[hx]
  · rw[if_neg hx,if_neg hx]) (8*s.length) (by omega) (8*s.length+j) (by omega)
 unfold zHL;rw[h,if_pos (by omega),Nat.add_sub_cancel_left,List.take_of_length_le (by omega)];have hz:(zBh s).getD (8*s.length+j) false=false:=by rw[List.getD_eq_getElem?_getD,List.getElem?_eq_none (by omega)];rfl
 rw[hz];unfold zAq;rw[zKa,BitVec.getLsbD_not];simp[hj]
theorem zEC(r:W32):∀k,k≤32→zBo (fun j=>r.getLsbD j) k=r.toNat / 2 ^ (32 - k)
  |0,_=>by
    show 0=_
    rw[Nat.sub_zero,Nat.div_eq_of_lt r.isLt]
  |k+1,hk=>by
    have ih:=zEC r k (by omega)
    show zBo (fun j=>r.getLsbD j) k*2+(if r.getLsbD (31 - k)then 1 else 0)=_
    rw[ih,show 32 - k=31 - k+1 by omega,show 32 - (k+1)=31 - k by omega,Nat.pow_succ,←Nat.div_div_eq_div_mul]
    have hb:r.getLsbD (31 - k)=decide (r.toNat / 2 ^ (31 - k) % 2=1):=by
      rw[BitVec.getLsbD,Nat.testBit_eq_decide_div_mod_eq]
    rw[hb];generalize r.toNat / 2 ^ (31 - k)=a
    by_cases h:a % 2=1
    · simp[h];omega
    · simp[h];omega
theorem zFD(f g:Nat→Bool)(h:∀j,j<32→f j=g j):∀k,k≤32→zBo f k=zBo g k
  |0,_=>rfl
  |k+1,hk=>by
    show zBo f k*2+_=zBo g k*2+_
    rw[zFD f g h k (by omega),h (31 - k) (by omega)]
theorem zJ7(s:Bs):zBo (fun j=> !(zHL s).getD (8*s.length+j) false) 32=(zAq 0#32 s).toNat:=by
 rw[zFD _ (fun j=>(zAq 0#32 s).getLsbD j) (fun j hj=>by rw[zJ8 s j hj];simp) 32 (Nat.le_refl _),zEC _ 32 (Nat.le_refl _)]
 simp
theorem zGJ(f:Nat→Bool):∀k,zBo f k<2 ^ k
  |0=>by show 0<2 ^ 0;omega
  |k+1=>by
    have:=zGJ f k
    show zBo f k*2+_< _
    rw[Nat.pow_succ]
    split<;>omega
def bitN (b:Bool):Nat:=if b then 1 else 0
def pwL:List Nat:=[28,27,26,25,23,22,20,19,18,14,13,11,10,9,8,6,0]
def pwC:Array Value:= #[.int .i64 28,.int .i64 27,.int .i64 26,.int .i64 25,.int .i64 23,.int .i64 22,.int .i64 20,.int .i64 19,.int .i64 18,.int .i64 14,.int .i64 13,.int .i64 11,.int .i64 10,.int .i64 9,.int .i64 8,.int .i64 6,.int .i64 0]
theorem zPC:∀k,k<17→pwC[k]? =some (.int .i64 ((pwL.getD k 0:Nat):Int))
  |0,_=>rfl
  |1,_=>rfl
  |2,_=>rfl
  |3,_=>rfl
  |4,_=>rfl
  |5,_=>rfl
  |6,_=>rfl
  |7,_=>rfl
  |8,_=>rfl
  |9,_=>rfl
  |10,_=>rfl
  |11,_=>rfl
  |12,_=>rfl
  |13,_=>rfl
  |14,_=>rfl
  |15,_=>rfl
  |16,_=>rfl
  |k+17,h=>absurd h (by omega)
theorem pw_yes:∀k,k<17→pw (pwL.getD k 0)=true:=by decide
theorem pw_no(n:Nat)(h:∀j,j<17→pwL.getD j 0≠n):pw n=false:=by
 unfold pw;rw[decide_eq_false_iff_not];intro hm;have e:pwL=[28,27,26,25,23,22,20,19,18,14,13,11,10,9,8,6,0]:=rfl;rw[←e]at hm;obtain⟨j,hj,hg⟩:=List.getElem_of_mem hm;exact h j hj (by rw[List.getD_eq_getElem?_getD,List.getElem?_eq_getElem hj];exact hg)
theorem zP8(s:Bs)(i:Nat)(hi:i<8*s.length)(h:i / 8<s.length):(s[i / 8].toNat / 2 ^ (i % 8)) % 2=bitN ((zBh s).getD i false):=by
 rw[zLU];have e:s.getD (i / 8) 0=s[i / 8]:=by rw[List.getD_eq_getElem?_getD,List.getElem?_eq_getElem h];rfl
 rw[e,Nat.testBit_eq_decide_div_mod_eq];generalize s[i / 8].toNat / 2 ^ (i % 8)=a;unfold bitN
 by_cases h:a % 2=1
 · simp[h]
 · simp[h];omega
end Go.Proofs.YtenojajfacacoaaGreatDoor
