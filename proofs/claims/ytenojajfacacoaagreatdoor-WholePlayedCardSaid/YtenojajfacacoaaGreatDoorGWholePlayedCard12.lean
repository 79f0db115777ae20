/- A text. -/
import Derived.Test.YtenojajfacacoaaGreatDoorGWholePlayedCard11
import Derived.RegionTactic
import Derived.Deep.RegionHeld3
import Derived.Deep.DeepCutAuto
import Derived.WalkMore
import Derived.Test.YtenojajfacacoaaGreatDoorGWholePlayedCard3
import Derived.Laws.AppendOwnNone
import Derived.Test.YtenojajfacacoaaGreatDoorGWholePlayedCard9
import Derived.Test.YtenojajfacacoaaGreatDoorGWholePlayedCard10
import Derived.Test.YtenojajfacacoaaGreatDoorGWholePlayedCard8
import Derived.Test.YtenojajfacacoaaGreatDoorGWholePlayedCard5
import Derived.Test.YtenojajfacacoaaGreatDoorGWholePlayedCard6
/- A text. -/
namespace Go.Proofs.YtenojajfacacoaaGreatDoor
open Go.RowKit
set_option maxHeartbeats 8000000
set_option maxRecDepth 100000
variable {W0 w:World}{K:Know}{L:List Res}
theorem zLe{g cv at_:Nat}{T:Bs}(hat:at_≤T.length)(h:St W0 w K (.row (.slice (some ⟨g,0,none⟩) T.length cv) 5 1 T.length (zAi (T.drop at_++T.drop (T.length - at_)))::L)):St W0 w K (.row (.slice (some ⟨g,0,none⟩) (T.length - at_) cv) 5 1 (T.length - at_) (zAi (T.drop at_))::L):=by
 have h1:=h.rowCut (m:=T.length - at_) (by omega)
 have e:(zAi (T.drop at_++T.drop (T.length - at_))).take (T.length - at_)=zAi (T.drop at_):=by
  rw[zBV,List.take_append_of_le_length (by rw[zA3,List.length_drop];exact Nat.le_refl _),List.take_of_length_le (by rw[zA3,List.length_drop];exact Nat.le_refl _)]
 rw[e]at h1;exact h1
theorem zq12{p:Prop}(h:p:=by
  go_step3
  try simp only[Exit.inBlock,Exit.then,Exit.jumps]
  exact⟨FeedJ.mk1 at_ lv _ acc K2 0 rfl HAT.out HS1.out HKK.out HREC.out HLIT.out HACC.out H.out.drop.p2.p2,zGh HMU.out HAT.out⟩):p:=h
theorem zMX(sb valid:Nat)(rest chunk T:Bs)(hT:rest++chunk=T)(v:Value)(hl:T.length≤100000)(hv:valid≤1000000)(h:St W0 w K (.raw sb #[.int .i64 valid,v,.int .i64 0] 187::.row v 5 1 rest.length (zAi rest)::L)):
   Calls Tryz.prog 106 #[.pointer (some ⟨sb,0,none⟩),.string (bb chunk)] w fun en w'=>∃(v':Value) (q:Option Addr) (cap:Nat) (lr:List BatR),en=.returned (.slice q lr.length cap)∧(q=none→cap=0)∧lr.map BatR.b=(zAh T).1∧(∀x∈lr,zGD x)∧61*lr.length≤T.length∧St W0 w' (K.and (Know.bats (.slice q lr.length cap) lr)) (.raw sb #[.int .i64 ((valid+(T.length - (zAh T).2.1.length):Nat):Int),v',.int .i64 (zAh T).2.2] 187::.row v' 5 1 (if (zAh T).2.2≠0 then[]else(zAh T).2.1).length (zAi (if (zAh T).2.2≠0 then[]else(zAh T).2.1))::L):=by
 have H:=hQd h;have HT:=hQd hT;have HTL:=hQd hl;have hll:rest.length+chunk.length=T.length:=by rw[←hT,List.length_append]
 have c0:=h.rawCell 0;have c1:=h.rawCell 1;have c2:=h.rawCell 2;simp at c0 c1 c2;clear h hT;go_enter Tryz.func106,Tryz.ntmps106;go_wp2;refine zMV (FeedJ sb valid chunk T W0 K L) (zGE T) (fun l a w hh=>hh.elim (fun g=> .inl g.1) (fun g=> .inr g.1)) rfl rfl ?_ ?_ ?_
 · intro pass;have hrl:(rest.length:Int)≤100000:=by omega
   go_wp2_with (at_builtin;refine zHd rfl _ _ rfl v rest.length rest chunk rfl rfl H.out.p1 rfl (by omega) ?_;intro v' w1 h;rw[HT.out]at h;obtain⟨pv,cv,hpv⟩:=h.rowAny;subst hpv;have e0:=h.p1.rawCell 0;have e1:=h.p1.rawCell 1;have e2:=h.p1.rawCell 2;have r1:=h.p1.rawFree 1;simp at e0 e1 e2;have h:=(show St W0 (w1.setCell ⟨sb,1,none⟩ (.slice pv T.length cv)) K (.raw sb #[.int .i64 valid,.slice pv T.length cv,.int .i64 0] 187::.row (.slice pv T.length cv) 5 1 T.length (zAi T)::L)from h.p1.rawSet 1 (.slice pv T.length cv));replace H:=hQd h;clear h)
   go_step3
   first|exact pass _ _ (FeedJ.mk0 0 (.slice none 0 0) (.slice pv T.length cv) [] K rfl (Nat.zero_le _) rfl (Know.has_refl _) (fun x hx=>by cases hx) (fun x hx=>by cases hx) (Nat.le_refl _) (H.out.nilRow 30 12))|(go_step;first|exact pass _ _ (FeedJ.mk0 0 (.slice none 0 0) (.slice pv T.length cv) [] K rfl (Nat.zero_le _) rfl (Know.has_refl _) (fun x hx=>by cases hx) (fun x hx=>by cases hx) (Nat.le_refl _) (H.out.nilRow 30 12))|(go_step;first|exact pass _ _ (FeedJ.mk0 0 (.slice none 0 0) (.slice pv T.length cv) [] K rfl (Nat.zero_le _) rfl (Know.has_refl _) (fun x hx=>by cases hx) (fun x hx=>by cases hx) (Nat.le_refl _) (H.out.nilRow 30 12))|(go_step;exact pass _ _ (FeedJ.mk0 0 (.slice none 0 0) (.slice pv T.length cv) [] K rfl (Nat.zero_le _) rfl (Know.has_refl _) (fun x hx=>by cases hx) (fun x hx=>by cases hx) (Nat.le_refl _) (H.out.nilRow 30 12)))))
 · intro a' w' hJ;refine FeedJ.elim0 hJ (fun at_ lv v acc K2 u hat hsc hkk hrec hlit hacc hst hmu=> ?_)
   · have HMU:=hQd hmu;clear c0 c1 c2 hJ hmu H;have H:=hQd hst;have e0:=hst.p1.rawCell 0;have e1:=hst.p1.rawCell 1;have e2:=hst.p1.rawCell 2;simp at e0 e1 e2
     rcases hst.p2.rowGet.2 with ⟨hvn,hn0⟩|⟨g,cv,cur,hvs,_,_,hcv,_⟩
     · obtain rfl:at_=0:=by omega
       subst hvn;have hT0:T=[]:=List.eq_nil_of_length_eq_zero hn0;have HS:=hQd hsc;have HKK:=hQd hkk;have HREC:=hQd hrec;have HLIT:=hQd hlit;have HACC:=hQd hacc;have HAT:=hQd hat;have hti:(T.length:Int)≤100000:=by have:=HTL.out;omega
       have HRL:=hQd (show(T.drop 0).length≤1000000 by rw[List.length_drop];have:=HTL.out;omega);have hai:(0:Int)≤(T.length:Int):=by omega
       have HRD:=hQd (show zMA (.slice none 0 0) T.length T (T.drop 0) (.slice none 0 0)from .inl ⟨rfl,by rw[hT0];rfl⟩);clear hsc hkk hrec hlit hacc hat hst;have HF:=hQd (show zAg (T.drop 0)=.ok none by unfold zAg;rw[if_pos (by rw[hT0];decide)]);have HS1:=hQd (show zAh T=(acc.map BatR.b,T.drop 0,0) by rw[HS.out,zAF HF.out,List.append_nil]);clear hT0 hn0 hai;go_wp2_with (go_at_call 137;(with_reducible refine(zBX (T.drop 0) _ HRD.out HRL.out HF.out H.out.p2).mono ?_);rintro e_ wn ⟨rfl,h⟩;obtain⟨tb,htb⟩:∃b,wn.heap.size=b:=⟨_,rfl⟩;have h:=h.allocRaw #[.int .i64 0,.int .i64 0,.bool false,.bool false,.bool false,.int .i64 0,.int .i64 0,.int .i64 0,.int .i64 0,.int .i64 0,.int .i64 0,.slice none 0 0] 30;rw[htb]at h;replace H:=hQd h;clear h)
       go_step3
       try simp only[Exit.then]
       exact⟨FeedJ.mk1 0 lv _ acc K2 0 rfl HAT.out HS1.out HKK.out HREC.out HLIT.out HACC.out H.out.drop.p2.p2,zGh HMU.out HAT.out⟩
     · subst hvs;have HS:=hQd hsc;have HKK:=hQd hkk;have HREC:=hQd hrec;have HLIT:=hQd hlit;have HACC:=hQd hacc;have HAT:=hQd hat;have hti:(T.length:Int)≤100000:=by have:=HTL.out;omega
       have HRL:=hQd (show(T.drop at_).length≤1000000 by rw[List.length_drop];have:=HTL.out;omega);have hai:(at_:Int)≤(T.length:Int):=by omega
       have htc:(T.length:Int)≤(cv:Int):=by omega
       have hac:(at_:Int)≤(cv:Int):=by omega
       by_cases hca:cv=at_
       · have hR0:T.drop at_=[]:=List.drop_of_length_le (by omega)
         have HRD:=hQd (show zMA (.slice (some ⟨g,0,none⟩) T.length cv) T.length T (T.drop at_) (.slice (some ⟨g,0,none⟩) 0 0)from .inr ⟨⟨g,0,none⟩,0,by rw[hR0];rfl,by rw[hR0];exact Nat.le_refl _,fun W0 w K L hh k hk c'=>by
           rw[hR0]at hk ⊢;obtain rfl:k=0:=by simpa using hk
           exact zMo w ⟨g,0,none⟩ c'⟩)
         have hca2:T.length=at_:=by omega
         clear hsc hkk hrec hlit hacc hat hst;have HF:=hQd (show zAg (T.drop at_)=.ok none by unfold zAg;rw[if_pos (by rw[hR0];decide)]);have HS1:=hQd (show zAh T=(acc.map BatR.b,T.drop at_,0) by rw[HS.out,zAF HF.out,List.append_nil]);clear hR0;go_wp2_with (go_at_call 137;(with_reducible refine(zBX (T.drop at_) _ HRD.out HRL.out HF.out H.out.p2).mono ?_);rintro e_ wn ⟨rfl,h⟩;obtain⟨tb,htb⟩:∃b,wn.heap.size=b:=⟨_,rfl⟩;have h:=h.allocRaw #[.int .i64 0,.int .i64 0,.bool false,.bool false,.bool false,.int .i64 0,.int .i64 0,.int .i64 0,.int .i64 0,.int .i64 0,.int .i64 0,.slice none 0 0] 30;rw[htb]at h;replace H:=hQd h;clear h)
         exact zq12
       · have HRD:=hQd (show zMA (.slice (some ⟨g,0,none⟩) T.length cv) T.length T (T.drop at_) (.slice (some ⟨g,at_,none⟩) (T.length - at_) (cv - at_))from .inr ⟨⟨g,at_,none⟩,cv - at_,by rw[List.length_drop],by rw[List.length_drop];omega,fun W0 w K L hh k hk c'=>hh.rowTextAt at_ k c' rfl (by rw[List.length_drop]at hk;omega)⟩);clear hsc hkk hrec hlit hacc hst
         cases hf:zAg (T.drop at_)with
         |error e=>
           have HF:=hQd hf;have HS1:=hQd (show zAh T=(acc.map BatR.b,T.drop at_,e) by rw[HS.out,zDB HF.out,List.append_nil]);have h0:=zNP hf;have g1e:(e==0)=false:=by rw[beq_eq_false_iff_ne];exact h0
           have g2e:(e !=0)=true:=by simp[bne,g1e]
           clear hf h0 hat;go_wp2_with (go_at_call 137;(with_reducible refine(zHS (T.drop at_) _ HRD.out HRL.out e HF.out H.out.p2).mono ?_);rintro e_ wn ⟨nz,rfl,h⟩;obtain⟨tb,htb⟩:∃b,wn.heap.size=b:=⟨_,rfl⟩;have h:=h.allocRaw #[.int .i64 0,.int .i64 0,.bool false,.bool false,.bool false,.int .i64 0,.int .i64 0,.int .i64 0,.int .i64 0,.int .i64 0,.int .i64 0,.slice none 0 0] 30;rw[htb]at h;replace H:=hQd h;clear h)
           go_step3
           try simp only[Exit.then]
           exact⟨FeedJ.mk1 at_ lv _ acc K2 e rfl HAT.out HS1.out HKK.out HREC.out HLIT.out HACC.out H.out.drop.p2.p2,zGh HMU.out HAT.out⟩
         |ok o=>
           cases o with
           |none=>
            clear hat;have HF:=hQd hf;have HS1:=hQd (show zAh T=(acc.map BatR.b,T.drop at_,0) by rw[HS.out,zAF HF.out,List.append_nil]);clear hf;go_wp2_with (go_at_call 137;(with_reducible refine(zBX (T.drop at_) _ HRD.out HRL.out HF.out H.out.p2).mono ?_);rintro e_ wn ⟨rfl,h⟩;obtain⟨tb,htb⟩:∃b,wn.heap.size=b:=⟨_,rfl⟩;have h:=h.allocRaw #[.int .i64 0,.int .i64 0,.bool false,.bool false,.bool false,.int .i64 0,.int .i64 0,.int .i64 0,.int .i64 0,.int .i64 0,.int .i64 0,.slice none 0 0] 30;rw[htb]at h;replace H:=hQd h;clear h)
            exact zq12
           |some y=>
            obtain⟨b,n⟩:=y;have HF:=hQd hf;obtain⟨⟨hn1,hn2⟩,hlb⟩:=zFY hf;rw[List.length_drop]at hn2 hlb;obtain⟨an,han⟩:∃an,at_+n=an:=⟨_,rfl⟩;have hwn:IntKind.i64.wrap ((at_:Int)+(n:Int))=(an:Int):=by rw[IntKind.wrap_i64];omega
            have hin:(at_:Int)+(n:Int)=(an:Int):=by omega
            have HAW:=hQd (show -9223372036854775808≤(an:Int)∧(an:Int)≤9223372036854775807 by omega);have g0n:((n:Int)==0)=false:=by rw[beq_eq_false_iff_ne];omega
            have HS0:=hQd (show zAh T=((acc++[(⟨b,[],none,0⟩:BatR)]).map BatR.b++(zAh (T.drop an)).1,(zAh (T.drop an)).2) by rw[HS.out,zBJ HF.out,List.drop_drop,han,List.map_append,List.append_assoc];rfl);have HAN:=hQd (show an≤T.length by omega);have HLB:=hQd (show zPB 1000000 b from⟨by have:=hlb.1;have:=HTL.out;omega,fun x hx=>by have:=hlb.2 x hx;have:=HTL.out;omega⟩);have HA2:=hQd (show 61*(acc.length+1)≤an by have:=HACC.out;omega);have HN:=hQd (show 0<n by omega);have HNE:=hQd han;have HAB:=hQd (show acc.length≤100000 by have:=HACC.out;have:=HTL.out;omega);clear hf hlb hn1 hn2 han hat
            go_wp2_with (first
   |(go_at_call 137;(with_reducible refine(zGt (T.drop at_) _ HRD.out HRL.out b n HF.out H.out.p2).mono ?_);rintro e_ wn ⟨q,l,cap2,rfl,hlr,h⟩;obtain⟨tb,htb⟩:∃b,wn.heap.size=b:=⟨_,rfl⟩;have h:=h.allocRaw #[.int .i64 b.base,.int .i64 b.leader,.bool b.app,.bool b.txn,.bool b.ctl,.int .i64 b.last,.int .i64 b.first,.int .i64 b.maxt,.int .i64 b.prod,.int .i64 b.epoch,.int .i64 b.seq,.slice q l.length cap2] 30;rw[htb]at h;have HLR:=hQd hlr;clear hlr;obtain⟨x0,x1,x2,x3,x4,x5,x6,x7,x8,x9,x10,x11,y0,y1,y2,y3,y4,y5,y6,y7,y8,y9,y10,y11⟩:=zAa (b:=tb) (h);replace H:=hQd h;clear h)
   |(at_builtin;refine zAw rfl _ _ 22 rfl 30 Tryz.underlying22 zE0 _ _ _ rfl H.out.p2 [.int .i64 b.base,.int .i64 b.leader,.bool b.app,.bool b.txn,.bool b.ctl,.int .i64 b.last,.int .i64 b.first,.int .i64 b.maxt,.int .i64 b.prod,.int .i64 b.epoch,.int .i64 b.seq,.slice q l.length cap2] 30 (by rw[World.size_alloc,htb];rfl) rfl (by simp[Value.oneCell']) (by have:=HAB.out;unfold maxLen;omega) (by have:=HAB.out;omega) ?_;intro v' w' h;replace H:=hQd h;clear h))
            go_step3
            try simp only[Exit.then]
            rw[IntWalk.wrap64_in (an:Int) HAW.out]
            exact⟨FeedJ.mk0 an _ _ (acc++[⟨b,l,q,cap2⟩]) (K2.and (Know.recs (.slice q l.length cap2) l)) rfl HAN.out (by rw[HS0.out,List.map_append,List.map_append];rfl) (Know.has_trans (Know.has_left (Know.has_refl _)) HKK.out) (fun x hx=>by
             rcases List.mem_append.1 hx with hx|hx
             · exact Know.has_left (HREC.out x hx)
             · rw[List.mem_singleton.1 hx];exact Know.has_right (Know.has_refl _)) (fun x hx=>by
             rcases List.mem_append.1 hx with hx|hx
             · exact HLIT.out x hx
             · rw[List.mem_singleton.1 hx];exact⟨HLR.out,HLB.out⟩) (by rw[List.length_append];exact HA2.out) (by rw[List.length_append,List.flatMap_append];exact H.out.p1.drop.p2.p1),zOt HMU.out HAT.out HN.out (by rw[HNE.out];rfl)⟩
 · intro a' w' hJ;refine FeedJ.elim1 hJ (fun at_ lv v acc K2 e u hat hsc hkk hrec hlit hacc hst hmu=> ?_)
   · clear c0 c1 c2 hJ hmu H
     have hform:∃q cap,lv=.slice q acc.length cap∧(q=none→cap=0):=by
       rcases hst.rowGet.2 with ⟨e1,e2⟩|⟨g2,cap2,_,e1,_⟩
       · exact⟨none,0,by rw[e1,e2],fun _=>rfl⟩
       · exact⟨_,cap2,e1,fun hh=>by cases hh⟩
     obtain⟨q,cap,rfl,hqc⟩:=hform;have HQC:=hQd hqc;have hf:=hst.freezeBats hrec;have hf:=hf.know (K':=K.and (Know.bats _ acc)) (fun w F hh=>⟨hkk _ _ hh.1,hh.2⟩);clear hqc;have H:=hQd hf;have e0:=hf.rawCell 0;have e1:=hf.rawCell 1;have e2:=hf.rawCell 2;have q0:=hf.rawFree 0;have q1:=hf.rawFree 1;have q2:=hf.rawFree 2;simp at e0 e1 e2;have HS1:=hQd hsc;have HLIT:=hQd hlit;have HACC2:=hQd (show 61*acc.length≤T.length by omega);have HAT:=hQd hat;have hti:(T.length:Int)≤100000:=by have:=HTL.out;omega
     have hai:(at_:Int)≤(T.length:Int):=by omega
     obtain⟨vn,hvn⟩:∃vn,valid+at_=vn:=⟨_,rfl⟩;have hwv:IntKind.i64.wrap ((valid:Int)+(at_:Int))=(vn:Int):=by rw[IntKind.wrap_i64];omega
     have hvi:(valid:Int)+(at_:Int)=(vn:Int):=by omega
     have hwz:IntKind.i64.wrap (vn:Int)=(vn:Int):=by rw[IntKind.wrap_i64];omega
     have HVN:=hQd (show valid+(T.length - (T.drop at_).length)=vn by rw[List.length_drop];omega)
     by_cases he:e=0
     rotate_left
     · have g1e:(e==0)=false:=by rw[beq_eq_false_iff_ne];exact he
       have g2e:(e !=0)=true:=by simp[bne,g1e]
       have HE:=hQd he;clear hsc hkk hrec hlit hacc hat hst hf he hvn hv hl;go_wp2_with fail;simp only[Exit.jumps];go_ret
       exact⟨.slice none 0 0,q,cap,acc,rfl,HQC.out,by rw[HS1.out],HLIT.out,HACC2.out,by
         rw[HS1.out];simp only;rw[HVN.out,if_pos HE.out]
         exact((((H.out.rawSet 0 (.int .i64 vn)).rawSet 2 (.int .i64 e)).rawSet 1 (.slice none 0 0)).p1.drop.nilRow 5 1).p1⟩
     · subst he
       by_cases ha0:at_=0
       · have ha1:¬0<(at_:Int):=by omega
         have HD0:=hQd (show T.drop at_=T by rw[ha0,List.drop_zero]);clear hsc hkk hrec hlit hacc hat hst hf hvn hv hl ha0;go_wp2_with fail;simp only[Exit.jumps];go_ret
         exact⟨v,q,cap,acc,rfl,HQC.out,by rw[HS1.out],HLIT.out,HACC2.out,by
           rw[HS1.out];simp only;rw[HVN.out,if_neg (by simp),HD0.out]
           exact(H.out.rawSet 0 (.int .i64 vn)).rawSet 2 (.int .i64 0)⟩
       · have ha1:0<(at_:Int):=by omega
         rcases hf.p1.rowGet.2 with ⟨_,hn0⟩|⟨g,cv,cur,hvs,_,_,hcv,_⟩
         · omega
         subst hvs;have hac:(at_:Int)≤(cv:Int):=by omega
         have htc:(T.length:Int)≤(cv:Int):=by omega
         have hkc:((T.length - at_:Nat):Int)≤(cv:Int):=by omega
         by_cases hca:cv=at_
         · obtain rfl:at_=T.length:=by omega
           subst hca;have HSL:=hQd (show 0=T.length - T.length by omega);have HSP:=hQd (show T.length<T.length→(some ⟨g,0,none⟩:Option Addr)=some ⟨g,T.length,none⟩from fun hh=>absurd hh (by omega));clear hsc hkk hrec hlit hacc hat hst hf hvn hv hl ha0;go_upto_region 15 with (fail);have hs:=(((H.out.rawSet 0 (.int .i64 vn)).rawSet 2 (.int .i64 0))).drew;refine wp_region_held_drew (S:=fun _=>True) (by kernel_rfl) trivial (fun hHeld=> ?_);refine tQ 0 ⟨some 67,.move (.tmp 0),156,_,_,none⟩ ?_;simp only[Act.put,sA,sB,sC];refine tQ 1 ⟨some 68,.move (.tmp 0),156,_,_,none⟩ ?_;simp only[Act.put,sA,sB,sC];refine tQ 2 ⟨some 69,.nilCheck (.tmp 68),0,_,_,none⟩ ?_;simp only[Act.put,sA,sB,sC];refine tQ 3 ⟨some 70,.fieldAddr 187 (.tmp 69) 1,0,_,_,none⟩ ?_;simp only[Act.put,sA,sB,sC];refine tQ 5 ⟨some 72,.move (.tmp 0),156,_,_,none⟩ ?_;simp only[Act.put,sA,sB,sC];refine tQ 6 ⟨some 73,.nilCheck (.tmp 72),0,_,_,none⟩ ?_;simp only[Act.put,sA,sB,sC];refine tQ 7 ⟨some 74,.fieldAddr 187 (.tmp 73) 1,0,_,_,none⟩ ?_;simp only[Act.put,sA,sB,sC];refine tQ 9 ⟨some 76,.move (.tmp 0),156,_,_,none⟩ ?_;simp only[Act.put,sA,sB,sC];refine tQ 10 ⟨some 77,.nilCheck (.tmp 76),0,_,_,none⟩ ?_;simp only[Act.put,sA,sB,sC];refine tQ 11 ⟨some 78,.fieldAddr 187 (.tmp 77) 1,0,_,_,none⟩ ?_;simp only[Act.put,sA,sB,sC];refine tQ 13 ⟨some 80,.move (.tmp 6),3,_,_,none⟩ ?_;simp only[Act.put,sA,sB,sC];refine wpAnyH_ready (rs:=[4,8,12]) (by kernel_rfl) (by simp) (AllReadyH.cons (o:=⟨some 71,.load 57 (.tmp 70),57,_,_,none⟩) rfl (fun KK hK=> ?_) (AllReadyH.cons (o:=⟨some 75,.load 57 (.tmp 74),57,_,_,none⟩) rfl (fun KK hK=> ?_) (AllReadyH.cons (o:=⟨some 79,.load 57 (.tmp 78),57,_,_,none⟩) rfl (fun KK hK=> ?_) AllReadyH.nil)))
           focus
            have z1:=hs.rawCell 1;simp at z1;go_simp;refine hK.out _ _ (trivial) (fun hHeld=> ?_);clear hK KK
            try simp only[Act.put,sA,sB,sC]
            clear z1;refine wpAnyH_ready (rs:=[8,12]) (by kernel_rfl) (by simp) (AllReadyH.cons (o:=⟨some 75,.load 57 (.tmp 74),57,_,_,none⟩) rfl (fun KK hK=> ?_) (AllReadyH.cons (o:=⟨some 79,.load 57 (.tmp 78),57,_,_,none⟩) rfl (fun KK hK=> ?_) AllReadyH.nil))
            focus
             have z1:=hs.rawCell 1;simp at z1;go_simp;refine hK.out _ _ (trivial) (fun hHeld=> ?_);clear hK KK
             try simp only[Act.put,sA,sB,sC]
             clear z1;refine wpAnyH_ready (rs:=[12]) (by kernel_rfl) (by simp) (AllReadyH.cons (o:=⟨some 79,.load 57 (.tmp 78),57,_,_,none⟩) rfl (fun KK hK=> ?_) AllReadyH.nil);have z1:=hs.rawCell 1;simp at z1;go_simp;refine hK.out _ _ (trivial) (fun hHeld=> ?_);clear hK KK
             try simp only[Act.put,sA,sB,sC]
             clear z1;refine tQ 14 ⟨some 81,.slice 57 (.tmp 79) (some (.tmp 80)) none none,57,_,_,none⟩ ?_;simp only[Act.put,sA,sB,sC]
            rotate_left
            focus
             have z1:=hs.rawCell 1;simp at z1;go_simp;refine hK.out _ _ (trivial) (fun hHeld=> ?_);clear hK KK
             try simp only[Act.put,sA,sB,sC]
             clear z1;refine tQ 14 ⟨some 81,.slice 57 (.tmp 79) (some (.tmp 80)) none none,57,_,_,none⟩ ?_;simp only[Act.put,sA,sB,sC];refine wpAnyH_ready (rs:=[8]) (by kernel_rfl) (by simp) (AllReadyH.cons (o:=⟨some 75,.load 57 (.tmp 74),57,_,_,none⟩) rfl (fun KK hK=> ?_) AllReadyH.nil);have z1:=hs.rawCell 1;simp at z1;go_simp;refine hK.out _ _ (trivial) (fun hHeld=> ?_);clear hK KK
             try simp only[Act.put,sA,sB,sC]
             clear z1
            all_goals
             refine wpAnyH_ready (rs:=[15]) (by kernel_rfl) (by simp) (AllReadyH.cons (o:=⟨some 82,.call {callee:=.builtin .copy,args:= #[.tmp 75,.tmp 81],argTypes:= #[57,57]},3,_,_,none⟩) rfl (fun KK hK=> ?_) AllReadyH.nil);rw[if_pos (by rfl)];refine zAv (.tmp 75) (.tmp 81) rfl g T.length T T.length HAT.out (by rfl) _ _ _ (by rfl) HSL.out HSP.out hs.p1 (fun w' h=> ?_);have hs:=h;clear h;refine hK.out _ _ (trivial) (fun hHeld=> ?_);clear hK KK
             try simp only[Act.put,sA,sB,sC]
           rotate_left 2
           focus
            have z1:=hs.rawCell 1;simp at z1;go_simp;refine hK.out _ _ (trivial) (fun hHeld=> ?_);clear hK KK
            try simp only[Act.put,sA,sB,sC]
            clear z1;refine wpAnyH_ready (rs:=[4,12]) (by kernel_rfl) (by simp) (AllReadyH.cons (o:=⟨some 71,.load 57 (.tmp 70),57,_,_,none⟩) rfl (fun KK hK=> ?_) (AllReadyH.cons (o:=⟨some 79,.load 57 (.tmp 78),57,_,_,none⟩) rfl (fun KK hK=> ?_) AllReadyH.nil))
            focus
             have z1:=hs.rawCell 1;simp at z1;go_simp;refine hK.out _ _ (trivial) (fun hHeld=> ?_);clear hK KK
             try simp only[Act.put,sA,sB,sC]
             clear z1;refine wpAnyH_ready (rs:=[12]) (by kernel_rfl) (by simp) (AllReadyH.cons (o:=⟨some 79,.load 57 (.tmp 78),57,_,_,none⟩) rfl (fun KK hK=> ?_) AllReadyH.nil);have z1:=hs.rawCell 1;simp at z1;go_simp;refine hK.out _ _ (trivial) (fun hHeld=> ?_);clear hK KK
             try simp only[Act.put,sA,sB,sC]
             clear z1;refine tQ 14 ⟨some 81,.slice 57 (.tmp 79) (some (.tmp 80)) none none,57,_,_,none⟩ ?_;simp only[Act.put,sA,sB,sC];refine wpAnyH_ready (rs:=[15]) (by kernel_rfl) (by simp) (AllReadyH.cons (o:=⟨some 82,.call {callee:=.builtin .copy,args:= #[.tmp 75,.tmp 81],argTypes:= #[57,57]},3,_,_,none⟩) rfl (fun KK hK=> ?_) AllReadyH.nil);rw[if_pos (by rfl)];refine zAv (.tmp 75) (.tmp 81) rfl g T.length T T.length HAT.out (by rfl) _ _ _ (by rfl) HSL.out HSP.out hs.p1 (fun w' h=> ?_);have hs:=h;clear h;refine hK.out _ _ (trivial) (fun hHeld=> ?_);clear hK KK
             try simp only[Act.put,sA,sB,sC]
            rotate_left
            focus
             have z1:=hs.rawCell 1;simp at z1;go_simp;refine hK.out _ _ (trivial) (fun hHeld=> ?_);clear hK KK
             try simp only[Act.put,sA,sB,sC]
             clear z1;refine tQ 14 ⟨some 81,.slice 57 (.tmp 79) (some (.tmp 80)) none none,57,_,_,none⟩ ?_;simp only[Act.put,sA,sB,sC];refine wpAnyH_ready (rs:=[4,15]) (by kernel_rfl) (by simp) (AllReadyH.cons (o:=⟨some 71,.load 57 (.tmp 70),57,_,_,none⟩) rfl (fun KK hK=> ?_) (AllReadyH.cons (o:=⟨some 82,.call {callee:=.builtin .copy,args:= #[.tmp 75,.tmp 81],argTypes:= #[57,57]},3,_,_,none⟩) rfl (fun KK hK=> ?_) AllReadyH.nil))
             focus
              have z1:=hs.rawCell 1;simp at z1;go_simp;refine hK.out _ _ (trivial) (fun hHeld=> ?_);clear hK KK
              try simp only[Act.put,sA,sB,sC]
              clear z1;refine wpAnyH_ready (rs:=[15]) (by kernel_rfl) (by simp) (AllReadyH.cons (o:=⟨some 82,.call {callee:=.builtin .copy,args:= #[.tmp 75,.tmp 81],argTypes:= #[57,57]},3,_,_,none⟩) rfl (fun KK hK=> ?_) AllReadyH.nil);rw[if_pos (by rfl)];refine zAv (.tmp 75) (.tmp 81) rfl g T.length T T.length HAT.out (by rfl) _ _ _ (by rfl) HSL.out HSP.out hs.p1 (fun w' h=> ?_);have hs:=h;clear h;refine hK.out _ _ (trivial) (fun hHeld=> ?_);clear hK KK
              try simp only[Act.put,sA,sB,sC]
             rotate_left
             focus
              rw[if_pos (by rfl)];refine zAv (.tmp 75) (.tmp 81) rfl g T.length T T.length HAT.out (by rfl) _ _ _ (by rfl) HSL.out HSP.out hs.p1 (fun w' h=> ?_);have hs:=h;clear h;refine hK.out _ _ (trivial) (fun hHeld=> ?_);clear hK KK
              try simp only[Act.put,sA,sB,sC]
              refine wpAnyH_ready (rs:=[4]) (by kernel_rfl) (by simp) (AllReadyH.cons (o:=⟨some 71,.load 57 (.tmp 70),57,_,_,none⟩) rfl (fun KK hK=> ?_) AllReadyH.nil);have z1:=hs.p1.rawCell 1;simp at z1;go_simp;refine hK.out _ _ (trivial) (fun hHeld=> ?_);clear hK KK
              try simp only[Act.put,sA,sB,sC]
              clear z1
           rotate_left 3
           focus
            have z1:=hs.rawCell 1;simp at z1;go_simp;refine hK.out _ _ (trivial) (fun hHeld=> ?_);clear hK KK
            try simp only[Act.put,sA,sB,sC]
            clear z1;refine tQ 14 ⟨some 81,.slice 57 (.tmp 79) (some (.tmp 80)) none none,57,_,_,none⟩ ?_;simp only[Act.put,sA,sB,sC];refine wpAnyH_ready (rs:=[4,8]) (by kernel_rfl) (by simp) (AllReadyH.cons (o:=⟨some 71,.load 57 (.tmp 70),57,_,_,none⟩) rfl (fun KK hK=> ?_) (AllReadyH.cons (o:=⟨some 75,.load 57 (.tmp 74),57,_,_,none⟩) rfl (fun KK hK=> ?_) AllReadyH.nil))
            focus
             have z1:=hs.rawCell 1;simp at z1;go_simp;refine hK.out _ _ (trivial) (fun hHeld=> ?_);clear hK KK
             try simp only[Act.put,sA,sB,sC]
             clear z1;refine wpAnyH_ready (rs:=[8]) (by kernel_rfl) (by simp) (AllReadyH.cons (o:=⟨some 75,.load 57 (.tmp 74),57,_,_,none⟩) rfl (fun KK hK=> ?_) AllReadyH.nil);have z1:=hs.rawCell 1;simp at z1;go_simp;refine hK.out _ _ (trivial) (fun hHeld=> ?_);clear hK KK
             try simp only[Act.put,sA,sB,sC]
             clear z1;refine wpAnyH_ready (rs:=[15]) (by kernel_rfl) (by simp) (AllReadyH.cons (o:=⟨some 82,.call {callee:=.builtin .copy,args:= #[.tmp 75,.tmp 81],argTypes:= #[57,57]},3,_,_,none⟩) rfl (fun KK hK=> ?_) AllReadyH.nil);rw[if_pos (by rfl)];refine zAv (.tmp 75) (.tmp 81) rfl g T.length T T.length HAT.out (by rfl) _ _ _ (by rfl) HSL.out HSP.out hs.p1 (fun w' h=> ?_);have hs:=h;clear h;refine hK.out _ _ (trivial) (fun hHeld=> ?_);clear hK KK
             try simp only[Act.put,sA,sB,sC]
            rotate_left
            focus
             have z1:=hs.rawCell 1;simp at z1;go_simp;refine hK.out _ _ (trivial) (fun hHeld=> ?_);clear hK KK
             try simp only[Act.put,sA,sB,sC]
             clear z1;refine wpAnyH_ready (rs:=[4,15]) (by kernel_rfl) (by simp) (AllReadyH.cons (o:=⟨some 71,.load 57 (.tmp 70),57,_,_,none⟩) rfl (fun KK hK=> ?_) (AllReadyH.cons (o:=⟨some 82,.call {callee:=.builtin .copy,args:= #[.tmp 75,.tmp 81],argTypes:= #[57,57]},3,_,_,none⟩) rfl (fun KK hK=> ?_) AllReadyH.nil))
             focus
              have z1:=hs.rawCell 1;simp at z1;go_simp;refine hK.out _ _ (trivial) (fun hHeld=> ?_);clear hK KK
              try simp only[Act.put,sA,sB,sC]
              clear z1;refine wpAnyH_ready (rs:=[15]) (by kernel_rfl) (by simp) (AllReadyH.cons (o:=⟨some 82,.call {callee:=.builtin .copy,args:= #[.tmp 75,.tmp 81],argTypes:= #[57,57]},3,_,_,none⟩) rfl (fun KK hK=> ?_) AllReadyH.nil);rw[if_pos (by rfl)];refine zAv (.tmp 75) (.tmp 81) rfl g T.length T T.length HAT.out (by rfl) _ _ _ (by rfl) HSL.out HSP.out hs.p1 (fun w' h=> ?_);have hs:=h;clear h;refine hK.out _ _ (trivial) (fun hHeld=> ?_);clear hK KK
              try simp only[Act.put,sA,sB,sC]
             rotate_left
             focus
              rw[if_pos (by rfl)];refine zAv (.tmp 75) (.tmp 81) rfl g T.length T T.length HAT.out (by rfl) _ _ _ (by rfl) HSL.out HSP.out hs.p1 (fun w' h=> ?_);have hs:=h;clear h;refine hK.out _ _ (trivial) (fun hHeld=> ?_);clear hK KK
              try simp only[Act.put,sA,sB,sC]
              refine wpAnyH_ready (rs:=[4]) (by kernel_rfl) (by simp) (AllReadyH.cons (o:=⟨some 71,.load 57 (.tmp 70),57,_,_,none⟩) rfl (fun KK hK=> ?_) AllReadyH.nil);have z1:=hs.p1.rawCell 1;simp at z1;go_simp;refine hK.out _ _ (trivial) (fun hHeld=> ?_);clear hK KK
              try simp only[Act.put,sA,sB,sC]
              clear z1
           all_goals
            refine tQ 16 ⟨some 83,.slice 57 (.tmp 71) none (some (.tmp 82)) none,57,_,_,none⟩ ?_;simp only[Act.put,sA,sB,sC];refine tQ 17 ⟨some 84,.nilCheck (.tmp 67),0,_,_,none⟩ ?_;simp only[Act.put,sA,sB,sC];refine tQ 18 ⟨some 85,.fieldAddr 187 (.tmp 84) 1,0,_,_,none⟩ ?_;simp only[Act.put,sA,sB,sC];refine wpAnyH_ready (rs:=[19]) (by kernel_rfl) (by simp) (AllReadyH.cons (o:=⟨none,.store 57 (.tmp 85) (.tmp 83),0,_,_,none⟩) rfl (fun KK hK=> ?_) AllReadyH.nil);have hs:=hs.p1;have q1:=hs.rawFree 1;have z1:=hs.rawCell 1;simp at z1;rw[if_pos (by rfl)];refine zFR (w':=w'.setCell ⟨sb,1,none⟩ (.slice (some ⟨g,0,none⟩) 0 T.length)) (by go_simp) ?_;obtain⟨wz,ez,hs⟩:=hs.setEx 1 (.slice (some ⟨g,0,none⟩) 0 T.length);rw[ez];clear ez q1 z1;refine hK.out _ _ (trivial) (fun hHeld=> ?_);clear hK KK
            try simp only[Act.put]
            refine wpAnyH_done (by kernel_rfl) ?_ _;clear hHeld;go_wp2_with fail;simp only[Exit.jumps];go_ret;exact⟨(.slice (some ⟨g,0,none⟩) 0 T.length),q,cap,acc,rfl,HQC.out,by rw[HS1.out],HLIT.out,HACC2.out,by rw[HS1.out];simp only;rw[HVN.out,if_neg (by simp),List.length_drop,Nat.sub_self];have hcut:=zLe HAT.out hs.p1;rw[Nat.sub_self]at hcut;exact hcut.p1⟩
         · have HSL:=hQd (show T.length - at_=T.length - at_ from rfl);have HSP:=hQd (show at_<T.length→(some ⟨g,at_,none⟩:Option Addr)=some ⟨g,at_,none⟩from fun _=>rfl);have hca0:¬cv - at_=0:=by omega
           have hca1:¬cv=at_:=hca;clear hsc hkk hrec hlit hacc hat hst hf hvn hv hl ha0 hca;go_upto_region 15 with (fail);have hs:=(((H.out.rawSet 0 (.int .i64 vn)).rawSet 2 (.int .i64 0))).drew;refine wp_region_held_drew (S:=fun _=>True) (by kernel_rfl) trivial (fun hHeld=> ?_);refine tQ 0 ⟨some 67,.move (.tmp 0),156,_,_,none⟩ ?_;simp only[Act.put,sA,sB,sC];refine tQ 1 ⟨some 68,.move (.tmp 0),156,_,_,none⟩ ?_;simp only[Act.put,sA,sB,sC];refine tQ 2 ⟨some 69,.nilCheck (.tmp 68),0,_,_,none⟩ ?_;simp only[Act.put,sA,sB,sC];refine tQ 3 ⟨some 70,.fieldAddr 187 (.tmp 69) 1,0,_,_,none⟩ ?_;simp only[Act.put,sA,sB,sC];refine tQ 5 ⟨some 72,.move (.tmp 0),156,_,_,none⟩ ?_;simp only[Act.put,sA,sB,sC];refine tQ 6 ⟨some 73,.nilCheck (.tmp 72),0,_,_,none⟩ ?_;simp only[Act.put,sA,sB,sC];refine tQ 7 ⟨some 74,.fieldAddr 187 (.tmp 73) 1,0,_,_,none⟩ ?_;simp only[Act.put,sA,sB,sC];refine tQ 9 ⟨some 76,.move (.tmp 0),156,_,_,none⟩ ?_;simp only[Act.put,sA,sB,sC];refine tQ 10 ⟨some 77,.nilCheck (.tmp 76),0,_,_,none⟩ ?_;simp only[Act.put,sA,sB,sC];refine tQ 11 ⟨some 78,.fieldAddr 187 (.tmp 77) 1,0,_,_,none⟩ ?_;simp only[Act.put,sA,sB,sC];refine tQ 13 ⟨some 80,.move (.tmp 6),3,_,_,none⟩ ?_;simp only[Act.put,sA,sB,sC];refine wpAnyH_ready (rs:=[4,8,12]) (by kernel_rfl) (by simp) (AllReadyH.cons (o:=⟨some 71,.load 57 (.tmp 70),57,_,_,none⟩) rfl (fun KK hK=> ?_) (AllReadyH.cons (o:=⟨some 75,.load 57 (.tmp 74),57,_,_,none⟩) rfl (fun KK hK=> ?_) (AllReadyH.cons (o:=⟨some 79,.load 57 (.tmp 78),57,_,_,none⟩) rfl (fun KK hK=> ?_) AllReadyH.nil)))
           focus
            have z1:=hs.rawCell 1;simp at z1;go_simp;refine hK.out _ _ (trivial) (fun hHeld=> ?_);clear hK KK
            try simp only[Act.put,sA,sB,sC]
            clear z1;refine wpAnyH_ready (rs:=[8,12]) (by kernel_rfl) (by simp) (AllReadyH.cons (o:=⟨some 75,.load 57 (.tmp 74),57,_,_,none⟩) rfl (fun KK hK=> ?_) (AllReadyH.cons (o:=⟨some 79,.load 57 (.tmp 78),57,_,_,none⟩) rfl (fun KK hK=> ?_) AllReadyH.nil))
            focus
             have z1:=hs.rawCell 1;simp at z1;go_simp;refine hK.out _ _ (trivial) (fun hHeld=> ?_);clear hK KK
             try simp only[Act.put,sA,sB,sC]
             clear z1;refine wpAnyH_ready (rs:=[12]) (by kernel_rfl) (by simp) (AllReadyH.cons (o:=⟨some 79,.load 57 (.tmp 78),57,_,_,none⟩) rfl (fun KK hK=> ?_) AllReadyH.nil);have z1:=hs.rawCell 1;simp at z1;go_simp;refine hK.out _ _ (trivial) (fun hHeld=> ?_);clear hK KK
             try simp only[Act.put,sA,sB,sC]
             clear z1;refine tQ 14 ⟨some 81,.slice 57 (.tmp 79) (some (.tmp 80)) none none,57,_,_,none⟩ ?_;simp only[Act.put,sA,sB,sC]
            rotate_left
            focus
             have z1:=hs.rawCell 1;simp at z1;go_simp;refine hK.out _ _ (trivial) (fun hHeld=> ?_);clear hK KK
             try simp only[Act.put,sA,sB,sC]
             clear z1;refine tQ 14 ⟨some 81,.slice 57 (.tmp 79) (some (.tmp 80)) none none,57,_,_,none⟩ ?_;simp only[Act.put,sA,sB,sC];refine wpAnyH_ready (rs:=[8]) (by kernel_rfl) (by simp) (AllReadyH.cons (o:=⟨some 75,.load 57 (.tmp 74),57,_,_,none⟩) rfl (fun KK hK=> ?_) AllReadyH.nil);have z1:=hs.rawCell 1;simp at z1;go_simp;refine hK.out _ _ (trivial) (fun hHeld=> ?_);clear hK KK
             try simp only[Act.put,sA,sB,sC]
             clear z1
            all_goals
             refine wpAnyH_ready (rs:=[15]) (by kernel_rfl) (by simp) (AllReadyH.cons (o:=⟨some 82,.call {callee:=.builtin .copy,args:= #[.tmp 75,.tmp 81],argTypes:= #[57,57]},3,_,_,none⟩) rfl (fun KK hK=> ?_) AllReadyH.nil);rw[if_pos (by rfl)];refine zAv (.tmp 75) (.tmp 81) rfl g cv T at_ HAT.out (by rfl) _ _ _ (by rfl) HSL.out HSP.out hs.p1 (fun w' h=> ?_);have hs:=h;clear h;refine hK.out _ _ (trivial) (fun hHeld=> ?_);clear hK KK
             try simp only[Act.put,sA,sB,sC]
           rotate_left 2
           focus
            have z1:=hs.rawCell 1;simp at z1;go_simp;refine hK.out _ _ (trivial) (fun hHeld=> ?_);clear hK KK
            try simp only[Act.put,sA,sB,sC]
            clear z1;refine wpAnyH_ready (rs:=[4,12]) (by kernel_rfl) (by simp) (AllReadyH.cons (o:=⟨some 71,.load 57 (.tmp 70),57,_,_,none⟩) rfl (fun KK hK=> ?_) (AllReadyH.cons (o:=⟨some 79,.load 57 (.tmp 78),57,_,_,none⟩) rfl (fun KK hK=> ?_) AllReadyH.nil))
            focus
             have z1:=hs.rawCell 1;simp at z1;go_simp;refine hK.out _ _ (trivial) (fun hHeld=> ?_);clear hK KK
             try simp only[Act.put,sA,sB,sC]
             clear z1;refine wpAnyH_ready (rs:=[12]) (by kernel_rfl) (by simp) (AllReadyH.cons (o:=⟨some 79,.load 57 (.tmp 78),57,_,_,none⟩) rfl (fun KK hK=> ?_) AllReadyH.nil);have z1:=hs.rawCell 1;simp at z1;go_simp;refine hK.out _ _ (trivial) (fun hHeld=> ?_);clear hK KK
             try simp only[Act.put,sA,sB,sC]
             clear z1;refine tQ 14 ⟨some 81,.slice 57 (.tmp 79) (some (.tmp 80)) none none,57,_,_,none⟩ ?_;simp only[Act.put,sA,sB,sC];refine wpAnyH_ready (rs:=[15]) (by kernel_rfl) (by simp) (AllReadyH.cons (o:=⟨some 82,.call {callee:=.builtin .copy,args:= #[.tmp 75,.tmp 81],argTypes:= #[57,57]},3,_,_,none⟩) rfl (fun KK hK=> ?_) AllReadyH.nil);rw[if_pos (by rfl)];refine zAv (.tmp 75) (.tmp 81) rfl g cv T at_ HAT.out (by rfl) _ _ _ (by rfl) HSL.out HSP.out hs.p1 (fun w' h=> ?_);have hs:=h;clear h;refine hK.out _ _ (trivial) (fun hHeld=> ?_);clear hK KK
             try simp only[Act.put,sA,sB,sC]
            rotate_left
            focus
             have z1:=hs.rawCell 1;simp at z1;go_simp;refine hK.out _ _ (trivial) (fun hHeld=> ?_);clear hK KK
             try simp only[Act.put,sA,sB,sC]
             clear z1;refine tQ 14 ⟨some 81,.slice 57 (.tmp 79) (some (.tmp 80)) none none,57,_,_,none⟩ ?_;simp only[Act.put,sA,sB,sC];refine wpAnyH_ready (rs:=[4,15]) (by kernel_rfl) (by simp) (AllReadyH.cons (o:=⟨some 71,.load 57 (.tmp 70),57,_,_,none⟩) rfl (fun KK hK=> ?_) (AllReadyH.cons (o:=⟨some 82,.call {callee:=.builtin .copy,args:= #[.tmp 75,.tmp 81],argTypes:= #[57,57]},3,_,_,none⟩) rfl (fun KK hK=> ?_) AllReadyH.nil))
             focus
              have z1:=hs.rawCell 1;simp at z1;go_simp;refine hK.out _ _ (trivial) (fun hHeld=> ?_);clear hK KK
              try simp only[Act.put,sA,sB,sC]
              clear z1;refine wpAnyH_ready (rs:=[15]) (by kernel_rfl) (by simp) (AllReadyH.cons (o:=⟨some 82,.call {callee:=.builtin .copy,args:= #[.tmp 75,.tmp 81],argTypes:= #[57,57]},3,_,_,none⟩) rfl (fun KK hK=> ?_) AllReadyH.nil);rw[if_pos (by rfl)];refine zAv (.tmp 75) (.tmp 81) rfl g cv T at_ HAT.out (by rfl) _ _ _ (by rfl) HSL.out HSP.out hs.p1 (fun w' h=> ?_);have hs:=h;clear h;refine hK.out _ _ (trivial) (fun hHeld=> ?_);clear hK KK
              try simp only[Act.put,sA,sB,sC]
             rotate_left
             focus
              rw[if_pos (by rfl)];refine zAv (.tmp 75) (.tmp 81) rfl g cv T at_ HAT.out (by rfl) _ _ _ (by rfl) HSL.out HSP.out hs.p1 (fun w' h=> ?_);have hs:=h;clear h;refine hK.out _ _ (trivial) (fun hHeld=> ?_);clear hK KK
              try simp only[Act.put,sA,sB,sC]
              refine wpAnyH_ready (rs:=[4]) (by kernel_rfl) (by simp) (AllReadyH.cons (o:=⟨some 71,.load 57 (.tmp 70),57,_,_,none⟩) rfl (fun KK hK=> ?_) AllReadyH.nil);have z1:=hs.p1.rawCell 1;simp at z1;go_simp;refine hK.out _ _ (trivial) (fun hHeld=> ?_);clear hK KK
              try simp only[Act.put,sA,sB,sC]
              clear z1
           rotate_left 3
           focus
            have z1:=hs.rawCell 1;simp at z1;go_simp;refine hK.out _ _ (trivial) (fun hHeld=> ?_);clear hK KK
            try simp only[Act.put,sA,sB,sC]
            clear z1;refine tQ 14 ⟨some 81,.slice 57 (.tmp 79) (some (.tmp 80)) none none,57,_,_,none⟩ ?_;simp only[Act.put,sA,sB,sC];refine wpAnyH_ready (rs:=[4,8]) (by kernel_rfl) (by simp) (AllReadyH.cons (o:=⟨some 71,.load 57 (.tmp 70),57,_,_,none⟩) rfl (fun KK hK=> ?_) (AllReadyH.cons (o:=⟨some 75,.load 57 (.tmp 74),57,_,_,none⟩) rfl (fun KK hK=> ?_) AllReadyH.nil))
            focus
             have z1:=hs.rawCell 1;simp at z1;go_simp;refine hK.out _ _ (trivial) (fun hHeld=> ?_);clear hK KK
             try simp only[Act.put,sA,sB,sC]
             clear z1;refine wpAnyH_ready (rs:=[8]) (by kernel_rfl) (by simp) (AllReadyH.cons (o:=⟨some 75,.load 57 (.tmp 74),57,_,_,none⟩) rfl (fun KK hK=> ?_) AllReadyH.nil);have z1:=hs.rawCell 1;simp at z1;go_simp;refine hK.out _ _ (trivial) (fun hHeld=> ?_);clear hK KK
             try simp only[Act.put,sA,sB,sC]
             clear z1;refine wpAnyH_ready (rs:=[15]) (by kernel_rfl) (by simp) (AllReadyH.cons (o:=⟨some 82,.call {callee:=.builtin .copy,args:= #[.tmp 75,.tmp 81],argTypes:= #[57,57]},3,_,_,none⟩) rfl (fun KK hK=> ?_) AllReadyH.nil);rw[if_pos (by rfl)];refine zAv (.tmp 75) (.tmp 81) rfl g cv T at_ HAT.out (by rfl) _ _ _ (by rfl) HSL.out HSP.out hs.p1 (fun w' h=> ?_);have hs:=h;clear h;refine hK.out _ _ (trivial) (fun hHeld=> ?_);clear hK KK
             try simp only[Act.put,sA,sB,sC]
            rotate_left
            focus
             have z1:=hs.rawCell 1;simp at z1;go_simp;refine hK.out _ _ (trivial) (fun hHeld=> ?_);clear hK KK
             try simp only[Act.put,sA,sB,sC]
             clear z1;refine wpAnyH_ready (rs:=[4,15]) (by kernel_rfl) (by simp) (AllReadyH.cons (o:=⟨some 71,.load 57 (.tmp 70),57,_,_,none⟩) rfl (fun KK hK=> ?_) (AllReadyH.cons (o:=⟨some 82,.call {callee:=.builtin .copy,args:= #[.tmp 75,.tmp 81],argTypes:= #[57,57]},3,_,_,none⟩) rfl (fun KK hK=> ?_) AllReadyH.nil))
             focus
              have z1:=hs.rawCell 1;simp at z1;go_simp;refine hK.out _ _ (trivial) (fun hHeld=> ?_);clear hK KK
              try simp only[Act.put,sA,sB,sC]
              clear z1;refine wpAnyH_ready (rs:=[15]) (by kernel_rfl) (by simp) (AllReadyH.cons (o:=⟨some 82,.call {callee:=.builtin .copy,args:= #[.tmp 75,.tmp 81],argTypes:= #[57,57]},3,_,_,none⟩) rfl (fun KK hK=> ?_) AllReadyH.nil);rw[if_pos (by rfl)];refine zAv (.tmp 75) (.tmp 81) rfl g cv T at_ HAT.out (by rfl) _ _ _ (by rfl) HSL.out HSP.out hs.p1 (fun w' h=> ?_);have hs:=h;clear h;refine hK.out _ _ (trivial) (fun hHeld=> ?_);clear hK KK
              try simp only[Act.put,sA,sB,sC]
             rotate_left
             focus
              rw[if_pos (by rfl)];refine zAv (.tmp 75) (.tmp 81) rfl g cv T at_ HAT.out (by rfl) _ _ _ (by rfl) HSL.out HSP.out hs.p1 (fun w' h=> ?_);have hs:=h;clear h;refine hK.out _ _ (trivial) (fun hHeld=> ?_);clear hK KK
              try simp only[Act.put,sA,sB,sC]
              refine wpAnyH_ready (rs:=[4]) (by kernel_rfl) (by simp) (AllReadyH.cons (o:=⟨some 71,.load 57 (.tmp 70),57,_,_,none⟩) rfl (fun KK hK=> ?_) AllReadyH.nil);have z1:=hs.p1.rawCell 1;simp at z1;go_simp;refine hK.out _ _ (trivial) (fun hHeld=> ?_);clear hK KK
              try simp only[Act.put,sA,sB,sC]
              clear z1
           all_goals
            refine tQ 16 ⟨some 83,.slice 57 (.tmp 71) none (some (.tmp 82)) none,57,_,_,none⟩ ?_;simp only[Act.put,sA,sB,sC];refine tQ 17 ⟨some 84,.nilCheck (.tmp 67),0,_,_,none⟩ ?_;simp only[Act.put,sA,sB,sC];refine tQ 18 ⟨some 85,.fieldAddr 187 (.tmp 84) 1,0,_,_,none⟩ ?_;simp only[Act.put,sA,sB,sC];refine wpAnyH_ready (rs:=[19]) (by kernel_rfl) (by simp) (AllReadyH.cons (o:=⟨none,.store 57 (.tmp 85) (.tmp 83),0,_,_,none⟩) rfl (fun KK hK=> ?_) AllReadyH.nil);have hs:=hs.p1;have q1:=hs.rawFree 1;have z1:=hs.rawCell 1;simp at z1;rw[if_pos (by rfl)];refine zFR (w':=w'.setCell ⟨sb,1,none⟩ (.slice (some ⟨g,0,none⟩) (T.length - at_) cv)) (by go_simp) ?_;obtain⟨wz,ez,hs⟩:=hs.setEx 1 (.slice (some ⟨g,0,none⟩) (T.length - at_) cv);rw[ez];clear ez q1 z1;refine hK.out _ _ (trivial) (fun hHeld=> ?_);clear hK KK
            try simp only[Act.put]
            refine wpAnyH_done (by kernel_rfl) ?_ _;clear hHeld;go_wp2_with fail;simp only[Exit.jumps];go_ret;exact⟨(.slice (some ⟨g,0,none⟩) (T.length - at_) cv),q,cap,acc,rfl,HQC.out,by rw[HS1.out],HLIT.out,HACC2.out,by rw[HS1.out];simp only;rw[HVN.out,if_neg (by simp),List.length_drop];exact(zLe HAT.out hs.p1).p1⟩
variable {W0 w:World}{K:Know}{L:List Res}
theorem zNS(l:List BatR)(i:Nat)(hi:i<l.length)(r:Nat)(hr:r<12):(l.flatMap zAz)[i*12+r]? =(zAz l[i])[r]? :=zA2 l zAz 12 (fun _ _=>rfl) i hi r hr
theorem zG7(l:List BatR):(l.flatMap zAz).length=l.length*12:=by
 induction l with
 |nil=>rfl
 |cons x t ih=>rw[List.flatMap_cons,List.length_append,ih,List.length_cons];show 12+_=_;omega
theorem zMe(l:List BatR):∀u∈l.flatMap zAz,u.oneCell'=true:=by
 intro u hu;obtain⟨x,_,hx⟩:=List.mem_flatMap.1 hu;unfold zAz at hx;simp only[List.mem_cons,List.not_mem_nil,or_false]at hx
 rcases hx with rfl|rfl|rfl|rfl|rfl|rfl|rfl|rfl|rfl|rfl|rfl|rfl<;>rfl
theorem zJG{b off n cap:Nat}{l:List BatR}(hk:K.has (Know.bats (.slice (some ⟨b,off,none⟩) n cap) l))(h:St W0 w K L)(j:Nat)(u:Value)(hu:(l.flatMap zAz)[j]? =some u):w.cell? ((⟨b,off,none⟩:Addr).add j)=some u:=by
 have hj:j<(l.flatMap zAz).length:=(List.getElem?_eq_some_iff.1 hu).1;rw[zG7]at hj;have hi:j / 12<l.length:=by omega
 have hr:j % 12<12:=Nat.mod_lt _ (by decide);have hjj:j / 12*12+j % 12=j:=by omega
 rw[←hjj,zNS l _ hi _ hr]at hu;obtain⟨F,hF,_⟩:=h.get;obtain⟨q2,cap2,hv,hrr⟩:=(zGd hk _ _ hF).at;obtain⟨b2,off2,hq,hc⟩:=hrr (by omega);rw[hq]at hv;simp at hv;obtain⟨⟨rfl,rfl⟩,_,_⟩:=hv;obtain⟨cs,_,hR,hcs⟩:=hc (j / 12) hi;unfold RBat at hR;have ha:(⟨b,off,none⟩:Addr).add j=⟨b,off+(j / 12*12+j % 12),none⟩:=by unfold Addr.add;split<;>simp_all<;>omega
 rw[ha]
 skip
 refine hcs (j % 12) u ?_;rw[hR];exact hu
theorem zE7{ops:Array Oper}{rest:List Oper}{o:Oper}{a:Act}{Q:Exit→Act→World→Prop}(hgd:o.guard=none)(sl x:Operand)
    (ho:o.op=.call {callee:=.builtin .append,args:= #[sl,x],argTypes:= #[22,22]})
    (v:Value)(n:Nat)(xs:List Value)(hs:a.eval sl=v)(hst:St W0 w K (.row v 30 12 n xs::L))(q:Option Addr)(cap:Nat)(lr:List BatR)(hx:a.eval x=.slice q lr.length cap)(hk:K.has (Know.bats (.slice q lr.length cap) lr))(hqc:q=none→cap=0)
    (hb:n+lr.length≤1000000)(h:∀v' w',St W0 w' K (.row v' 30 12 (n+lr.length) (xs++lr.flatMap zAz)::L)→wpList Tryz.prog ops Q rest (a.put o.dst v') w'):wpList Tryz.prog ops Q (o::rest) a w:=by
  by_cases h0:lr=[]
  · subst h0
    cases q with
    |none=>
      obtain rfl:=hqc rfl;obtain⟨i0,hi,_⟩:=zE0.1;refine wpList_append_own_none hgd sl x 22 ho 0 30 i0 12 Tryz.underlying22 hi v n xs hs hst.rowGet hx (h v w ?_)
      show St W0 w K (.row v 30 12 (n+0) (xs++[])::L)
      rw[List.append_nil];exact hst
    |some ad=>
      exact zBq hgd sl x 22 ho 30 Tryz.underlying22 zE0 v n xs hs hst ad 0 cap [] hx rfl (fun j u hj=>by simp at hj) (fun u hu=>by cases hu) (by simp only[List.length_nil]at hb;unfold maxLen;omega) (by simp only[List.length_nil]at hb;omega) h
  · obtain⟨b,off,rfl⟩:=zED hk hst (List.length_pos_iff.2 h0);exact zBq hgd sl x 22 ho 30 Tryz.underlying22 zE0 v n xs hs hst ⟨b,off,none⟩ lr.length cap (lr.flatMap zAz) hx (zG7 lr) (fun j u hj=>zJG hk hst j u hj) (zMe lr) (by unfold maxLen;omega) (by omega) h
theorem St.raw_neS{a b:Nat}{c c':Array Value}{T T':TypeId}(h:St W0 w K (.raw a c T::.raw b c' T'::L)):¬(a=b):=by
 exact zq18
theorem zPd(sb:Nat)(chunk:Bs)(c v:Value)(e:Int)(h0:e≠0)(h:St W0 w K (.raw sb #[c,v,.int .i64 e] 187::L)):
  Calls Tryz.prog 106 #[.pointer (some ⟨sb,0,none⟩),.string (bb chunk)] w fun en w'=>en=.returned (.slice none 0 0)∧St W0 w' K (.raw sb #[c,v,.int .i64 e] 187::L):=by
 have H:=hQd h;have c2:=h.rawCell 2;simp at c2;have g1e:(e==0)=false:=by rw[beq_eq_false_iff_ne];exact h0
 have g2e:(e !=0)=true:=by simp[bne,g1e]
 clear h h0;go_enter Tryz.func106,Tryz.ntmps106;go_wp2;refine wp_scope_straight ?_;go_wp2;rw[Exit.noGoto_ret];go_ret;exact⟨rfl,H.out⟩
theorem zOG(h:St W0 w K L):
  Calls Tryz.prog 105 #[] w fun en w'=>∃sb,en=.returned (.pointer (some ⟨sb,0,none⟩))∧St W0 w' K (.raw sb #[.int .i64 0,.slice none 0 0,.int .i64 0] 187::L):=by
 have g1:=h.allocRaw #[.int .i64 0,.slice none 0 0,.int .i64 0] 187;have H:=hQd g1;clear h g1;go_enter Tryz.func105,Tryz.ntmps105;go_wp2;go_ret;exact⟨_,rfl,H.out⟩
theorem zJa(R:Bs):61*(finS R).1.length≤R.length:=by
 obtain⟨k,a1,_,_,_,_,_,a7⟩:=zCA _ R (Nat.le_refl _)
 show 61*(zAh R).1.length≤_
 omega
theorem zPb(R:Bs):(finS R).2.2.1.length≤R.length∧(finS R).2.1≤R.length:=by
 obtain⟨k,a1,a2,_⟩:=zCA _ R (Nat.le_refl _);unfold finS;simp only;refine⟨?_,by omega⟩
 by_cases h:(zAh R).2.2≠0
 · rw[if_pos h];exact Nat.zero_le _
 · rw[if_neg h,a2,List.length_drop];omega
theorem zCH{P:Program}{fn:Func}{p t:Tmp}{ty:TypeId}(h:fn.results= #[.tmp t,.cell p ty])(tmps:Array Value)(w:World)(b:Nat)(cs:List Value)(d:TypeDesc)
    (hp:tmps.getD p undef=.pointer (some ⟨b,0,none⟩))(hc:w.rangeAt b 0 cs)(hu:P.underlying ty=some d)(hd:d.isRow=true)(hi:(P.info? ty).map (·.size)=some cs.length):
    (results fn tmps).run P w=.ok (.tuple #[tmps.getD t undef,.agg cs.toArray]) w:=by
  have hp':tmps[p]?.getD undef=.pointer (some ⟨b,0,none⟩):=by simpa using hp
  simp[results,h,hp',asAddr,run_loadVar_mid w b 0 ty cs d hc hu hd hi]
theorem zPa{R:Bs}{b:BatS}{n:Nat}(h:zCg R=.ok (b,n)):zAg R=.ok (some (b,n)):=by
 obtain⟨x,hp,rfl,hn,ha⟩:=zCU h;unfold zAg;rw[if_neg (by omega),hp];simp only;rw[if_neg (by omega),ha]
theorem zQo{R M:Bs}{b:BatS}{n:Nat}(h:zCg (R++M)=.ok (b,n))(hl:R.length<n):zAg R=.ok none:=by
 obtain⟨x,hp,hnn,hn,ha⟩:=zCU h;unfold zAg
 by_cases c:R.length<61
 · rw[if_pos c]
 · rw[if_neg c,←zDG R M (by omega),hp];simp only;rw[if_pos (by omega)]
theorem zKQ(R:Bs):∀(l:List BatR),(∀x∈l,SmallOk x.b)→zAh (encB l++R)=(l.map BatR.b++(zAh R).1,(zAh R).2)
  |[],_=>rfl
  |x::t,h=>by
    have h1:=zPa ((h x (by simp)).back (encB t++R));rw[zF6,List.append_assoc,zBJ h1,List.drop_left,zKQ R t (fun y hy=>h y (by simp[hy]))]
    rfl
theorem zQp(l:List BatR)(h:∀x∈l,SmallOk x.b)(k n:Nat)(hk:k≤(encB l).length)(hn:n≤l.length)(h1:(encB (l.take n)).length≤k)(h2:∀_:n<l.length,k<(encB (l.take (n+1))).length):
  ∃rest,finS ((encB l).take k)=((l.take n).map BatR.b,(encB (l.take n)).length,rest,0)∧rest.length=k - (encB (l.take n)).length:=by
 have hs:=zMm l n
 have ht:(encB l).take k=encB (l.take n)++(encB (l.drop n)).take (k - (encB (l.take n)).length):=by
  rw[hs,List.take_append,List.take_of_length_le h1]
 obtain⟨R,hR⟩:∃R,(encB (l.drop n)).take (k - (encB (l.take n)).length)=R:=⟨_,rfl⟩
 have hRl:R.length=k - (encB (l.take n)).length:=by
  have h3:=congrArg List.length hs;rw[List.length_append]at h3;rw[←hR,List.length_take]
  omega
 have hf:zAg R=.ok none:=by
  by_cases hh:n<l.length
  · have e1:encB (l.drop n)=l[n].b.enc++encB (l.drop (n+1)):=by rw[List.drop_eq_getElem_cons hh,zF6]
    have e2:=zF5 l n hh;have h4:=h2 hh;rw[e2,List.length_append]at h4;refine zQo (M:=(encB (l.drop n)).drop (k - (encB (l.take n)).length)) (b:=l[n].b) (n:=l[n].b.enc.length) ?_ (by omega);rw[←hR,List.take_append_drop,e1];exact(h l[n] (List.getElem_mem hh)).back _
  · have e1:l.drop n=[]:=List.drop_of_length_le (by omega);rw[e1]at hR;have:R=[]:=by rw[←hR];simp[encB]
    rw[this];unfold zAg;rw[if_pos (by decide)]
 refine⟨R,?_,hRl⟩;have hsc:=zKQ R (l.take n) (fun x hx=>h x (List.mem_of_mem_take hx));unfold finS;rw[ht,hR,hsc,zAF hf];simp only;rw[List.append_nil,List.length_append,if_neg (by simp)]
 congr 2
 omega
theorem zPA{l:List BatR}{s:Bs}{e:Int}(h:allB l=(s,e))(h0:errB l≠0):s=[]∧e=errB l:=by unfold allB at h;rw[if_neg h0]at h;cases h;exact⟨rfl,rfl⟩
theorem zQI{l:List BatR}{s:Bs}{e:Int}(h:allB l=(s,e))(h0:errB l=0):s=encB l∧e=0:=by unfold allB at h;rw[if_pos h0]at h;cases h;exact⟨rfl,rfl⟩
theorem zId(l:List BatR)(q:Option Addr)(cap:Nat)(s:Bs)(e:Int)(hse:allB l=(s,e))(hf:∀x∈l,x.Fit)(hsm:∀x∈l,zAN (x.l.map (·.1))=true)(hll:l.length≤20){W0 w:World}{K:Know}{L:List Res}(hk:K.has (Know.bats (.slice q l.length cap) l))(h:St W0 w K L):
  Calls Tryz.prog 19 #[.slice q l.length cap] w fun en w'=>en=.returned (.tuple #[.string (bb s),.int .i64 e])∧St W0 w' K L:=by
 have g1:=h.allocOut;obtain⟨po,hpo⟩:∃b,w.heap.size=b:=⟨_,rfl⟩;rw[hpo]at g1;have H:=hQd g1;have HK:=hQd hk;have HFT:=hQd hf;have HSMA:=hQd hsm;have HLL:=hQd hll;have HSE:=hQd hse;clear h g1 hk hf hsm hll hse;go_enter Tryz.func19,Tryz.ntmps19;go_wp2;go_loopw [6,7,8,11] (fun _ _ _ iv wr=>∃k:Nat,k≤l.length∧iv=.int .i64 k∧errB (l.take k)=0∧St W0 wr K (.out po ⟨encB (l.take k),0⟩::L)) (fun _ _ _ iv _=>l.length - (intOf iv).toNat)
 case atStart=>exact⟨0,Nat.zero_le _,rfl,rfl,H.out⟩
 case round=>
  obtain⟨k,hkl,rfl,her,hst⟩:=hrel;clear H;have H:=hQd hst;have HER:=hQd her;clear hst her
  by_cases hlt:k<l.length
  · have hl20:(l.length:Int)≤20:=by have:=HLL.out;omega
    have hstep:=zJe l k hlt HER.out;have hat:=zQr l k hlt HER.out;have het:=zF5 l k hlt;obtain⟨b,off,hqq⟩:=zED HK.out H.out (by omega);subst hqq;obtain⟨x,hx⟩:∃x,l[k]=x:=⟨_,rfl⟩;have cc:=zCO HK.out H.out k hlt x hx;have hmem:x∈l:=hx ▸ List.getElem_mem hlt;have XF:=hQd (HFT.out x hmem);have XR2:=hQd XF.out.2.1;have XR3:=hQd XF.out.2.2;have XK:=hQd (zB8 HK.out hmem);obtain⟨c0,c1,c2,c3,c4,c5,c6,c7,c8,c9,c10,c11⟩:=cc;obtain⟨wE,hwE⟩:∃b,wr.heap.size=b:=⟨_,rfl⟩;have hki:(k:Int)<(l.length:Int):=by omega
    have h:=H.out.allocRaw #[.int .i64 x.b.base,.int .i64 x.b.leader,.bool x.b.app,.bool x.b.txn,.bool x.b.ctl,.int .i64 x.b.last,.int .i64 x.b.first,.int .i64 x.b.maxt,.int .i64 x.b.prod,.int .i64 x.b.epoch,.int .i64 x.b.seq,.slice x.q x.l.length x.cap] 30;rw[hwE]at h;clear H;have H:=hQd h;clear h;rw[hx]at hstep hat het;have HSX:=hQd (HSMA.out x hmem);have HSTEP:=hQd hstep;clear hstep;obtain⟨x0,x1,x2,x3,x4,x5,x6,x7,x8,x9,x10,x11,y0,y1,y2,y3,y4,y5,y6,y7,y8,y9,y10,y11⟩:=zAa (b:=wE) (H.out)
    by_cases he:zAc x.b=0
    · have HSO:=hQd (BatR.small XF.out HSX.out he);obtain⟨s0,hs0⟩:∃s,x.b.enc=s:=⟨_,rfl⟩;have HS:=hQd hs0;rw[hs0]at het
      have OK:=hQd (show(⟨encB (l.take k),0⟩:OutS).ok s0.length by
       have h1:=zNX (l.take k) (fun y hy=>(BatR.small (HFT.out y (List.mem_of_mem_take hy)) (HSMA.out y (List.mem_of_mem_take hy)) (zLf _ HER.out y hy)).elen);have h2:=HLL.out;have h3:=HSO.out.elen;rw[HS.out]at h3;rw[List.length_take]at h1;unfold OutS.ok;simp only
       omega)
      have EP:=hQd (show(⟨encB (l.take k),0⟩:OutS).put s0=⟨encB (l.take (k+1)),0⟩ by rw[het];rfl);have NE:=hQd (show errB (l.take (k+1))=0 by rw[HSTEP.out];exact he);clear het hat hs0 he hx hmem
      go_wp2_with (first
  |(go_at_call 48;clear x0 y0 x1 y1 x2 y2 x3 y3 x4 y4 x5 y5 x6 y6 x7 y7 x8 y8 x9 y9 x10 y10 x11 y11;(with_reducible refine(zGg x.b s0 HS.out x.l _ _ XR3.out HSO.out XK.out H.out).mono ?_);rintro e_ wn ⟨rfl,h⟩;replace H:=hQd h;clear h;obtain⟨x0,x1,x2,x3,x4,x5,x6,x7,x8,x9,x10,x11,y0,y1,y2,y3,y4,y5,y6,y7,y8,y9,y10,y11⟩:=zAa (b:=wE) (H.out))
  |(go_at_call 49;(with_reducible refine(zMR po _ _ H.out.p1 OK.out).mono ?_);rw[EP.out];rintro e_ wn ⟨rfl,h⟩;replace H:=hQd h;clear h))
      go_roundw
      case rel=>exact⟨k+1,hlt,by go_num,NE.out,H.out.p1.drop⟩
      case measure=>first|(simp[intOf];done)|(simp[intOf];omega)
    · have hee:=zPA HSE.out (by rw[hat he];exact he);rw[hat he]at hee;obtain⟨rfl,he0⟩:=hee;have he2:zAc x.b=e:=he0.symm;rw[he2]at he;have HE:=hQd (show zAc ⟨x.b.base,x.b.leader,x.b.app,x.b.txn,x.b.ctl,x.b.last,x.b.first,x.b.maxt,x.b.prod,x.b.epoch,x.b.seq,x.l.map (·.1)⟩=e by rw[XF.out.2.2];exact he2);have H0:=hQd he;have HMX:=hQd (show x.b.first≤9223372036854775807 by have:=XF.out.1.2.2.2.1.2;omega);have HFB:=hQd (FitW.fit XF.out.2.1 HSX.out);have HLL3:=hQd (show x.l.length≤1000 by have:=zD8 HSX.out;omega);have gz:(e==0)=false:=by rw[beq_eq_false_iff_ne];exact he
      have gz3:(e !=0)=true:=by simp[bne,gz]
      clear het hat he he0 he2 hx hmem
      go_wp2_with (first
  |(go_at_call 48;clear x0 y0 x1 y1 x2 y2 x3 y3 x4 y4 x5 y5 x6 y6 x7 y7 x8 y8 x9 y9 x10 y10 x11 y11;(with_reducible refine(zGC _ _ _ _ _ _ _ _ _ _ _ x.l _ _ e HE.out H0.out HMX.out HFB.out HLL3.out XK.out H.out).mono ?_);rintro e_ wn ⟨rfl,h⟩;replace H:=hQd h;clear h;obtain⟨x0,x1,x2,x3,x4,x5,x6,x7,x8,x9,x10,x11,y0,y1,y2,y3,y4,y5,y6,y7,y8,y9,y10,y11⟩:=zAa (b:=wE) (H.out)))
      go_ret2;exact⟨rfl,H.out.drop.drop⟩
  · obtain rfl:k=l.length:=by omega
    have her:=HER.out;rw[List.take_length]at her;obtain⟨hs,rfl⟩:=zQI HSE.out her;have h:=H.out;rw[List.take_length,←hs]at h;clear H her hs;have H:=hQd h;clear h;have ET:=hQd (show(⟨s,0⟩:OutS).text=(s,0)from rfl)
    go_wp2_with (first
  |(go_at_call 50;(with_reducible refine(zHn po _ H.out).mono ?_);rw[ET.out];rintro e_ wn ⟨rfl,h⟩;replace H:=hQd h;clear h))
    go_ret2;exact⟨rfl,H.out.drop⟩
theorem zMl(z:HdrS)(h:z.key.length+z.val.data.length≤100):(encH z).length≤120:=by
 have h1:=zBs ⟨false,z.key⟩ (by show z.key.length≤_;omega);have h2:=zBs z.val (by omega);have h3:(encV ⟨false,z.key⟩).length≤z.key.length+10:=h1;unfold encH;rw[List.length_append]
 omega
theorem zMj(x:RecS)(hR:x.R)(hs:zA5 x=true):(encR x).length≤900:=by
 unfold zA5 at hs;simp only[Bool.and_eq_true,decide_eq_true_eq]at hs;obtain⟨s1,s2,s3⟩:=hs;have h1:=zCp x.time hR.1;have h2:=zCp x.off hR.2;have h3:=zBs x.key (by omega);have h4:=zBs x.val (by omega);have h5:=zBU encH 120 x.hdrs (fun z hz=>zMl z (zHQ x.hdrs s3 z hz));have h6:=zCp x.hdrs.length (by omega)
 have h7:(recF x).length≤880:=by
  unfold recF zC7;simp only[List.length_append,List.length_cons,List.length_nil]
  omega
 have h8:=zBs ⟨false,recF x⟩ (by show(recF x).length≤_;omega);have h9:(encV ⟨false,recF x⟩).length≤(recF x).length+10:=h8;unfold encR
 omega
def OkV (b:BatS):Prop:=b.R∧(∀x∈b.recs,x.R∧x.hdrs.length≤9223372036854775807∧HFit x.hdrs∧x.key.data.length≤140737488351232∧x.val.data.length≤140737488351232)∧zAN b.recs=true
theorem zNV{b:BatS}(h:OkV b):b.enc.length≤10900:=by
 obtain⟨h1,h2,h3⟩:=h;unfold zAN at h3;simp only[Bool.and_eq_true,decide_eq_true_eq]at h3;have h4:=zBU encR 900 b.recs (fun x hx=>zMj x (h2 x hx).1 (zCi _ h3.2 x hx));rw[b.enc_len];unfold BatS.rowsB
 omega
def zA4 (x:BtR):BatR:=match x.v with
  | .slice q _ cap=>⟨x.val,x.l,q,cap⟩
  | _=>⟨x.val,x.l,none,0⟩
theorem zDd(x:BtR):(zA4 x).b=x.val:=by unfold zA4;split<;>rfl
theorem zFf(x:BtR):(zA4 x).l=x.l:=by unfold zA4;split<;>rfl
theorem zMM(x:BtR)(q:Option Addr)(n cap:Nat)(h:x.v=.slice q n cap):(zA4 x).q=q∧(zA4 x).cap=cap:=by unfold zA4;rw[h];exact⟨rfl,rfl⟩
theorem zMN(l:List BtR):(l.map zA4).map BatR.b=l.map BtR.val:=by rw[List.map_map];exact List.map_congr_left fun x _=>zDd x
theorem zOy(x:BtR)(h:OkV x.val):SmB (zA4 x):=by
 obtain⟨h1,h2,h3⟩:=h;refine⟨⟨by rw[zDd];exact h1,?_,by rw[zDd,zFf];rfl⟩,by rw[zFf];exact h3⟩;rw[zFf];intro y hy;exact h2 y.1 (List.mem_map.2 ⟨y,hy,rfl⟩)
theorem zJw{v:Value}{l:List BtR}(hk:K.has (Know.btrs v l))(h:St W0 w K L):K.has (Know.bats v (l.map zA4)):=by
 have hv:∀x∈l,∃q cap,x.v=.slice q x.l.length cap:=fun x hx=>zBZ (zDY hk hx) h
 intro w' F hF;obtain⟨⟨p,cap,rfl,hr⟩,hrec⟩:=hk w' F hF;refine⟨⟨p,cap,by rw[List.length_map],fun h0=> ?_⟩,?_⟩
 · obtain⟨b,off,rfl,hb,hlt,hc⟩:=hr (by rwa [List.length_map]at h0);refine⟨b,off,rfl,hb,hlt,fun i hi=> ?_⟩;have hi2:i<l.length:=by rwa [List.length_map]at hi
   obtain⟨cs,h1,h2,h3⟩:=hc i hi2;refine⟨cs,h1,?_,h3⟩;rw[List.getElem_map];obtain⟨q,cp,e⟩:=hv l[i] (List.getElem_mem hi2);obtain⟨e1,e2⟩:=zMM l[i] q _ cp e;unfold RBt zAC zC8 at h2;unfold RBat;rw[h2,zDd,zFf,e1,e2,e]
   rfl
 · intro y hy;obtain⟨x,hx,rfl⟩:=List.mem_map.1 hy;obtain⟨q,cp,e⟩:=hv x hx;obtain⟨e1,e2⟩:=zMM x q _ cp e
   show(Know.recs (.slice (zA4 x).q (zA4 x).l.length (zA4 x).cap) (zA4 x).l).p w' F
   rw[zFf,e1,e2,←e];exact hrec x hx
theorem zNW(l:List BatR):encB l=(l.map BatR.b).flatMap BatS.enc:=by unfold encB;rw[List.flatMap_map]
theorem zJd:∀{l:List BatR},errB l=0→∀x∈l,zAc x.b=0
  |[],_,x,hx=>by cases hx
  |y::t,h,x,hx=>by
    unfold errB at h
    by_cases hy:zAc y.b=0
    · rw[if_pos hy]at h
      rcases List.mem_cons.1 hx with rfl|hx
      · exact hy
      · exact zJd h x hx
    · rw[if_neg hy]at h;exact absurd h hy
theorem zIh:∀{l:List BatR},(∀x∈l,zAc x.b=0)→errB l=0
  |[],_=>rfl
  |y::t,h=>by
    unfold errB;rw[if_pos (h y (by simp))];exact zIh (fun x hx=>h x (by simp[hx]))
def cutA (c:Int) (A:Bs):Bs:=if 0≤c∧c<(A.length:Int)then A.take c.toNat else A
theorem zN7(c:Int)(A:Bs):∃k,k≤A.length∧cutA c A=A.take k:=by
 unfold cutA
 split
 · exact⟨c.toNat,by omega,rfl⟩
 · exact⟨A.length,Nat.le_refl _,(List.take_length).symm⟩
theorem cut_n(l:List BatR)(k:Nat):∀j,j≤l.length→(∀_:j<l.length,k<(encB (l.take (j+1))).length)→∃n,n≤l.length∧(encB (l.take n)).length≤k∧∀_:n<l.length,k<(encB (l.take (n+1))).length
  |0,h,h2=>⟨0,h,by rw[List.take_zero];exact Nat.zero_le _,h2⟩
  |j+1,h,h2=>by
    by_cases hc:(encB (l.take (j+1))).length≤k
    · exact⟨j+1,h,hc,h2⟩
    · exact cut_n l k j (by omega) (fun _=>by omega)
theorem zEu:∀(l:List BatR),(∀x∈l,OkV x.b)→(encB l).length≤10900*l.length
  |[],_=>by simp[encB]
  |x::t,h=>by
    have h1:=zNV (h x (by simp));have h2:=zEu t (fun y hy=>h y (by simp[hy]));rw[zF6,List.length_append,List.length_cons]
    omega
theorem zOx(l:List BatR)(hl:l.length≤8)(hv:∀x∈l,OkV x.b)(hs:∀x∈l,SmB x)(he:∀x∈l,zAc x.b=0)(c:Int):∃T bs pv rest pe ps,ToldOk (cutA c (encB l)) T bs pv rest pe ps:=by
 have hso:∀x∈l,SmallOk x.b:=fun x hx=>SmallOk.of (hs x hx).1.2.2.symm (hs x hx).1.2.1 (hs x hx).2 (he x hx) (hs x hx).1.1
 obtain⟨k,hk,hA⟩:=zN7 c (encB l);have hlen:=zEu l hv;obtain⟨n,hn,h1,h2⟩:=cut_n l k l.length (Nat.le_refl _) (fun h=>absurd h (Nat.lt_irrefl _));obtain⟨rest,hf,_⟩:=zQp l hso k n hk hn h1 h2;rw[hA];refine⟨_,_,_,rest,0,_,hf,rfl,by rw[List.length_take];omega,?_,by rw[List.length_map,List.length_take];omega,by unfold Rn;omega,by unfold Rn;decide,rfl⟩;intro b hb;obtain⟨x,hx,rfl⟩:=List.mem_map.1 hb;exact EncOk.small (hso x (List.mem_of_mem_take hx))
theorem bchk_b(b:BatS)(l:List (RecS×Value))(q:Option Addr)(cap:Nat)(e:Int)(he:zAc b=e)(hs:SmB ⟨b,l,q,cap⟩)(hk:K.has (Know.recs (.slice q l.length cap) l))(h:St W0 w K L):
  Calls Tryz.prog 35 #[.agg #[.int .i64 b.base,.int .i64 b.leader,.bool b.app,.bool b.txn,.bool b.ctl,.int .i64 b.last,.int .i64 b.first,.int .i64 b.maxt,.int .i64 b.prod,.int .i64 b.epoch,.int .i64 b.seq,.slice q l.length cap]] w fun en w'=>en=.returned (.int .i64 e)∧St W0 w' K L:=by
 obtain⟨⟨h1,h2,h3⟩,h4⟩:=hs;simp only at h1 h2 h3 h4;exact zBS b.base b.leader b.app b.txn b.ctl b.last b.first b.maxt b.prod b.epoch b.seq l q cap e (by rw[h3];exact he) (by have:=h1.2.2.2.1.2;omega) (FitW.fit h2 h4) (by have:=zD8 h4;omega) hk h
theorem zPz{l:List BatR}(h:∀x∈l,zAc x.b=0):allB l=(encB l,0):=by unfold allB;rw[if_pos (zIh h)]
variable {W0 w:World}{K:Know}{L:List Res}
theorem zKX(ws:List Bs)(t tl:Bs)(wb n cap:Nat)(hn:n=ws.length)(hnc:n≤cap)(hl:ws.length≤1000000)(ht:zAB 32 ws=t)(htn:t++[10]=tl)(htl:t.length≤1000000)(hk:K.has (Know.strw wb 0 ws))(h:St W0 w K L):
  Calls Tryz.prog 36 #[.slice (some ⟨wb,0,none⟩) n cap] w fun en w'=>en=.returned (.string (bb tl))∧St W0 w' K L:=by
 have H:=hQd h;have HK:=hQd hk;have HN:=hQd hn;have HNC:=hQd hnc;have HWL:=hQd hl;have HT:=hQd ht;have HTL:=hQd htl;have k1:=nl_cat t tl htn;have g1:¬(9223372036854775807<t.length+1):=by omega
 clear h hk hn hnc hl ht htl htn;go_enter Tryz.func36,Tryz.ntmps36;go_wp2_with (go_at_call 73;(with_reducible refine(zM0 ws t wb n cap HN.out HNC.out HWL.out HT.out HTL.out HK.out H.out).mono ?_);rintro e_ wn ⟨rfl,h⟩;replace H:=hQd h;clear h);go_ret;exact⟨rfl,H.out⟩
theorem zEW(ws:List Bs)(t tl:Bs)(wb n:Nat)(cs:Array Value)(hcs:cs=(ws.map fun x=>Value.string (bb x)).toArray)(hn:n=ws.length)(hl:ws.length≤1000000)(ht:zAB 32 ws=t)(htn:t++[10]=tl)(htl:t.length≤1000000){T:TypeId}(h:St W0 w K (.raw wb cs T::L)):
  Calls Tryz.prog 36 #[.slice (some ⟨wb,0,none⟩) n n] w fun en w'=>en=.returned (.string (bb tl))∧St W0 w' K L:=by
 subst hcs;refine(zKX ws t tl wb n n hn (Nat.le_refl _) hl ht htn htl (Know.has_right (Know.has_refl _)) h.strs).mono ?_;rintro en w' ⟨rfl,h3⟩;exact⟨rfl,h3.know (Know.has_left (Know.has_refl _))⟩
theorem zHu(ws:List Bs)(t tl:Bs)(wb n cv:Nat)(cs:List Value)(hcs:cs=ws.flatMap zBf)(hn:n=ws.length)(h0:0<n)(hl:ws.length≤1000000)(ht:zAB 32 ws=t)(htn:t++[10]=tl)(htl:t.length≤1000000)(h:St W0 w K (.row (.slice (some ⟨wb,0,none⟩) n cv) 9 1 n cs::L)):
  Calls Tryz.prog 36 #[.slice (some ⟨wb,0,none⟩) n cv] w fun en w'=>en=.returned (.string (bb tl))∧St W0 w' K L:=by
 subst hcs hn;obtain⟨wb3,cv3,hv3,hle3,h10⟩:=h.rowStrs h0;injection hv3 with hv4 hv5 hv6;injection hv4 with hv4;injection hv4 with hv4;subst hv4 hv6;refine(zKX ws t tl wb ws.length cv rfl hle3 hl ht htn htl (Know.has_right (Know.has_refl _)) h10).mono ?_;rintro en w' ⟨rfl,h3⟩;exact⟨rfl,h3.know (Know.has_left (Know.has_refl _))⟩
variable {W0 w:World}{K:Know}{L:List Res}
theorem zP4(V e:Int)(st:Int)(hst:st=0)(hV:Rn V)(he:Rn e)(tl:Bs)(htl:zAB 32 [[118,97,108,105,100],numW V,[99,108,101,97,110]]++[10]=tl)(hlib:K.has Know.lib)(h:St W0 w K L):
  Calls Tryz.prog 79 #[.agg #[.int .i64 V,.int .i64 st,.int .i64 e]] w fun en w'=>en=.returned (.string (bb tl))∧St W0 w' K L:=by
 obtain⟨rb,hrb⟩:∃b,w.heap.size=b:=⟨_,rfl⟩;have g1:=h.allocRaw #[.int .i64 V,.int .i64 st,.int .i64 e] 112;rw[hrb]at g1;have z0:=(g1).rawCell 0;have z1:=(g1).rawCell 1;have z2:=(g1).rawCell 2;simp at z0 z1 z2;have H:=hQd g1;have HLIB:=hQd hlib;have HVR:=hQd hV;have HER:=hQd he;obtain⟨d2,hd2⟩:∃t,numW V=t:=⟨_,rfl⟩;obtain⟨d4,hd4⟩:∃t,numW e=t:=⟨_,rfl⟩;obtain⟨t,ht⟩:∃t,zAB 32 [[118,97,108,105,100],d2,[99,108,101,97,110]]=t:=⟨_,rfl⟩;have n2:=zAj V hV;have n4:=zAj e he;have HT:=hQd ht;have HTN:=hQd (show t++[10]=tl by rw[←ht,←htl,←hd2]);have HTL:=hQd (show t.length≤1000000 by rw[←ht];simp only[zAB,List.length_append,List.length_cons,List.length_nil];rw[hd2]at n2;rw[hd4]at n4;omega);have HWL:=hQd (show([[118,97,108,105,100],d2,[99,108,101,97,110]]:List Bs).length≤1000000 by simp);have HD2:=hQd hd2;have HD4:=hQd hd4;subst hst;have t1:True:=trivial;have e1:((0:Int)==0)=true:=rfl;clear h g1 hlib hV he hd2 hd4 ht htl n2 n4;go_enter Tryz.func79,Tryz.ntmps79
 go_wp2_with (first
  |(go_at_call 37;have _t:=t1;clear _t;(with_reducible refine(zA8 V HVR.out d2 HD2.out HLIB.out H.out).mono ?_);rintro e_ wn ⟨rfl,h⟩;have z0:=h.rawCell 0;have z1:=h.rawCell 1;have z2:=h.rawCell 2;simp at z0 z1 z2;replace H:=hQd h;clear h;clear t1)
  |(go_at_call 36;have h0:=H.out.allocRaw #[.string ⟨#[118,97,108,105,100]⟩,.string (bb d2),.string ⟨#[99,108,101,97,110]⟩] 9;(with_reducible refine(zEW [[118,97,108,105,100],d2,[99,108,101,97,110]] t tl _ 3 _ rfl rfl HWL.out HT.out HTN.out HTL.out h0).mono ?_);rintro e_ wn ⟨rfl,h⟩;replace H:=hQd h;clear h))
 go_ret;exact⟨rfl,H.out.drop⟩
theorem zP3(V e:Int)(st:Int)(hst:st=1)(hV:Rn V)(he:Rn e)(tl:Bs)(htl:zAB 32 [[118,97,108,105,100],numW V,[116,111,114,110]]++[10]=tl)(hlib:K.has Know.lib)(h:St W0 w K L):
  Calls Tryz.prog 79 #[.agg #[.int .i64 V,.int .i64 st,.int .i64 e]] w fun en w'=>en=.returned (.string (bb tl))∧St W0 w' K L:=by
 obtain⟨rb,hrb⟩:∃b,w.heap.size=b:=⟨_,rfl⟩;have g1:=h.allocRaw #[.int .i64 V,.int .i64 st,.int .i64 e] 112;rw[hrb]at g1;have z0:=(g1).rawCell 0;have z1:=(g1).rawCell 1;have z2:=(g1).rawCell 2;simp at z0 z1 z2;have H:=hQd g1;have HLIB:=hQd hlib;have HVR:=hQd hV;have HER:=hQd he;obtain⟨d2,hd2⟩:∃t,numW V=t:=⟨_,rfl⟩;obtain⟨d4,hd4⟩:∃t,numW e=t:=⟨_,rfl⟩;obtain⟨t,ht⟩:∃t,zAB 32 [[118,97,108,105,100],d2,[116,111,114,110]]=t:=⟨_,rfl⟩;have n2:=zAj V hV;have n4:=zAj e he;have HT:=hQd ht;have HTN:=hQd (show t++[10]=tl by rw[←ht,←htl,←hd2]);have HTL:=hQd (show t.length≤1000000 by rw[←ht];simp only[zAB,List.length_append,List.length_cons,List.length_nil];rw[hd2]at n2;rw[hd4]at n4;omega);have HWL:=hQd (show([[118,97,108,105,100],d2,[116,111,114,110]]:List Bs).length≤1000000 by simp);have HD2:=hQd hd2;have HD4:=hQd hd4;subst hst;have t1:True:=trivial;have e1:((1:Int)==0)=false:=rfl;have e2:((1:Int)==1)=true:=rfl;clear h g1 hlib hV he hd2 hd4 ht htl n2 n4;go_enter Tryz.func79,Tryz.ntmps79
 go_wp2_with (first
  |(go_at_call 37;have _t:=t1;clear _t;(with_reducible refine(zA8 V HVR.out d2 HD2.out HLIB.out H.out).mono ?_);rintro e_ wn ⟨rfl,h⟩;have z0:=h.rawCell 0;have z1:=h.rawCell 1;have z2:=h.rawCell 2;simp at z0 z1 z2;replace H:=hQd h;clear h;clear t1)
  |(go_at_call 36;have h0:=H.out.allocRaw #[.string ⟨#[118,97,108,105,100]⟩,.string (bb d2),.string ⟨#[116,111,114,110]⟩] 9;(with_reducible refine(zEW [[118,97,108,105,100],d2,[116,111,114,110]] t tl _ 3 _ rfl rfl HWL.out HT.out HTN.out HTL.out h0).mono ?_);rintro e_ wn ⟨rfl,h⟩;replace H:=hQd h;clear h))
 go_ret;exact⟨rfl,H.out.drop⟩
theorem zP2(V e:Int)(st:Int)(hs0:¬st=0)(hs1:¬st=1)(hV:Rn V)(he:Rn e)(tl:Bs)(htl:zAB 32 [[118,97,108,105,100],numW V,[98,97,100],numW e]++[10]=tl)(hlib:K.has Know.lib)(h:St W0 w K L):
  Calls Tryz.prog 79 #[.agg #[.int .i64 V,.int .i64 st,.int .i64 e]] w fun en w'=>en=.returned (.string (bb tl))∧St W0 w' K L:=by
 obtain⟨rb,hrb⟩:∃b,w.heap.size=b:=⟨_,rfl⟩;have g1:=h.allocRaw #[.int .i64 V,.int .i64 st,.int .i64 e] 112;rw[hrb]at g1;have z0:=(g1).rawCell 0;have z1:=(g1).rawCell 1;have z2:=(g1).rawCell 2;simp at z0 z1 z2;have H:=hQd g1;have HLIB:=hQd hlib;have HVR:=hQd hV;have HER:=hQd he;obtain⟨d2,hd2⟩:∃t,numW V=t:=⟨_,rfl⟩;obtain⟨d4,hd4⟩:∃t,numW e=t:=⟨_,rfl⟩;obtain⟨t,ht⟩:∃t,zAB 32 [[118,97,108,105,100],d2,[98,97,100],d4]=t:=⟨_,rfl⟩;have n2:=zAj V hV;have n4:=zAj e he;have HT:=hQd ht;have HTN:=hQd (show t++[10]=tl by rw[←ht,←htl,←hd2,←hd4]);have HTL:=hQd (show t.length≤1000000 by rw[←ht];simp only[zAB,List.length_append,List.length_cons,List.length_nil];rw[hd2]at n2;rw[hd4]at n4;omega);have HWL:=hQd (show([[118,97,108,105,100],d2,[98,97,100],d4]:List Bs).length≤1000000 by simp);have HD2:=hQd hd2;have HD4:=hQd hd4;have t1:True:=trivial;have e1:(st==0)=false:=by rw[beq_eq_false_iff_ne];exact hs0
 have e2:(st==1)=false:=by rw[beq_eq_false_iff_ne];exact hs1
 clear h g1 hlib hV he hd2 hd4 ht htl n2 n4 hs0 hs1;go_enter Tryz.func79,Tryz.ntmps79
 go_wp2_with (first
  |(go_at_call 37;have _t:=t1;clear _t;(with_reducible refine(zA8 V HVR.out d2 HD2.out HLIB.out H.out).mono ?_);rintro e_ wn ⟨rfl,h⟩;have z0:=h.rawCell 0;have z1:=h.rawCell 1;have z2:=h.rawCell 2;simp at z0 z1 z2;replace H:=hQd h;clear h;clear t1)
  |(go_at_call 37;(with_reducible refine(zA8 e HER.out d4 HD4.out HLIB.out H.out).mono ?_);rintro e_ wn ⟨rfl,h⟩;replace H:=hQd h;clear h)
  |(go_at_call 36;have h0:=H.out.allocRaw #[.string ⟨#[118,97,108,105,100]⟩,.string (bb d2),.string ⟨#[98,97,100]⟩,.string (bb d4)] 9;(with_reducible refine(zEW [[118,97,108,105,100],d2,[98,97,100],d4] t tl _ 4 _ rfl rfl HWL.out HT.out HTN.out HTL.out h0).mono ?_);rintro e_ wn ⟨rfl,h⟩;replace H:=hQd h;clear h))
 go_ret;exact⟨rfl,H.out.drop⟩
theorem rp_end(V st e:Int)(hV:Rn V)(he:Rn e)(tl:Bs)(htl:endT V st e=tl)(hlib:K.has Know.lib)(h:St W0 w K L):
   Calls Tryz.prog 79 #[.agg #[.int .i64 V,.int .i64 st,.int .i64 e]] w fun en w'=>en=.returned (.string (bb tl))∧St W0 w' K L:=by
 unfold endT endW at htl
 by_cases h0:st=0
 · rw[if_pos h0]at htl;exact zP4 V e st h0 hV he tl htl hlib h
 by_cases h1:st=1
 · rw[if_neg h0,if_pos h1]at htl;exact zP3 V e st h1 hV he tl htl hlib h
 · rw[if_neg h0,if_neg h1]at htl;exact zP2 V e st h0 h1 hV he tl htl hlib h
end Go.Proofs.YtenojajfacacoaaGreatDoor
