/- A text. -/
import Derived.Test.YtenojajfacacoaaGreatDoorGReportRawsCard11
import Derived.Test.YtenojajfacacoaaGreatDoorGReportRawsCard4
import Derived.Test.YtenojajfacacoaaGreatDoorGReportRawsCard5
import Derived.Test.YtenojajfacacoaaGreatDoorGReportRawsCard8
import Derived.RegionTactic
import Derived.WalkMore
import Derived.Test.YtenojajfacacoaaGreatDoorGReportRawsCard9
import Derived.Deep.RegionHeld3
import Derived.Deep.DeepCutAuto
import Derived.Test.YtenojajfacacoaaGreatDoorGReportRawsCard10
import Derived.Laws.ComplexArith
import Derived.Test.YtenojajfacacoaaGreatDoorGReportRawsCard1
import Derived.Laws.Cover3
import Derived.IntWalk
import Derived.Test.YtenojajfacacoaaGreatDoorGReportRawsCard2
import Derived.Test.YtenojajfacacoaaGreatDoorGReportRawsCard7
import Derived.Test.YtenojajfacacoaaGreatDoorGReportRawsCard6
/- A text. -/
namespace Go.Proofs.YtenojajfacacoaaGreatDoor
open Go.RowKit
set_option maxHeartbeats 4000000
set_option maxRecDepth 1000000
structure EncOk (b:BatS):Prop where
  rows:b.rowsB.length≤400000
  len:b.recs.length≤1000
  err:zAC b=0
  rng:b.R
  recs:∀x∈b.recs,x.R∧zA3 x=0∧x.sum≤1000000
theorem EncOk.mid{b:BatS}(h:MidOk b):EncOk b:=⟨by have:=h.rows;omega,h.len,h.err,h.rng,fun x hx=>⟨(h.fit x hx).1,(h.fit x hx).2.1,by have:=(h.fit x hx).2.2;omega⟩⟩
theorem EncOk.small{b:BatS}(h:SmallOk b):EncOk b:=⟨h.rows,by have:=h.len;omega,h.err,h.rng,h.recs⟩
theorem zHx(b:BatS)(s:Bs)(hs:b.enc=s)(l:List (RecS×Value))(q:Option Addr)(cap:Nat)(hl:l.map (·.1)=b.recs)(so:EncOk b){W0 w:World}{K:Know}{L:List Res}(hk:K.has (Know.recs (.slice q l.length cap) l))(h:St W0 w K L):
  Calls Tryz.prog 10 #[.agg #[.int .i64 b.base,.int .i64 b.leader,.bool b.app,.bool b.txn,.bool b.ctl,.int .i64 b.last,.int .i64 b.first,.int .i64 b.maxt,.int .i64 b.prod,.int .i64 b.epoch,.int .i64 b.seq,.slice q l.length cap]] w fun en w'=>en=.returned (.string (bb s))∧St W0 w' K L:=by
 obtain⟨hb,hhb⟩:∃b,w.heap.size=b:=⟨_,rfl⟩;have h1:=h.allocRaw #[.int .i64 b.base,.int .i64 b.leader,.bool b.app,.bool b.txn,.bool b.ctl,.int .i64 b.last,.int .i64 b.first,.int .i64 b.maxt,.int .i64 b.prod,.int .i64 b.epoch,.int .i64 b.seq,.slice q l.length cap] 30;rw[hhb]at h1;obtain⟨x0,x1,x2,x3,x4,x5,x6,x7,x8,x9,x10,x11,y0,y1,y2,y3,y4,y5,y6,y7,y8,y9,y10,y11⟩:=zAd (b:=hb) (h1);have H:=hQd h1;have HK:=hQd hk;have hrn:=so.rows;have hre:zA1 l=b.rowsB:=by rw[zCy,hl];rfl
 obtain⟨rows,hrows⟩:∃r,b.rowsB=r:=⟨_,rfl⟩;have hcr:=b.crc_lt;have hln:=so.len;obtain⟨at_,hat⟩:∃a,zAU b.app b.txn b.ctl 3=a:=⟨_,rfl⟩;obtain⟨x,hx⟩:∃x,b.crc=x:=⟨_,rfl⟩;obtain⟨said0,hs0⟩:∃t,zAk (b.pre 0).items=t:=⟨_,rfl⟩;obtain⟨said1,hs1⟩:∃t,zAk (b.pre x).items=t:=⟨_,rfl⟩;obtain⟨all0,ha0⟩:∃t,b.back++b.rowsB=t:=⟨_,rfl⟩;have hbl:b.back.length=40:=by unfold BatS.back;rw[zBG];rfl
 obtain⟨back,hbk⟩:∃t,b.back=t:=⟨_,rfl⟩;have hl0:said0.length=61:=by rw[←hs0];exact zA4 _
 have hl1:said1.length=61:=by rw[←hs1];exact zA4 _
 have HRW:=hQd hrows;have HN:=hQd (show b.recs.length=l.length by rw[←hl,List.length_map]);have AT:=hQd hat;have HS0:=hQd hs0;have HS1:=hQd hs1;have HF0:=hQd (BatS.fitsAll so.err so.rng 0 (by omega) (by omega) (by omega));have HR0:=hQd (BatS.pre_R so.err so.rng 0 (by omega) (by omega) (by omega));have HF1:=hQd (BatS.fitsAll so.err so.rng x (by omega) (by omega) (by omega));have HR1:=hQd (BatS.pre_R so.err so.rng x (by omega) (by omega) (by omega));have HX:=hQd (show(zAj 0#32 all0).toNat=x by rw[←ha0,←hx];rfl);have HA0:=hQd (show all0.length≤1000000 by rw[←ha0,List.length_append];omega)
 have hT:List.take (said0.length - 21) (List.drop 21 said0)=back:=by
  rw[List.take_of_length_le (by rw[List.length_drop];omega),←hs0,b.pre_drop,hbk]
 have hcat0:bb back++bb rows=bb all0:=by rw[←ha0,←hbk,←hrows];exact zAh _ _
 have hcat1:bb said1++bb rows=bb s:=by
  rw[←hs,←hs1,←hrows,←hx];exact zAh _ _
 have hrl:rows.length≤400000:=by rw[←hrows];exact hrn
 have hg0:¬(9223372036854775807<back.length+rows.length):=by rw[←hbk];omega
 have hg1:¬(9223372036854775807<said1.length+rows.length):=by omega
 have l21:(21:Int)≤(said0.length:Int):=by omega
 have l21':21≤said0.length:=by omega
 have hne:¬(said0=[]):=by intro hh;rw[hh]at hl0;simp at hl0
 have w1:IntKind.i64.wrap (49+(rows.length:Int))=49+(rows.length:Int):=IntWalk.i64_in _ (by omega);have w1':wrap64 (49+(rows.length:Int))=49+(rows.length:Int):=by unfold wrap64;omega
 have w2:IntKind.i64.wrap (x:Int)=(x:Int):=IntWalk.i64_in _ (by omega);have w2':wrap64 (x:Int)=(x:Int):=by unfold wrap64;omega
 have HRE:=hQd (hre.trans hrows)
 have HXS:=hQd (show ∀y∈l,y.1.R∧y.1.sum≤1000000 from fun y hy=>by
  have hm:y.1∈b.recs:=hl ▸ List.mem_map_of_mem hy;have:=so.recs y.1 hm
  exact⟨this.1,this.2.2⟩)
 have HLN:=hQd (show l.length≤1000 by have h9:=congrArg List.length hl;rw[List.length_map]at h9;omega);have HRN:=hQd hrl;clear h h1 hk hrn hre hrows hcr hln hat hx hs0 hs1 ha0 hbl hbk hl0 hl1 hl hs so;have HG0:=hQd (And.intro hT (And.intro hcat0 (And.intro hg0 (And.intro l21 (And.intro l21' hne)))));have HG1:=hQd (And.intro hcat1 hg1);have HW:=hQd (And.intro w1 (And.intro w1' (And.intro w2 w2')));clear hT hcat0 hg0 l21 l21' hne hcat1 hg1 w1 w1' w2 w2' hrl;go_enter Tryz.func10,Tryz.ntmps10;go_wp2;go_loopw [3,4] (fun sv iv wr=>∃k:Nat,k≤l.length∧iv=.int .i64 k∧sv=.string (bb (zA1 (l.take k)))∧St W0 wr K (.raw hb #[.int .i64 b.base,.int .i64 b.leader,.bool b.app,.bool b.txn,.bool b.ctl,.int .i64 b.last,.int .i64 b.first,.int .i64 b.maxt,.int .i64 b.prod,.int .i64 b.epoch,.int .i64 b.seq,.slice q l.length cap] 30::L)) (fun _ iv _=>l.length - (intOf iv).toNat)
 case atStart=>exact⟨0,Nat.zero_le _,rfl,rfl,H.out⟩
 case round=>
  obtain⟨k,hkl,rfl,rfl,hst⟩:=hrel;clear H x0 x1 x2 x3 x4 x5 x6 x7 x8 x9 x10 x11 y0 y1 y2 y3 y4 y5 y6 y7 y8 y9 y10 y11;have H:=hQd hst;clear hst
  by_cases hlt:k<l.length
  · as_aux_lemma=>
    have het:=zGj l k hlt
    have hpl:(zA1 (l.take k)).length≤rows.length:=by
     rw[←HRE.out]
     conv=>rhs;rw[←List.take_append_drop k l]
     unfold zA1;rw[List.flatMap_append,List.length_append]
     omega
    have hpl2:(zA1 (l.take (k+1))).length≤rows.length:=by
     rw[←HRE.out]
     conv=>rhs;rw[←List.take_append_drop (k+1) l]
     unfold zA1;rw[List.flatMap_append,List.length_append]
     omega
    obtain⟨b0,off,hqq⟩:=zBR HK.out H.out (by omega);subst hqq;obtain⟨⟨x,vx⟩,hx⟩:∃x,l[k]=x:=⟨_,rfl⟩;have cc:=zA2 HK.out H.out k hlt (x,vx) hx;have hmem:(x,vx)∈l:=hx ▸ List.getElem_mem hlt;have XF:=HXS.out (x,vx) hmem;have XF1:=hQd XF.1;have XF2:=hQd XF.2;clear XF;have xk:K.has (Know.flat RHdr vx 3 x.hdrs):=zA8 HK.out hmem;obtain⟨qx,capx,hvx⟩:=zAv xk H.out;subst hvx;have XK:=hQd xk;simp only at cc;obtain⟨c0,c1,c2,c3,c4,c5,c6⟩:=cc;rw[←Nat.add_assoc]at c1 c2 c3 c4 c5 c6;obtain⟨sx,hsx⟩:∃t,encR x=t:=⟨_,rfl⟩;have HSX:=hQd hsx;rw[hx]at het;simp only[hsx]at het;obtain⟨pre,hpre⟩:∃t,zA1 (l.take k)=t:=⟨_,rfl⟩;obtain⟨nxt,hnxt⟩:∃t,zA1 (l.take (k+1))=t:=⟨_,rfl⟩;rw[hpre]at het hpl ⊢;rw[hnxt]at het hpl2;have HNXT:=hQd hnxt;have hcat:bb pre++bb sx=bb nxt:=by rw[het];exact zAh _ _
    have hg:¬(9223372036854775807<pre.length+sx.length):=by
     have h1:=HRN.out;have h2:=congrArg List.length het;rw[List.length_append]at h2
     omega
    have hki:(k:Int)<(l.length:Int):=by omega
    have hl12:(l.length:Int)≤1000:=by have:=HLN.out;omega
    obtain⟨x0,x1,x2,x3,x4,x5,x6,x7,x8,x9,x10,x11,y0,y1,y2,y3,y4,y5,y6,y7,y8,y9,y10,y11⟩:=zAd (b:=hb) (H.out);clear xk hmem hx hsx het hpl hpl2 hpre hnxt;go_wp2_with (go_at_call 28;(with_reducible refine(zJO x (.slice qx x.hdrs.length capx) sx HSX.out XF1.out XF2.out XK.out H.out).mono ?_);rintro e_ wn ⟨rfl,h⟩;replace H:=hQd h;clear h);go_roundw
    case rel=>exact⟨k+1,hlt,by go_num,by rw[HNXT.out],H.out⟩
    case measure=>first|(simp[intOf];done)|(simp[intOf];omega)
  · obtain rfl:k=l.length:=by omega
    rw[List.take_length,HRE.out];have w1:=HW.out.1;obtain⟨x0,x1,x2,x3,x4,x5,x6,x7,x8,x9,x10,x11,y0,y1,y2,y3,y4,y5,y6,y7,y8,y9,y10,y11⟩:=zAd (b:=hb) (H.out);go_upto_region 6 with (fail);clear x0 x1 x2 x3 x4 x5 x6 x7 x8 x9 x10 x11 y0 y1 y2 y3 y4 y5 y6 y7 y8 y9 y10 y11;go_cut [5] (fun s5 wx=>s5=.string (bb said0)∧St W0 wx K (.raw hb #[.int .i64 b.base,.int .i64 b.leader,.bool b.app,.bool b.txn,.bool b.ctl,.int .i64 b.last,.int .i64 b.first,.int .i64 b.maxt,.int .i64 b.prod,.int .i64 b.epoch,.int .i64 b.seq,.slice q l.length cap] 30::L))
    case first=>
     as_aux_lemma=>
     have hs:=H.out.drew;refine wp_region_held_drew (S:=fun w'=>w'.cell? ⟨hb,0,none⟩=some (.int .i64 b.base)∧w'.cell? ⟨hb,1,none⟩=some (.int .i64 b.leader)∧w'.cell? ⟨hb,2,none⟩=some (.bool b.app)∧w'.cell? ⟨hb,3,none⟩=some (.bool b.txn)∧w'.cell? ⟨hb,4,none⟩=some (.bool b.ctl)∧w'.cell? ⟨hb,5,none⟩=some (.int .i64 b.last)∧w'.cell? ⟨hb,6,none⟩=some (.int .i64 b.first)∧w'.cell? ⟨hb,7,none⟩=some (.int .i64 b.maxt)∧w'.cell? ⟨hb,8,none⟩=some (.int .i64 b.prod)∧w'.cell? ⟨hb,9,none⟩=some (.int .i64 b.epoch)∧w'.cell? ⟨hb,10,none⟩=some (.int .i64 b.seq)∧w'.cell? ⟨hb,11,none⟩=some (.slice q l.length cap)) (by kernel_rfl) (let ⟨x0,x1,x2,x3,x4,x5,x6,x7,x8,x9,x10,x11,_⟩:=zAd (b:=hb) (hs);⟨x0,x1,x2,x3,x4,x5,x6,x7,x8,x9,x10,x11⟩) (fun hHeld=> ?_);refine tQ 0 ⟨some 26,.fieldAddr 30 (.tmp 1) 0,0,_,_,none⟩ ?_;simp only[Act.put,sA,sB,sC];refine tQ 1 ⟨some 27,.load 3 (.tmp 26),3,_,_,none⟩ ?_;simp only[Act.put,sA,sB,sC];refine tQ 2 ⟨some 28,.move (.tmp 3),9,_,_,none⟩ ?_;simp only[Act.put,sA,sB,sC];refine tQ 3 ⟨some 29,.call {callee:=.builtin .len,args:= #[.tmp 28],argTypes:= #[9]},3,_,_,none⟩ ?_;simp only[Act.put,sA,sB,sC];refine tQ 4 ⟨some 30,.binOp .add 3 (.const (Value.int IntKind.i64 49)) (.tmp 29) 3,3,_,_,none⟩ ?_;simp only[Act.put,sA,sB,sC];refine tQ 5 ⟨some 31,.fieldAddr 30 (.tmp 1) 1,0,_,_,none⟩ ?_;simp only[Act.put,sA,sB,sC];refine tQ 6 ⟨some 32,.load 3 (.tmp 31),3,_,_,none⟩ ?_;simp only[Act.put,sA,sB,sC];refine tQ 7 ⟨some 33,.load 30 (.tmp 1),30,_,_,none⟩ ?_;simp only[Act.put,sA,sB,sC];refine tQ 9 ⟨some 35,.fieldAddr 30 (.tmp 1) 5,0,_,_,none⟩ ?_;simp only[Act.put,sA,sB,sC];refine tQ 10 ⟨some 36,.load 3 (.tmp 35),3,_,_,none⟩ ?_;simp only[Act.put,sA,sB,sC];refine tQ 11 ⟨some 37,.fieldAddr 30 (.tmp 1) 6,0,_,_,none⟩ ?_;simp only[Act.put,sA,sB,sC];refine tQ 12 ⟨some 38,.load 3 (.tmp 37),3,_,_,none⟩ ?_;simp only[Act.put,sA,sB,sC];refine tQ 13 ⟨some 39,.fieldAddr 30 (.tmp 1) 7,0,_,_,none⟩ ?_;simp only[Act.put,sA,sB,sC];refine tQ 14 ⟨some 40,.load 3 (.tmp 39),3,_,_,none⟩ ?_;simp only[Act.put,sA,sB,sC];refine tQ 15 ⟨some 41,.fieldAddr 30 (.tmp 1) 8,0,_,_,none⟩ ?_;simp only[Act.put,sA,sB,sC];refine tQ 16 ⟨some 42,.load 3 (.tmp 41),3,_,_,none⟩ ?_;simp only[Act.put,sA,sB,sC];refine tQ 17 ⟨some 43,.fieldAddr 30 (.tmp 1) 9,0,_,_,none⟩ ?_;simp only[Act.put,sA,sB,sC];refine tQ 18 ⟨some 44,.load 3 (.tmp 43),3,_,_,none⟩ ?_;simp only[Act.put,sA,sB,sC];refine tQ 19 ⟨some 45,.fieldAddr 30 (.tmp 1) 10,0,_,_,none⟩ ?_;simp only[Act.put,sA,sB,sC];refine tQ 20 ⟨some 46,.load 3 (.tmp 45),3,_,_,none⟩ ?_;simp only[Act.put,sA,sB,sC];refine tQ 21 ⟨some 47,.fieldAddr 30 (.tmp 1) 11,0,_,_,none⟩ ?_;simp only[Act.put,sA,sB,sC];refine tQ 22 ⟨some 48,.load 28 (.tmp 47),28,_,_,none⟩ ?_;simp only[Act.put,sA,sB,sC];refine tQ 23 ⟨some 49,.call {callee:=.builtin .len,args:= #[.tmp 48],argTypes:= #[28]},3,_,_,none⟩ ?_;simp only[Act.put,sA,sB,sC];refine wpAnyH_ready (rs:=[8]) (by kernel_rfl) (by simp) (AllReadyH.cons (o:=⟨some 34,.call {callee:=.value (.func 30),args:= #[.tmp 33],argTypes:= #[30]},3,_,_,none⟩) rfl (fun KK hK=> ?_) AllReadyH.nil);go_simp;go_at_call 30;with_reducible refine(zGT b.base b.leader b.app b.txn b.ctl b.last b.first b.maxt b.prod b.epoch b.seq (.slice q l.length cap) at_ AT.out hs).mono ?_;rintro e wq ⟨rfl,hs⟩;refine hK.out _ _ (let ⟨x0,x1,x2,x3,x4,x5,x6,x7,x8,x9,x10,x11,_⟩:=zAd (b:=hb) (hs);⟨x0,x1,x2,x3,x4,x5,x6,x7,x8,x9,x10,x11⟩) (fun hHeld=> ?_);clear hK KK
     try simp only[Act.put,sA,sB,sC]
     refine wpAnyH_ready (rs:=[24]) (by kernel_rfl) (by simp) (AllReadyH.cons (o:=⟨some 50,.buildSlice 23 12 #[(0,.tmp 27),(1,.tmp 30),(2,.tmp 32),(3,.const (Value.int IntKind.i64 0)),(4,.tmp 34),(5,.tmp 36),(6,.tmp 38),(7,.tmp 40),(8,.tmp 42),(9,.tmp 44),(10,.tmp 46),(11,.tmp 49)],23,_,_,none⟩) rfl (fun KK hK=> ?_) AllReadyH.nil);rw[if_pos (by rfl)];refine zFi (v:=.slice (some ⟨wq.heap.size,0,none⟩) 12 12) (w':=wq.alloc (.cells #[.int .i64 b.base,.int .i64 (49+rows.length),.int .i64 b.leader,.int .i64 0,.int .i64 at_,.int .i64 b.last,.int .i64 b.first,.int .i64 b.maxt,.int .i64 b.prod,.int .i64 b.epoch,.int .i64 b.seq,.int .i64 l.length] 3 (0,0))) (zHe #[(0,.int .i64 b.base),(1,.int .i64 (49+rows.length)),(2,.int .i64 b.leader),(3,.int .i64 0),(4,.int .i64 at_),(5,.int .i64 b.last),(6,.int .i64 b.first),(7,.int .i64 b.maxt),(8,.int .i64 b.prod),(9,.int .i64 b.epoch),(10,.int .i64 b.seq),(11,.int .i64 l.length)] _ _ _ (by kernel_rfl) (zNI (b.base) ((49+rows.length)) (b.leader) (0) (at_) (b.last) (b.first) (b.maxt) (b.prod) (b.epoch) (b.seq) (l.length) wq)) ?_;obtain⟨wy,bS,ey,eb,hs⟩:=hs.allocEx #[.int .i64 b.base,.int .i64 (49+rows.length),.int .i64 b.leader,.int .i64 0,.int .i64 at_,.int .i64 b.last,.int .i64 b.first,.int .i64 b.maxt,.int .i64 b.prod,.int .i64 b.epoch,.int .i64 b.seq,.int .i64 l.length] 3;rw[ey,eb];clear ey eb;refine hK.out _ _ (let ⟨x0,x1,x2,x3,x4,x5,x6,x7,x8,x9,x10,x11,_⟩:=zAd (b:=hb) (hs.p1);⟨x0,x1,x2,x3,x4,x5,x6,x7,x8,x9,x10,x11⟩) (fun hHeld=> ?_);clear hK KK
     try simp only[Act.put,sA,sB,sC]
     refine wpAnyH_ready (rs:=[25]) (by kernel_rfl) (by simp) (AllReadyH.cons (o:=⟨some 51,.call {callee:=.value (.func 29),args:= #[.tmp 50],argTypes:= #[23]},41,_,_,none⟩) rfl (fun KK hK=> ?_) AllReadyH.nil);go_simp;go_at_call 29;with_reducible refine(zIz bS b 0 rows HRW.out at_ AT.out l.length HN.out said0 HS0.out HF0.out HR0.out hs).mono ?_;rintro e wq ⟨rfl,hs⟩;refine hK.out _ _ (let ⟨x0,x1,x2,x3,x4,x5,x6,x7,x8,x9,x10,x11,_⟩:=zAd (b:=hb) (hs.p1);⟨x0,x1,x2,x3,x4,x5,x6,x7,x8,x9,x10,x11⟩) (fun hHeld=> ?_);clear hK KK
     try simp only[Act.put,sA,sB,sC]
     have hs:=hs.drop;refine tQ 26 ⟨some 25,.move (.tmp 51),41,_,_,none⟩ ?_;simp only[Act.put,sA,sB,sC];refine tQ 27 ⟨some 52,.extract (.tmp 25) 0,9,_,_,none⟩ ?_;simp only[Act.put,sA,sB,sC];refine tQ 28 ⟨some 53,.extract (.tmp 25) 1,4,_,_,none⟩ ?_;simp only[Act.put,sA,sB,sC];refine tQ 29 ⟨some 5,.assign (.tmp 52),9,_,_,none⟩ ?_;simp only[Act.put,sA,sB,sC];refine tQ 30 ⟨some 6,.assign (.tmp 53),4,_,_,none⟩ ?_;simp only[Act.put,sA,sB,sC];refine wpAnyH_done (by kernel_rfl) ?_ _;clear hHeld;go_wp2_with fail;go_meet;exact⟨rfl,hs⟩
    case rest=>
     obtain⟨rfl,h⟩:=hcut;clear H;have H:=hQd h;clear h;obtain⟨hT,hcat0,hg0,l21,l21',hne⟩:=HG0.out;have w2:=HW.out.2.2.1;go_upto_region 8 with (go_at_call 31;(with_reducible refine(zEk all0 HA0.out x HX.out H.out).mono ?_);rintro e_ wn ⟨rfl,h⟩;replace H:=hQd h;clear h);clear w2 hT hcat0 hg0 l21 l21' hne;go_cut [8] (fun s8 wx=>s8=.string (bb said1)∧St W0 wx K (.raw hb #[.int .i64 b.base,.int .i64 b.leader,.bool b.app,.bool b.txn,.bool b.ctl,.int .i64 b.last,.int .i64 b.first,.int .i64 b.maxt,.int .i64 b.prod,.int .i64 b.epoch,.int .i64 b.seq,.slice q l.length cap] 30::L))
     case first=>
      have hs:=H.out.drew;refine wp_region_held_drew (S:=fun w'=>w'.cell? ⟨hb,0,none⟩=some (.int .i64 b.base)∧w'.cell? ⟨hb,1,none⟩=some (.int .i64 b.leader)∧w'.cell? ⟨hb,2,none⟩=some (.bool b.app)∧w'.cell? ⟨hb,3,none⟩=some (.bool b.txn)∧w'.cell? ⟨hb,4,none⟩=some (.bool b.ctl)∧w'.cell? ⟨hb,5,none⟩=some (.int .i64 b.last)∧w'.cell? ⟨hb,6,none⟩=some (.int .i64 b.first)∧w'.cell? ⟨hb,7,none⟩=some (.int .i64 b.maxt)∧w'.cell? ⟨hb,8,none⟩=some (.int .i64 b.prod)∧w'.cell? ⟨hb,9,none⟩=some (.int .i64 b.epoch)∧w'.cell? ⟨hb,10,none⟩=some (.int .i64 b.seq)∧w'.cell? ⟨hb,11,none⟩=some (.slice q l.length cap)) (by kernel_rfl) (let ⟨x0,x1,x2,x3,x4,x5,x6,x7,x8,x9,x10,x11,_⟩:=zAd (b:=hb) (hs);⟨x0,x1,x2,x3,x4,x5,x6,x7,x8,x9,x10,x11⟩) (fun hHeld=> ?_);refine tQ 0 ⟨some 61,.fieldAddr 30 (.tmp 1) 0,0,_,_,none⟩ ?_;simp only[Act.put,sA,sB,sC];refine tQ 1 ⟨some 62,.load 3 (.tmp 61),3,_,_,none⟩ ?_;simp only[Act.put,sA,sB,sC];refine tQ 2 ⟨some 63,.move (.tmp 3),9,_,_,none⟩ ?_;simp only[Act.put,sA,sB,sC];refine tQ 3 ⟨some 64,.call {callee:=.builtin .len,args:= #[.tmp 63],argTypes:= #[9]},3,_,_,none⟩ ?_;simp only[Act.put,sA,sB,sC];refine tQ 4 ⟨some 65,.binOp .add 3 (.const (Value.int IntKind.i64 49)) (.tmp 64) 3,3,_,_,none⟩ ?_;simp only[Act.put,sA,sB,sC];refine tQ 5 ⟨some 66,.fieldAddr 30 (.tmp 1) 1,0,_,_,none⟩ ?_;simp only[Act.put,sA,sB,sC];refine tQ 6 ⟨some 67,.load 3 (.tmp 66),3,_,_,none⟩ ?_;simp only[Act.put,sA,sB,sC];refine tQ 7 ⟨some 68,.move (.tmp 7),3,_,_,none⟩ ?_;simp only[Act.put,sA,sB,sC];refine tQ 8 ⟨some 69,.load 30 (.tmp 1),30,_,_,none⟩ ?_;simp only[Act.put,sA,sB,sC];refine tQ 10 ⟨some 71,.fieldAddr 30 (.tmp 1) 5,0,_,_,none⟩ ?_;simp only[Act.put,sA,sB,sC];refine tQ 11 ⟨some 72,.load 3 (.tmp 71),3,_,_,none⟩ ?_;simp only[Act.put,sA,sB,sC];refine tQ 12 ⟨some 73,.fieldAddr 30 (.tmp 1) 6,0,_,_,none⟩ ?_;simp only[Act.put,sA,sB,sC];refine tQ 13 ⟨some 74,.load 3 (.tmp 73),3,_,_,none⟩ ?_;simp only[Act.put,sA,sB,sC];refine tQ 14 ⟨some 75,.fieldAddr 30 (.tmp 1) 7,0,_,_,none⟩ ?_;simp only[Act.put,sA,sB,sC];refine tQ 15 ⟨some 76,.load 3 (.tmp 75),3,_,_,none⟩ ?_;simp only[Act.put,sA,sB,sC];refine tQ 16 ⟨some 77,.fieldAddr 30 (.tmp 1) 8,0,_,_,none⟩ ?_;simp only[Act.put,sA,sB,sC];refine tQ 17 ⟨some 78,.load 3 (.tmp 77),3,_,_,none⟩ ?_;simp only[Act.put,sA,sB,sC];refine tQ 18 ⟨some 79,.fieldAddr 30 (.tmp 1) 9,0,_,_,none⟩ ?_;simp only[Act.put,sA,sB,sC];refine tQ 19 ⟨some 80,.load 3 (.tmp 79),3,_,_,none⟩ ?_;simp only[Act.put,sA,sB,sC];refine tQ 20 ⟨some 81,.fieldAddr 30 (.tmp 1) 10,0,_,_,none⟩ ?_;simp only[Act.put,sA,sB,sC];refine tQ 21 ⟨some 82,.load 3 (.tmp 81),3,_,_,none⟩ ?_;simp only[Act.put,sA,sB,sC];refine tQ 22 ⟨some 83,.fieldAddr 30 (.tmp 1) 11,0,_,_,none⟩ ?_;simp only[Act.put,sA,sB,sC];refine tQ 23 ⟨some 84,.load 28 (.tmp 83),28,_,_,none⟩ ?_;simp only[Act.put,sA,sB,sC];refine tQ 24 ⟨some 85,.call {callee:=.builtin .len,args:= #[.tmp 84],argTypes:= #[28]},3,_,_,none⟩ ?_;simp only[Act.put,sA,sB,sC];refine wpAnyH_ready (rs:=[9]) (by kernel_rfl) (by simp) (AllReadyH.cons (o:=⟨some 70,.call {callee:=.value (.func 30),args:= #[.tmp 69],argTypes:= #[30]},3,_,_,none⟩) rfl (fun KK hK=> ?_) AllReadyH.nil);go_simp;go_at_call 30;with_reducible refine(zGT b.base b.leader b.app b.txn b.ctl b.last b.first b.maxt b.prod b.epoch b.seq (.slice q l.length cap) at_ AT.out hs).mono ?_;rintro e wq ⟨rfl,hs⟩;refine hK.out _ _ (let ⟨x0,x1,x2,x3,x4,x5,x6,x7,x8,x9,x10,x11,_⟩:=zAd (b:=hb) (hs);⟨x0,x1,x2,x3,x4,x5,x6,x7,x8,x9,x10,x11⟩) (fun hHeld=> ?_);clear hK KK
      try simp only[Act.put,sA,sB,sC]
      refine wpAnyH_ready (rs:=[25]) (by kernel_rfl) (by simp) (AllReadyH.cons (o:=⟨some 86,.buildSlice 23 12 #[(0,.tmp 62),(1,.tmp 65),(2,.tmp 67),(3,.tmp 68),(4,.tmp 70),(5,.tmp 72),(6,.tmp 74),(7,.tmp 76),(8,.tmp 78),(9,.tmp 80),(10,.tmp 82),(11,.tmp 85)],23,_,_,none⟩) rfl (fun KK hK=> ?_) AllReadyH.nil);rw[if_pos (by rfl)];refine zFi (v:=.slice (some ⟨wq.heap.size,0,none⟩) 12 12) (w':=wq.alloc (.cells #[.int .i64 b.base,.int .i64 (49+rows.length),.int .i64 b.leader,.int .i64 (x:Int),.int .i64 at_,.int .i64 b.last,.int .i64 b.first,.int .i64 b.maxt,.int .i64 b.prod,.int .i64 b.epoch,.int .i64 b.seq,.int .i64 l.length] 3 (0,0))) (zHe #[(0,.int .i64 b.base),(1,.int .i64 (49+rows.length)),(2,.int .i64 b.leader),(3,.int .i64 (x:Int)),(4,.int .i64 at_),(5,.int .i64 b.last),(6,.int .i64 b.first),(7,.int .i64 b.maxt),(8,.int .i64 b.prod),(9,.int .i64 b.epoch),(10,.int .i64 b.seq),(11,.int .i64 l.length)] _ _ _ (by kernel_rfl) (zNI (b.base) ((49+rows.length)) (b.leader) ((x:Int)) (at_) (b.last) (b.first) (b.maxt) (b.prod) (b.epoch) (b.seq) (l.length) wq)) ?_;obtain⟨wy,bS,ey,eb,hs⟩:=hs.allocEx #[.int .i64 b.base,.int .i64 (49+rows.length),.int .i64 b.leader,.int .i64 (x:Int),.int .i64 at_,.int .i64 b.last,.int .i64 b.first,.int .i64 b.maxt,.int .i64 b.prod,.int .i64 b.epoch,.int .i64 b.seq,.int .i64 l.length] 3;rw[ey,eb];clear ey eb;refine hK.out _ _ (let ⟨x0,x1,x2,x3,x4,x5,x6,x7,x8,x9,x10,x11,_⟩:=zAd (b:=hb) (hs.p1);⟨x0,x1,x2,x3,x4,x5,x6,x7,x8,x9,x10,x11⟩) (fun hHeld=> ?_);clear hK KK
      try simp only[Act.put,sA,sB,sC]
      refine wpAnyH_ready (rs:=[26]) (by kernel_rfl) (by simp) (AllReadyH.cons (o:=⟨some 87,.call {callee:=.value (.func 29),args:= #[.tmp 86],argTypes:= #[23]},41,_,_,none⟩) rfl (fun KK hK=> ?_) AllReadyH.nil);go_simp;go_at_call 29;with_reducible refine(zIz bS b (x:Int) rows HRW.out at_ AT.out l.length HN.out said1 HS1.out HF1.out HR1.out hs).mono ?_;rintro e wq ⟨rfl,hs⟩;refine hK.out _ _ (let ⟨x0,x1,x2,x3,x4,x5,x6,x7,x8,x9,x10,x11,_⟩:=zAd (b:=hb) (hs.p1);⟨x0,x1,x2,x3,x4,x5,x6,x7,x8,x9,x10,x11⟩) (fun hHeld=> ?_);clear hK KK
      try simp only[Act.put,sA,sB,sC]
      have hs:=hs.drop;refine tQ 27 ⟨some 60,.move (.tmp 87),41,_,_,none⟩ ?_;simp only[Act.put,sA,sB,sC];refine tQ 28 ⟨some 88,.extract (.tmp 60) 0,9,_,_,none⟩ ?_;simp only[Act.put,sA,sB,sC];refine tQ 29 ⟨some 89,.extract (.tmp 60) 1,4,_,_,none⟩ ?_;simp only[Act.put,sA,sB,sC];refine tQ 30 ⟨some 8,.assign (.tmp 88),9,_,_,none⟩ ?_;simp only[Act.put,sA,sB,sC];refine tQ 31 ⟨some 9,.assign (.tmp 89),4,_,_,none⟩ ?_;simp only[Act.put,sA,sB,sC];refine wpAnyH_done (by kernel_rfl) ?_ _;clear hHeld;go_wp2_with fail;go_meet;exact⟨rfl,hs⟩
     case rest=>
      obtain⟨rfl,h⟩:=hcut;clear H;have H:=hQd h;clear h;obtain⟨hcat1,hg1⟩:=HG1.out;go_wp2_with (fail);go_ret;exact⟨rfl,H.out.drop⟩
theorem zOB(base leader:Int)(app txn ctl:Bool)(last first maxt prod epoch sq:Int)(l:List (RecS×Value))(q:Option Addr)(cap:Nat)(n1 n2 n3 n4 n5:Int)(ok:Bool)(he:zB7 ⟨base,leader,app,txn,ctl,last,first,maxt,prod,epoch,sq,l.map (·.1)⟩=(n1,n2,n3,n4,n5,ok))(hmx:first≤9223372036854775807)(hfit:FitB l)(hll:l.length≤1000000){W0 w:World}{K:Know}{L:List Res}(hk:K.has (Know.recs (.slice q l.length cap) l))(h:St W0 w K L):
  Calls Tryz.prog 108 #[.agg #[.int .i64 base,.int .i64 leader,.bool app,.bool txn,.bool ctl,.int .i64 last,.int .i64 first,.int .i64 maxt,.int .i64 prod,.int .i64 epoch,.int .i64 sq,.slice q l.length cap]] w fun en w'=>en=.returned (.tuple #[.agg #[.int .i64 n1,.int .i64 n2,.int .i64 n3,.int .i64 n4,.int .i64 n5],.bool ok])∧St W0 w' K L:=by
 have HK:=hQd hk;have HFT:=hQd hfit;have HLL:=hQd hll;have HMX:=hQd hmx;have g1:=h.allocRaw #[.int .i64 base,.int .i64 leader,.bool app,.bool txn,.bool ctl,.int .i64 last,.int .i64 first,.int .i64 maxt,.int .i64 prod,.int .i64 epoch,.int .i64 sq,.slice q l.length cap] 30;have g2:=g1.allocRaw #[.int .i64 0,.int .i64 0,.int .i64 0,.int .i64 0,.int .i64 0] 161;obtain⟨hb,hhb⟩:∃b,w.heap.size=b:=⟨_,rfl⟩;obtain⟨rb,hrb⟩:∃b,hb+1=b:=⟨_,rfl⟩;simp only[World.size_alloc,hhb,hrb]at g2;have H:=hQd g2;clear h g1 g2 hk hfit hll hmx;obtain⟨⟨p0,p1,p2,p3,p4⟩,u0,u1,u2,u3,u4⟩:=zOo (b:=rb) (H.out);obtain⟨x0,x1,x2,x3,x4,x5,x6,x7,x8,x9,x10,x11,y0,y1,y2,y3,y4,y5,y6,y7,y8,y9,y10,y11⟩:=zAd (b:=hb) (H.out.p1);unfold zB7 at he;simp only at he
 by_cases c0:ctl=true
 case neg=>
  have c1:ctl=false:=by cases ctl with
   |false=>rfl
   |true=>exact absurd rfl c0
  rw[if_neg (fun h=>c0 h.1)]at he;simp only[Prod.mk.injEq]at he;obtain⟨rfl,rfl,rfl,rfl,rfl,rfl⟩:=he;subst c1;clear c0;go_enter Tryz.func108,Tryz.ntmps108;go_wp2;have hz:St W0 _ K (.raw rb #[.int .i64 0,.int .i64 0,.int .i64 0,.int .i64 0,.int .i64 0] 161::_):=H.out;refine bodyPost_ret (zBd rfl _ _ rb [.int .i64 0,.int .i64 0,.int .i64 0,.int .i64 0,.int .i64 0] _ rfl (zAn hz) Tryz.underlying161 rfl (by kernel_rfl)) rfl ?_;exact⟨rfl,hz.drop.drop⟩
 subst c0;obtain⟨e,hee⟩:∃e,zAC ⟨base,leader,app,txn,true,last,first,maxt,prod,epoch,sq,l.map (·.1)⟩=e:=⟨_,rfl⟩;have HE:=hQd hee
 by_cases c1:e=0
 case neg=>
  rw[if_neg (fun h=>c1 (hee ▸ h.2))]at he;simp only[Prod.mk.injEq]at he;obtain⟨rfl,rfl,rfl,rfl,rfl,rfl⟩:=he;have gz:(e==0)=false:=by rw[beq_eq_false_iff_ne];exact c1
  clear c1 hee;go_enter Tryz.func108,Tryz.ntmps108;go_wp2_with (go_at_call 35;(with_reducible refine(zCV _ _ _ _ _ _ _ _ _ _ _ l _ _ _ HE.out HMX.out HFT.out HLL.out HK.out H.out).mono ?_);rintro e_ wn ⟨rfl,h⟩;replace H:=hQd h;clear h;obtain⟨⟨p0,p1,p2,p3,p4⟩,u0,u1,u2,u3,u4⟩:=zOo (b:=rb) (H.out);obtain⟨x0,x1,x2,x3,x4,x5,x6,x7,x8,x9,x10,x11,y0,y1,y2,y3,y4,y5,y6,y7,y8,y9,y10,y11⟩:=zAd (b:=hb) (H.out.p1));have hz:St W0 _ K (.raw rb #[.int .i64 0,.int .i64 0,.int .i64 0,.int .i64 0,.int .i64 0] 161::_):=(((((H.out.rawSet 0 _).rawSet 1 _).rawSet 2 _).rawSet 3 _).rawSet 4 _);refine bodyPost_ret (zBd rfl _ _ rb [.int .i64 0,.int .i64 0,.int .i64 0,.int .i64 0,.int .i64 0] _ rfl (zAn hz) Tryz.underlying161 rfl (by kernel_rfl)) rfl ?_;exact⟨rfl,hz.drop.drop⟩
 subst c1;rw[if_pos ⟨rfl,hee⟩]at he;obtain⟨z,hz,hz2,hz3,hz4⟩:=zDb _ hee rfl;simp only at hz hz3 hz4;rw[hz]at he;simp only[Prod.mk.injEq]at he;have hlen:l.length=1:=by have:=congrArg List.length hz;simpa using this
 obtain⟨b,off,hqq⟩:=zBR HK.out H.out (by omega);subst hqq;have h00:0<l.length:=by omega
 obtain⟨⟨x,vx⟩,hx⟩:∃x,l[0]'h00=x:=⟨_,rfl⟩;have hmem:(x,vx)∈l:=hx ▸ List.getElem_mem _
 obtain rfl:x=z:=by
  have h1:=List.getElem_map (·.1) (l:=l) (i:=0) (h:=by rw[List.length_map];omega);have h2:(l.map (·.1))[0]'(by rw[List.length_map];omega)=z:=by simp only[hz];rfl
  rw[h2,hx]at h1;exact h1.symm
 have xf:x.R∧HFit x.hdrs∧x.sum≤1000000:=HFT.out (x,vx) hmem;have xk:K.has (Know.flat RHdr vx 3 x.hdrs):=zA8 HK.out hmem;obtain⟨qx,capx,hvx⟩:=zAv xk H.out;subst hvx;have XD:=hQd (zHq xf.2.2);have hl0:(0:Int)<(l.length:Int):=by omega
 obtain⟨⟨i1,i2,i3⟩,hi⟩:∃r,zBN x=r:=⟨_,rfl⟩;rw[hi]at hz2 he;simp only at hz2 he;subst hz2;obtain⟨rfl,rfl,rfl,hft,rfl,rfl⟩:=he;have EC:=hQd (show zBD x.key.null x.val.null x.key.data x.val.data x.hdrs.length x.off=(i1,i2,0)from hi);have f1:wrap64 (first+x.time)=n4:=by rw[←hft];unfold wrap64;omega
 have f2:IntKind.i64.wrap (first+x.time)=n4:=by rw[←hft];exact IntWalk.i64_in _ (by omega)
 have HX:=hQd hx;clear hz hz3 hz4 hmem xf xk hi hft hee hlen hx;go_enter Tryz.func108,Tryz.ntmps108
 go_wp2_with (first
  |(go_at_call 35;(with_reducible refine(zCV _ _ _ _ _ _ _ _ _ _ _ l _ _ _ HE.out HMX.out HFT.out HLL.out HK.out H.out).mono ?_);rintro e_ wn ⟨rfl,h⟩;obtain⟨⟨p0,p1,p2,p3,p4⟩,u0,u1,u2,u3,u4⟩:=zOo (b:=rb) (h);obtain⟨x0,x1,x2,x3,x4,x5,x6,x7,x8,x9,x10,x11,y0,y1,y2,y3,y4,y5,y6,y7,y8,y9,y10,y11⟩:=zAd (b:=hb) (h.p1);have cc:=zA2 HK.out h 0 h00 (x,.slice qx x.hdrs.length capx) HX.out;simp only[Nat.zero_mul,Nat.zero_add,Nat.add_zero]at cc;obtain⟨c0,c1,c2,c3,c4,c5,c6⟩:=cc;have h:=h.allocRaw #[.int .i64 x.time,.int .i64 x.off,.bool x.key.null,.string (bb x.key.data),.bool x.val.null,.string (bb x.val.data),.slice qx x.hdrs.length capx] 54;obtain⟨wE,hwE⟩:∃b,wn.heap.size=b:=⟨_,rfl⟩;rw[hwE]at h;obtain⟨ec0,ec1,ec2,ec3,ec4,ec5,ec6,ef0,ef1,ef2,ef3,ef4,ef5,ef6⟩:=raw7 (b:=wE) (h);replace H:=hQd h;clear h)
  |(go_at_call 71;(with_reducible refine(zH1 x.time x.off x.key.null x.val.null x.key.data x.val.data qx x.hdrs.length capx (i1,i2,0) EC.out XD.out.1 XD.out.2 H.out).mono ?_);rintro e_ wn ⟨rfl,h⟩;replace H:=hQd h;clear h;obtain⟨ec0,ec1,ec2,ec3,ec4,ec5,ec6,ef0,ef1,ef2,ef3,ef4,ef5,ef6⟩:=raw7 (b:=wE) (H.out);obtain⟨⟨p0,p1,p2,p3,p4⟩,u0,u1,u2,u3,u4⟩:=zOo (b:=rb) (H.out.p1);obtain⟨x0,x1,x2,x3,x4,x5,x6,x7,x8,x9,x10,x11,y0,y1,y2,y3,y4,y5,y6,y7,y8,y9,y10,y11⟩:=zAd (b:=hb) (H.out.p2)))
 have hz:St W0 _ K (.raw rb #[.int .i64 prod,.int .i64 epoch,.int .i64 i1,.int .i64 n4,.int .i64 i2] 161::_):=(((((H.out.p1.rawSet 0 _).rawSet 1 _).rawSet 2 _).rawSet 3 _).rawSet 4 _);refine bodyPost_ret (zBd rfl _ _ rb [.int .i64 prod,.int .i64 epoch,.int .i64 i1,.int .i64 n4,.int .i64 i2] _ rfl (zAn hz) Tryz.underlying161 rfl (by kernel_rfl)) rfl ?_;exact⟨rfl,hz.drop.drop.drop⟩
theorem zBw(n:Int)(hn:Rn n)(t:Bs)(ht:numW n=t){W0 w:World}{K:Know}{L:List Res}(hlib:K.has Know.lib)(h:St W0 w K L):
  Calls Tryz.prog 37 #[.int .i64 n] w fun en w'=>en=.returned (.string (bb t))∧St W0 w' K L:=by
 subst ht;unfold Rn at hn;exact zPi n hn.1 (by omega) hlib h
theorem zKr(a0 a1 a2 a3:ByteArray)(w:World):(Instr.buildSlice 69 4 #[(0,.string a0),(1,.string a1),(2,.string a2),(3,.string a3)]).run Tryz.prog w=.ok (.slice (some ⟨w.heap.size,0,none⟩) 4 4) (w.alloc (.cells #[.string a0,.string a1,.string a2,.string a3] 9 (0,0))):=by go_simp
theorem zCT{o:Oper}{ρ:Operand→Value}(ps:Array (Nat×Value))(v:Value)(w w':World)(ho:execOp ρ o=(do pure (Next.value (←Instr.buildSlice 69 4 ps))))(hb:(Instr.buildSlice 69 4 ps).run Tryz.prog w=.ok v w'):(execOp ρ o).run Tryz.prog w=.ok (.value v) w':=by
 rw[ho];simp[hb,Result.andThen]
theorem EncOk.fit{b:BatS}(so:EncOk b){l:List (RecS×Value)}(hl:l.map (·.1)=b.recs):FitB l:=by
 intro x hx;obtain⟨a,c,d⟩:=so.recs x.1 (by rw[←hl];exact List.mem_map.2 ⟨x,hx,rfl⟩);have:=zFa x.1.hdrs 1000000 (by unfold RecS.sum at d;omega);exact⟨a,fun y hy=>by have:=this y hy;omega,d⟩
theorem EncOk.llen{b:BatS}(so:EncOk b){l:List (RecS×Value)}(hl:l.map (·.1)=b.recs):l.length≤1000:=by
 have h1:=congrArg List.length hl;rw[List.length_map]at h1;have:=so.len
 omega
theorem zGa(b:BatS)(l:List (RecS×Value))(q:Option Addr)(cap:Nat)(hl:l.map (·.1)=b.recs)(n1 n2 n3 n4 n5:Int)(ok:Bool)(he:zB7 b=(n1,n2,n3,n4,n5,ok))(so:EncOk b){W0 w:World}{K:Know}{L:List Res}(hk:K.has (Know.recs (.slice q l.length cap) l))(h:St W0 w K L):
  Calls Tryz.prog 108 #[.agg #[.int .i64 b.base,.int .i64 b.leader,.bool b.app,.bool b.txn,.bool b.ctl,.int .i64 b.last,.int .i64 b.first,.int .i64 b.maxt,.int .i64 b.prod,.int .i64 b.epoch,.int .i64 b.seq,.slice q l.length cap]] w fun en w'=>en=.returned (.tuple #[.agg #[.int .i64 n1,.int .i64 n2,.int .i64 n3,.int .i64 n4,.int .i64 n5],.bool ok])∧St W0 w' K L:=
 zOB b.base b.leader b.app b.txn b.ctl b.last b.first b.maxt b.prod b.epoch b.seq l q cap n1 n2 n3 n4 n5 ok (by rw[hl];exact he) (by have:=so.rng.2.2.2.1.2;omega) (so.fit hl) (by have:=so.llen hl;omega) hk h
theorem zMa(ok:Int→Bool)(e:Int)(s:Bs):Rn (zBT 4 ok e s).1:=by
 unfold zBT;have h0:Rn 0:=by unfold Rn;decide
 have h1:Rn (sInt ((s.drop 2).take 4)):=zCj _ (by rw[List.length_take];omega)
 repeat' split
 all_goals first|exact h0|exact h1
theorem zQe(x:RecS):Rn (zBN x).2.1:=by
 unfold zBN zBD;have h0:Rn 0:=by unfold Rn;decide
 repeat' split
 all_goals first|exact h0|exact zMa _ _ _
theorem zDq{b:BatS}{n1 n2 n3 n4 n5:Int}{ok:Bool}(he:zB7 b=(n1,n2,n3,n4,n5,ok)):Rn n5:=by
 unfold zB7 at he
 split at he
 · split at he
   · rename_i x t _
     have e:(zBN x).2.1=n5:=congrArg (fun z=>z.2.2.2.2.1) he;rw[←e];exact zQe x
   · have e:(0:Int)=n5:=congrArg (fun z=>z.2.2.2.2.1) he;rw[←e];unfold Rn;decide
 · have e:(0:Int)=n5:=congrArg (fun z=>z.2.2.2.2.1) he;rw[←e];unfold Rn;decide
def ptP (b:BatS):Int:=if zAC b=0 then(b.enc.length:Int)else 0
def ptQ (b:BatS):Int:=if zAC b=0 then(b.recs.length:Int)else 0
def sP (l:List BatR):Int:=(l.map fun x=>ptP x.b).sum
def sQ (l:List BatR):Int:=(l.map fun x=>ptQ x.b).sum
theorem zPp(l:List BatR)(k:Nat)(hk:k<l.length)(x:BatR)(hx:l[k]=x):sP (l.take (k+1))=sP (l.take k)+ptP x.b∧sQ (l.take (k+1))=sQ (l.take k)+ptQ x.b∧l.take (k+1)=l.take k++[x]:=by
 have e:l.take (k+1)=l.take k++[x]:=by rw[List.take_succ_eq_append_getElem hk,hx]
 refine⟨?_,?_,e⟩
 · rw[e];unfold sP;rw[List.map_append,List.sum_append];simp
 · rw[e];unfold sQ;rw[List.map_append,List.sum_append];simp
theorem zKV{l:List (RecS×Value)}{b:BatS}(h:l.map (·.1)=b.recs):(b.recs.length:Int)=l.length:=by rw[←h,List.length_map]
end Go.Proofs.YtenojajfacacoaaGreatDoor
namespace Go.Proofs.YtenojajfacacoaaGreatDoor
open Go Ieee
def FV (d:Datum) (n:Int):Prop:=∃(s:Bool) (m:Nat) (p:Int),d=.number s m p∧p≤0∧(if s then -(m:Int)else(m:Int))=n*2 ^ (-p).toNat
def FI (x:Nat) (n:Int):Prop:=FV (double.read x) n
def Wh (n:Int):Prop:= -9007199254740992<n∧n<9007199254740992
theorem zFq(s:Bool)(m up:Nat):signed s m up=(if s then -(m:Int)else(m:Int))*2 ^ up:=by
 unfold signed;rw[Nat.shiftLeft_eq]
 cases s<;>simp[Int.neg_mul]
theorem zIS{i b:Int}(hb:b≤i)(hi:i≤0):(2:Int) ^ (-i).toNat*2 ^ (i - b).toNat=2 ^ (-b).toNat:=by
 rw[←Int.pow_add]
 congr 1
 omega
theorem FV.sum{c d:Datum}{a b:Int}(ha:FV c a)(hb:FV d b):∃e,c.sum d=some e∧FV e (a+b):=by
 obtain⟨s,m,i,rfl,hi,va⟩:=ha;obtain⟨t,n,j,rfl,hj,vb⟩:=hb;refine⟨_,rfl,?_⟩;have hmi:min i j≤i:=Int.min_le_left _ _;have hmj:min i j≤j:=Int.min_le_right _ _;have e1:signed s m (i - min i j).toNat=a*2 ^ (-(min i j)).toNat:=by rw[zFq,va,Int.mul_assoc,zIS hmi hi]
 have e2:signed t n (j - min i j).toNat=b*2 ^ (-(min i j)).toNat:=by rw[zFq,vb,Int.mul_assoc,zIS hmj hj]
 have e3:signed s m (i - min i j).toNat+signed t n (j - min i j).toNat=(a+b)*2 ^ (-(min i j)).toNat:=by rw[e1,e2,Int.add_mul]
 refine⟨_,_,_,rfl,by omega,?_⟩;rw[e3];generalize (a+b)*2 ^ (-(min i j)).toNat=T
 by_cases h0:T=0
 · subst h0;cases s<;>cases t<;>simp
 · rw[if_neg h0]
   by_cases h1:T<0
   · rw[if_pos (by simpa using h1)];omega
   · rw[if_neg (by simpa using h1)];omega
theorem FV.opposite{c:Datum}{a:Int}(ha:FV c a):FV c.opposite (-a):=by
 obtain⟨s,m,i,rfl,hi,va⟩:=ha;refine⟨!s,m,i,rfl,hi,?_⟩;rw[Int.neg_mul,←va]
 cases s<;>simp
theorem zOS(way:Toward)(neg:Bool)(n:Nat):way.cut neg n 0=n:=by
 unfold Toward.cut
 cases way<;>simp[Nat.mod_one]
theorem zEL(N k:Nat)(h:N≠0):(N*2 ^ k).log2=N.log2+k:=by
 induction k with
 |zero=>simp
 |succ k ih=>
  rw[Nat.pow_succ,←Nat.mul_assoc,Nat.mul_comm _ 2,Nat.log2_two_mul (Nat.mul_ne_zero h (Nat.ne_of_gt (Nat.two_pow_pos k))),ih]
  rfl
theorem zNz(way:Toward)(neg:Bool)(N k:Nat)(h:N≠0):way.cut neg (N*2 ^ k) k=N:=by
 have hl:=zEL N k h;unfold Toward.cut;have hm:min k ((N*2 ^ k).log2+2)=k:=by rw[hl];omega
 have hp:0<2 ^ k:=Nat.two_pow_pos k;simp only[hm,Nat.one_shiftLeft,Nat.mul_div_cancel _ hp,Nat.mul_mod_left]
 cases way<;>simp<;>omega
theorem zMK(s:Bool)(e K:Nat)(he:e≤52)(h1:4503599627370496≤K)(h2:K<9007199254740992):double.read (double.word s ((e+1022)*4503599627370496+K))=.number s K ((e:Int) - 52):=by
 have hR:(e+1022)*4503599627370496+K<9223372036854775808:=by omega
 have hs:double.signWeight=9223372036854775808:=by decide
 have hb:double.binade=4503599627370496:=by decide
 have hi:double.infRung=9218868437227405312:=by decide
 have hl:double.leastPlace= -1074:=by decide
 have hm:double.word s ((e+1022)*4503599627370496+K) % 9223372036854775808=(e+1022)*4503599627370496+K:=by
  unfold Format.word;rw[hs]
  cases s<;>simp<;>omega
 have hd:(double.word s ((e+1022)*4503599627370496+K) / 9223372036854775808 % 2==1)=s:=by
  unfold Format.word;rw[hs]
  cases s
  · simp only[Bool.false_eq_true,if_false];rw[Nat.div_eq_of_lt hR]
    rfl
  · simp only[if_true];rw[show(9223372036854775808+((e+1022)*4503599627370496+K)) / 9223372036854775808=1 by omega]
    rfl
 unfold Format.read;simp only[hs,hb,hi,hl,hm,hd];rw[if_neg (by omega),if_pos (by omega)];have e1:4503599627370496+((e+1022)*4503599627370496+K) % 4503599627370496=K:=by omega
 have e3:(-1074:Int)+((((e+1022)*4503599627370496+K) / 4503599627370496 - 1:Nat):Int)=(e:Int) - 52:=by omega
 exact congr (congrArg (Datum.number s) e1) e3
theorem zOC(e K:Nat)(he:e≤52)(hK:K<9007199254740992):min ((((e:Int) - 52) - double.leastPlace).toNat*double.binade+K) double.infRung=(e+1022)*4503599627370496+K:=by
 have hb:double.binade=4503599627370496:=by decide
 have hi:double.infRung=9218868437227405312:=by decide
 have hl:double.leastPlace= -1074:=by decide
 rw[hb,hi,hl,show(((e:Int) - 52) - (-1074)).toNat=e+1022 by omega]
 omega
theorem zM4(e:Nat)(he:e≤52):(e:Int) - 52≤0:=by omega
theorem zLK(e:Nat)(he:e≤52):(-((e:Int) - 52)).toNat=52 - e:=by omega
theorem zII(s:Bool):FI (double.word s 0) 0:=by
 cases s
 · exact⟨false,0,-1074,by decide+kernel,by decide,by rw[Int.zero_mul];rfl⟩
 · exact⟨true,0,-1074,by decide+kernel,by decide,by rw[Int.zero_mul];rfl⟩
theorem FV.write{d:Datum}{n:Int}(h:FV d n)(hn:Wh n):FI (double.write d) n:=by
 obtain⟨s,m,p,rfl,hp,hv⟩:=h
 show FI (double.nearest s m p) n
 unfold Format.nearest;obtain⟨k,hk⟩:∃k,(-p).toNat=k:=⟨_,rfl⟩;have hpk:p= -(k:Int):=by omega
 rw[hk]at hv
 by_cases hm:m=0
 · rw[if_pos hm];subst hm
   have h0:n=0:=by
    have hz:n*2 ^ k=0:=by rw[←hv];cases s<;>simp
    rcases Int.mul_eq_zero.1 hz with h|h
    · exact h
    · exact absurd h (Int.ne_of_gt (Int.pow_pos (by decide)))
   subst h0;exact zII s
 · rw[if_neg hm];obtain⟨N,hN⟩:∃N,n.natAbs=N:=⟨_,rfl⟩
   have hmN:m=N*2 ^ k:=by
    have h1:(m:Int).natAbs=(n*2 ^ k).natAbs:=by rw[←hv];cases s<;>simp
    rw[Int.natAbs_mul,Int.natAbs_pow,hN]at h1
    simpa using h1
   have hN0:N≠0:=by rintro rfl;simp at hmN;exact hm hmN
   have hNl:N<9007199254740992:=by unfold Wh at hn;omega
   have hL:=zEL N k hN0;obtain⟨e,he⟩:∃e,N.log2=e:=⟨_,rfl⟩
   have he52:e≤52:=by
    have h53:N<2 ^ 53:=hNl;have:=(Nat.log2_lt hN0).2 h53
    omega
   have hb1:2 ^ e≤N:=by rw[←he];exact Nat.log2_self_le hN0
   have hb2:N<2 ^ (e+1):=by rw[←he];exact Nat.lt_log2_self
   rw[hmN,hL,he]
   have hlast:max (p+((e+k:Nat):Int) - (double.fractionBits:Int)) double.leastPlace=(e:Int) - 52:=by
    show max (p+((e+k:Nat):Int) - 52) (-1074)=_
    omega
   simp only[hlast]
   have hkept:Toward.even.cut s ((N*2 ^ k)<<<(p - ((e:Int) - 52)).toNat) (((e:Int) - 52) - p).toNat=N*2 ^ (52 - e):=by
    rw[Nat.shiftLeft_eq]
    by_cases hc:k≤52 - e
    · rw[show(((e:Int) - 52) - p).toNat=0 by omega,zOS,Nat.mul_assoc,←Nat.pow_add]
      congr 2
      omega
    · rw[show(p - ((e:Int) - 52)).toNat=0 by omega,Nat.pow_zero,Nat.mul_one,show N*2 ^ k=(N*2 ^ (52 - e))*2 ^ (((e:Int) - 52) - p).toNat by rw[Nat.mul_assoc,←Nat.pow_add];congr 2;omega];exact zNz _ _ _ _ (Nat.mul_ne_zero hN0 (Nat.ne_of_gt (Nat.two_pow_pos _)))
   rw[hkept]
   have hK1:4503599627370496≤N*2 ^ (52 - e):=by
    have h1:=Nat.mul_le_mul_right (2 ^ (52 - e)) hb1;rw[←Nat.pow_add,show e+(52 - e)=52 by omega]at h1
    simpa using h1
   have hK2:N*2 ^ (52 - e)<9007199254740992:=by
    have h1:=Nat.mul_lt_mul_of_pos_right hb2 (Nat.two_pow_pos (52 - e));rw[←Nat.pow_add,show e+1+(52 - e)=53 by omega]at h1
    simpa using h1
   obtain⟨K,hKK⟩:∃K,N*2 ^ (52 - e)=K:=⟨_,rfl⟩;rw[hKK]at hK1 hK2 ⊢;have hmin:=zOC e K he52 hK2;rw[hmin];refine⟨s,K,(e:Int) - 52,zMK s e _ he52 hK1 hK2,zM4 e he52,?_⟩;rw[zLK e he52,←hKK]
   have hsg:(if s then -(N:Int)else(N:Int))=n:=by
    have hpp:(0:Int)<2 ^ k:=Int.pow_pos (by decide)
    have h2:(if s then -(N:Int)else(N:Int))*2 ^ k=n*2 ^ k:=by
      rw[←hv,hmN]
      cases s<;>simp[Int.neg_mul]
    exact Int.eq_of_mul_eq_mul_right (Int.ne_of_gt hpp) h2
   rw[←hsg]
   cases s<;>simp[Int.neg_mul]
theorem FI.add{x y:Nat}{a b:Int}(ha:FI x a)(hb:FI y b)(h:Wh (a+b)):∃r,double.add x y=some r∧FI r (a+b):=by
 obtain⟨e,he,hv⟩:=FV.sum ha hb;exact⟨double.write e,by unfold Format.add;rw[he];rfl,hv.write h⟩
theorem FI.ofInt(n:Int)(h:Wh n):FI (double.write (.number (n<0) n.natAbs 0)) n:=by
 refine FV.write ⟨_,_,_,rfl,by decide,?_⟩ h
 by_cases h0:n<0
 · simp[h0];omega
 · simp[h0];omega
end Go.Proofs.YtenojajfacacoaaGreatDoor
namespace Go.Proofs.YtenojajfacacoaaGreatDoor
open Go Ieee
theorem zPT(x:Nat):(x ^^^ 9223372036854775808) % 9223372036854775808=x % 9223372036854775808:=by
 have h:=Nat.xor_mod_two_pow (a:=x) (b:=9223372036854775808) (n:=63);have e:(2:Nat) ^ 63=9223372036854775808:=by decide
 rw[e]at h;rw[h]
 simp
theorem zPU(x:Nat):((x ^^^ 9223372036854775808) / 9223372036854775808 % 2==1)= !(x / 9223372036854775808 % 2==1):=by
 have e:(2:Nat) ^ 63=9223372036854775808:=by decide
 have h:=Nat.shiftRight_xor_distrib (a:=x) (b:=9223372036854775808) (i:=63);simp only[Nat.shiftRight_eq_div_pow,e]at h;have h2:(9223372036854775808:Nat) / 9223372036854775808=1:=by decide
 have h4:=Nat.xor_mod_two_pow (a:=x / 9223372036854775808) (b:=1) (n:=1);rw[Nat.pow_one]at h4;rw[h,h2,h4]
 rcases(by omega:x / 9223372036854775808 % 2=0∨x / 9223372036854775808 % 2=1)with h3|h3<;>rw[h3]<;>decide
theorem zOh(x:Nat):double.read (Op.negFloat .f64 x)=(double.read x).opposite:=by
 show double.read (x ^^^ 9223372036854775808)=_
 unfold Format.read;have hs:double.signWeight=9223372036854775808:=by decide
 simp only[hs,zPT,zPU]
 split
 · rfl
 · split
   · rfl
   · split<;>rfl
theorem FI.neg{x:Nat}{a:Int}(h:FI x a):FI (Op.negFloat .f64 x) (-a):=by
 unfold FI;rw[zOh];exact FV.opposite h
theorem FI.zero:FI 0 0:=zII false
theorem FI.toInt{x:Nat}{a:Int}(ha:FI x a):(FloatKind.f64.decode x).toInt .zero=some a:=by
 obtain⟨s,m,p,hd,hp,hv⟩:=ha
 show(double.read x).toInt .zero=_
 rw[hd];obtain⟨k,hk⟩:∃k,(-p).toNat=k:=⟨_,rfl⟩;rw[hk]at hv;unfold Datum.toInt Datum.integral;have e1:p.toNat=0:=by omega
 simp only[e1,Nat.shiftLeft_zero,hk];rw[zFq];simp only[Int.pow_zero,Int.mul_one];obtain⟨N,hN⟩:∃N,a.natAbs=N:=⟨_,rfl⟩
 have hmN:m=N*2 ^ k:=by
  have h1:(m:Int).natAbs=(a*2 ^ k).natAbs:=by rw[←hv];cases s<;>simp
  rw[Int.natAbs_mul,Int.natAbs_pow,hN]at h1
  simpa using h1
 have hc:Toward.zero.cut s m k=N:=by
  by_cases h0:N=0
  · subst h0;rw[hmN];unfold Toward.cut
    simp
  · rw[hmN];exact zNz _ _ _ _ h0
 rw[hc];have hpp:(0:Int)<2 ^ k:=Int.pow_pos (by decide)
 have h2:(if s then -(N:Int)else(N:Int))*2 ^ k=a*2 ^ k:=by
  rw[←hv,hmN]
  cases s<;>simp[Int.neg_mul]
 rw[Int.eq_of_mul_eq_mul_right (Int.ne_of_gt hpp) h2]
end Go.Proofs.YtenojajfacacoaaGreatDoor
namespace Go.Proofs.YtenojajfacacoaaGreatDoor
open Go.RowKit
def turnI (r a b:Int):Int×Int:=if r=1 then(-b,a)else if r=2 then(-a,-b)else if r=3 then(b,-a)else(a,b)
def qa (k:Int) (l:List Int):Nat→Int×Int
  |0=>(0,0)
  |i+1=>((qa k l i).1+(turnI ((k*i) % 4) (l.getD i 0) 0).1,(qa k l i).2+(turnI ((k*i) % 4) (l.getD i 0) 0).2)
theorem cadd{a b c d re im:Nat}(h1:Ieee.double.add a c=some re)(h2:Ieee.double.add b d=some im):cSumBits .add .f64 a b c d=some (re,im):=by
 unfold cSumBits floatBits
 show(Ieee.double.add a c).bind _=_
 rw[h1]
 show(Ieee.double.add b d).bind _=_
 rw[h2]
 rfl
theorem zOc{a b c d re im:Nat}(T:TypeId)(h1:Ieee.double.add a c=some re)(h2:Ieee.double.add b d=some im)(w:World):(binOp .add T (.complex .f64 a b) (.complex .f64 c d)).run Tryz.prog w=.ok (.complex .f64 re im) w:=
 run_complex_sum w .add (.inl rfl) T .f64 a b c d re im (cadd h1 h2)
theorem FI.conv(n:Int)(h:Wh n):FI (floatOfInt .f64 n) n:=FI.ofInt n h
def OkB (x:BatR):Prop:=x.l.map (·.1)=x.b.recs∧EncOk x.b
theorem EncOk.elen{b:BatS}(h:EncOk b):b.enc.length≤400061:=by rw[b.enc_len];have:=h.rows;omega
theorem zPO(x:BatR)(h:OkB x):(0≤ptP x.b∧ptP x.b≤401000)∧(0≤ptQ x.b∧ptQ x.b≤1000):=by
 have h0:=h.2.err;have h1:=h.2.elen;have h2:=h.2.len;unfold ptP ptQ;rw[if_pos h0,if_pos h0]
 omega
theorem zMw:∀(l:List BatR),(∀x∈l,OkB x)→(0≤sP l∧sP l≤401000*l.length)∧(0≤sQ l∧sQ l≤1000*l.length)
  |[],_=>by simp[sP,sQ]
  |x::t,h=>by
    have h1:=zPO x (h x (List.mem_cons_self));have h2:=zMw t (fun y hy=>h y (List.mem_cons_of_mem _ hy));have e1:sP (x::t)=ptP x.b+sP t:=by unfold sP;rw[List.map_cons,List.sum_cons]
    have e2:sQ (x::t)=ptQ x.b+sQ t:=by unfold sQ;rw[List.map_cons,List.sum_cons]
    rw[e1,e2,List.length_cons]
    omega
theorem zO9:∀(l:List BatR),(∀x∈l,OkB x)→sP l=sumE (l.map BatR.b)∧sQ l=sumR (l.map BatR.b)
  |[],_=>⟨rfl,rfl⟩
  |x::t,h=>by
    have h2:=zO9 t (fun y hy=>h y (List.mem_cons_of_mem _ hy));have h0:=(h x (List.mem_cons_self)).2.err;have e1:sP (x::t)=ptP x.b+sP t:=by unfold sP;rw[List.map_cons,List.sum_cons]
    have e2:sQ (x::t)=ptQ x.b+sQ t:=by unfold sQ;rw[List.map_cons,List.sum_cons]
    have e3:sumE ((x::t).map BatR.b)=(x.b.enc.length:Int)+sumE (t.map BatR.b):=by unfold sumE;rw[List.map_cons,List.map_cons,List.sum_cons]
    have e4:sumR ((x::t).map BatR.b)=(x.b.recs.length:Int)+sumR (t.map BatR.b):=by unfold sumR;rw[List.map_cons,List.map_cons,List.sum_cons]
    rw[e1,e2,e3,e4,h2.1,h2.2];unfold ptP ptQ;rw[if_pos h0,if_pos h0];exact⟨rfl,rfl⟩
theorem convR(x:Nat)(a:Int)(h:FI x a)(ha:Wh a)(w:World):(convert 119 3 (.float .f64 x)).run Tryz.prog w=.ok (.int .i64 a) w:=by
 refine run_convert_float_int w _ _ .f64 .i64 x a (by kernel_rfl) (by kernel_rfl) ?_;unfold floatToIntVal;rw[FI.toInt h];simp only;unfold Wh at ha;rw[if_pos]
 show -9223372036854775808≤a∧a≤9223372036854775807
 omega
theorem zM7{b:BatS}(so:EncOk b):(zBc b).length≤1000:=by
 have hR:=so.rng;have hll:=so.len;have m1:=zAp _ hR.1;have m2:=zAp _ hR.2.2.2.2.2.1;have m3:=zAp (b.recs.length:Int) (by unfold Rn;omega);unfold zBc zI7;obtain⟨⟨n1,n2,n3,n4,n5,ok⟩,he⟩:∃y,zB7 b=y:=⟨_,rfl⟩;have m5:=zAp _ (zDq he)
 cases ok with
 |false=>rw[zFj he];simp only[List.cons_append,List.nil_append,zAT,List.length_append,List.length_cons,List.length_nil];omega
 |true=>
  by_cases hk:n3=1
  · rw[zDi he hk];simp only[List.cons_append,List.nil_append,zAT,List.length_append,List.length_cons,List.length_nil];omega
  · rw[zD4 he hk];simp only[List.cons_append,List.nil_append,zAT,List.length_append,List.length_cons,List.length_nil];omega
theorem zIi(bs:List BatS)(V st e:Int)(hok:∀b∈bs,EncOk b)(hbl:bs.length≤900)(hV:Rn V)(he:Rn e)(hP:Rn (sumE bs))(hQ:Rn (sumR bs)):(zMg bs V st e).length≤1000000:=by
 have h1:=zK1 zBc 1000 bs (fun b hb=>zM7 (hok b hb));have m1:=zAp _ hP;have m2:=zAp _ hQ;have m3:=zAp _ hV;have m4:=zAp _ he;have h2:(totT (sumE bs) (sumR bs)).length≤100:=by unfold totT;simp only[zAT,List.length_append,List.length_cons,List.length_nil];omega
 have h3:(endT V st e).length≤100:=by
  unfold endT endW
  repeat' split
  all_goals (simp only[zAT,List.length_append,List.length_cons,List.length_nil];omega)
 unfold zMg;rw[List.length_append,List.length_append]
 omega
theorem zHr:∀(l:List BatS),(∀b∈l,EncOk b)→(0≤sumE l∧sumE l≤401000*l.length)∧(0≤sumR l∧sumR l≤1000*l.length)
  |[],_=>by simp[sumE,sumR]
  |x::t,h=>by
    have h2:=zHr t (fun y hy=>h y (List.mem_cons_of_mem _ hy));have h0:=(h x (List.mem_cons_self)).elen;have h1:=(h x (List.mem_cons_self)).len;have e3:sumE (x::t)=(x.enc.length:Int)+sumE t:=by unfold sumE;rw[List.map_cons,List.sum_cons]
    have e4:sumR (x::t)=(x.recs.length:Int)+sumR t:=by unfold sumR;rw[List.map_cons,List.sum_cons]
    rw[e3,e4,List.length_cons]
    omega
set_option maxHeartbeats 1000000
set_option maxRecDepth 100000
variable {W0 w:World}{K:Know}{L:List Res}
theorem zAE{b:Nat}{T:TypeId}{v0 v1 v2 v3 v4 v5 v6 v7 v8 v9 v10 v11 v12 v13:Value}(h:St W0 w K (.raw b #[v0,v1,v2,v3,v4,v5,v6,v7,v8,v9,v10,v11,v12,v13] T::L)):
  w.cell? ⟨b,0,none⟩=some v0∧w.cell? ⟨b,1,none⟩=some v1∧w.cell? ⟨b,2,none⟩=some v2∧w.cell? ⟨b,3,none⟩=some v3∧w.cell? ⟨b,4,none⟩=some v4∧w.cell? ⟨b,5,none⟩=some v5∧w.cell? ⟨b,6,none⟩=some v6∧w.cell? ⟨b,7,none⟩=some v7∧w.cell? ⟨b,8,none⟩=some v8∧w.cell? ⟨b,9,none⟩=some v9∧w.cell? ⟨b,10,none⟩=some v10∧w.cell? ⟨b,11,none⟩=some v11∧w.cell? ⟨b,12,none⟩=some v12∧w.cell? ⟨b,13,none⟩=some v13∧
  w.frozen? ⟨b,0,none⟩=false∧w.frozen? ⟨b,1,none⟩=false∧w.frozen? ⟨b,2,none⟩=false∧w.frozen? ⟨b,3,none⟩=false∧w.frozen? ⟨b,4,none⟩=false∧w.frozen? ⟨b,5,none⟩=false∧w.frozen? ⟨b,6,none⟩=false∧w.frozen? ⟨b,7,none⟩=false∧w.frozen? ⟨b,8,none⟩=false∧w.frozen? ⟨b,9,none⟩=false∧w.frozen? ⟨b,10,none⟩=false∧w.frozen? ⟨b,11,none⟩=false∧w.frozen? ⟨b,12,none⟩=false∧w.frozen? ⟨b,13,none⟩=false:=
 ⟨h.rawCell 0,h.rawCell 1,h.rawCell 2,h.rawCell 3,h.rawCell 4,h.rawCell 5,h.rawCell 6,h.rawCell 7,h.rawCell 8,h.rawCell 9,h.rawCell 10,h.rawCell 11,h.rawCell 12,h.rawCell 13,h.rawFree 0,h.rawFree 1,h.rawFree 2,h.rawFree 3,h.rawFree 4,h.rawFree 5,h.rawFree 6,h.rawFree 7,h.rawFree 8,h.rawFree 9,h.rawFree 10,h.rawFree 11,h.rawFree 12,h.rawFree 13⟩
theorem St.sets14{b:Nat}{T:TypeId}{a0 a1 a2 a3 a4 a5 a6 a7 a8 a9 a10 a11 a12 a13:Value}(v0 v1 v2 v3 v4 v5 v6 v7 v8 v9 v10 v11 v12 v13:Value)(h:St W0 w K (.raw b #[a0,a1,a2,a3,a4,a5,a6,a7,a8,a9,a10,a11,a12,a13] T::L)):St W0 ((((((((((((((w.setCell ⟨b,0,none⟩ v0).setCell ⟨b,1,none⟩ v1).setCell ⟨b,2,none⟩ v2).setCell ⟨b,3,none⟩ v3).setCell ⟨b,4,none⟩ v4).setCell ⟨b,5,none⟩ v5).setCell ⟨b,6,none⟩ v6).setCell ⟨b,7,none⟩ v7).setCell ⟨b,8,none⟩ v8).setCell ⟨b,9,none⟩ v9).setCell ⟨b,10,none⟩ v10).setCell ⟨b,11,none⟩ v11).setCell ⟨b,12,none⟩ v12).setCell ⟨b,13,none⟩ v13) K (.raw b #[v0,v1,v2,v3,v4,v5,v6,v7,v8,v9,v10,v11,v12,v13] T::L):=by
 have h:St W0 _ K (.raw b #[v0,a1,a2,a3,a4,a5,a6,a7,a8,a9,a10,a11,a12,a13] T::L):=h.rawSet 0 v0;have h:St W0 _ K (.raw b #[v0,v1,a2,a3,a4,a5,a6,a7,a8,a9,a10,a11,a12,a13] T::L):=h.rawSet 1 v1;have h:St W0 _ K (.raw b #[v0,v1,v2,a3,a4,a5,a6,a7,a8,a9,a10,a11,a12,a13] T::L):=h.rawSet 2 v2;have h:St W0 _ K (.raw b #[v0,v1,v2,v3,a4,a5,a6,a7,a8,a9,a10,a11,a12,a13] T::L):=h.rawSet 3 v3;have h:St W0 _ K (.raw b #[v0,v1,v2,v3,v4,a5,a6,a7,a8,a9,a10,a11,a12,a13] T::L):=h.rawSet 4 v4;have h:St W0 _ K (.raw b #[v0,v1,v2,v3,v4,v5,a6,a7,a8,a9,a10,a11,a12,a13] T::L):=h.rawSet 5 v5;have h:St W0 _ K (.raw b #[v0,v1,v2,v3,v4,v5,v6,a7,a8,a9,a10,a11,a12,a13] T::L):=h.rawSet 6 v6;have h:St W0 _ K (.raw b #[v0,v1,v2,v3,v4,v5,v6,v7,a8,a9,a10,a11,a12,a13] T::L):=h.rawSet 7 v7;have h:St W0 _ K (.raw b #[v0,v1,v2,v3,v4,v5,v6,v7,v8,a9,a10,a11,a12,a13] T::L):=h.rawSet 8 v8;have h:St W0 _ K (.raw b #[v0,v1,v2,v3,v4,v5,v6,v7,v8,v9,a10,a11,a12,a13] T::L):=h.rawSet 9 v9;have h:St W0 _ K (.raw b #[v0,v1,v2,v3,v4,v5,v6,v7,v8,v9,v10,a11,a12,a13] T::L):=h.rawSet 10 v10;have h:St W0 _ K (.raw b #[v0,v1,v2,v3,v4,v5,v6,v7,v8,v9,v10,v11,a12,a13] T::L):=h.rawSet 11 v11;have h:St W0 _ K (.raw b #[v0,v1,v2,v3,v4,v5,v6,v7,v8,v9,v10,v11,v12,a13] T::L):=h.rawSet 12 v12;have h:St W0 _ K (.raw b #[v0,v1,v2,v3,v4,v5,v6,v7,v8,v9,v10,v11,v12,v13] T::L):=h.rawSet 13 v13;exact h
def unpT:Nat→Bs→Except Int (List RecS)
  |0,s=>if s=[]then .ok []else .error 10
  |n+1,s=>if s=[]then .error 10 else match zBB s with
    | .error e=> .error e
    | .ok y=>zDt y.1 (unpT n (s.drop y.2))
theorem zDv:∀(n:Nat) (rows:Bs) (pos:Nat),pos≤rows.length→unp n ⟨rows,pos,0⟩=unpT n (rows.drop pos)
  |0,rows,pos,hp=>by
    show(if (⟨rows,pos,0⟩:InS).left=0 then Except.ok []else Except.error (10:Int))=if rows.drop pos=[]then Except.ok []else Except.error (10:Int)
    have e:(⟨rows,pos,0⟩:InS).left=rows.length - pos:=rfl
    by_cases c:rows.length - pos=0
    · rw[if_pos (by rw[e];exact c),if_pos (List.drop_of_length_le (by omega))]
    · have hne:rows.drop pos≠[]:=by
        intro hh;have:=congrArg List.length hh;rw[List.length_drop,List.length_nil]at this;exact c this
      rw[if_neg (by rw[e];exact c),if_neg hne]
  |n+1,rows,pos,hp=>by
    show(if (⟨rows,pos,0⟩:InS).left=0 then Except.error (10:Int)else if (⟨rows,pos,0⟩:InS).record.2.err=0 then zDt (⟨rows,pos,0⟩:InS).record.1 (unp n (⟨rows,pos,0⟩:InS).record.2)else .error (⟨rows,pos,0⟩:InS).record.2.err)=if rows.drop pos=[]then Except.error (10:Int)else match zBB (rows.drop pos)with
      | .error e=>Except.error e
      | .ok y=>zDt y.1 (unpT n ((rows.drop pos).drop y.2))
    have e:(⟨rows,pos,0⟩:InS).left=rows.length - pos:=rfl
    by_cases c:rows.length - pos=0
    · rw[if_pos (by rw[e];exact c),if_pos (List.drop_of_length_le (by omega))]
    have hne:rows.drop pos≠[]:=by
      intro hh;have:=congrArg List.length hh;rw[List.length_drop,List.length_nil]at this;exact c this
    rw[if_neg (by rw[e];exact c),if_neg hne]
    cases hr:zBB (rows.drop pos)with
    |error e=>
      obtain⟨he,q,_,hf⟩:=zCN.err rows pos e hp hr;rw[hf];simp only;rw[if_neg he]
    |ok y=>
      obtain⟨x,m⟩:=y;obtain⟨hpm,hf⟩:=zCN.ok rows pos x m hp hr;rw[hf];simp only[if_true];rw[zDv n rows (pos+m) hpm,List.drop_drop]
theorem zE2(n:Nat):unpT (n+1) []=.error 10:=rfl
theorem zq29{p:Prop}(h:p:=by
  show(if s=[]then Except.error (10:Int)else match zBB s with
   | .error e=>Except.error e
   | .ok y=>zDt y.1 (unpT n (s.drop y.2)))=_
  rw[if_neg h0,h]):p:=h
theorem zE3{n:Nat}{s:Bs}{e:Int}(h0:s≠[])(h:zBB s=.error e):unpT (n+1) s=.error e:=by
 exact zq29
theorem zHn{n:Nat}{s:Bs}{x:RecS}{m:Nat}(h0:s≠[])(h:zBB s=.ok (x,m)):unpT (n+1) s=zDt x (unpT n (s.drop m)):=by
 exact zq29
theorem zDw(s:Bs):unpT 0 s=if s=[]then .ok []else .error 10:=rfl
theorem zK7(n:Int):chk n=9↔¬n % 8=0:=by
 unfold chk zAf
 constructor
 · intro h hh;rw[if_neg (by simp;omega)]at h
   split at h<;>cases h
 · intro h;rw[if_pos (by simp;omega)]
theorem zH5(n:Int)(h8:n % 8=0):chk n=if n<0∨63<n∨(32≤n∧n % 32<16)then 8 else 0:=by
 unfold chk;rw[if_neg (by unfold zAf;simp;omega)]
 by_cases c:n<0∨63<n
 · rw[if_pos (by simp only[Bool.or_eq_true,decide_eq_true_eq];exact .inl c),if_pos (by omega)]
 · have h1:(decide (n<0)||decide (63<n))=false:=by simp;omega
   rw[h1,Bool.false_or]
   by_cases d:32≤n∧n % 32<16
   · rw[if_pos (by unfold zAf;simp;omega),if_pos (by omega)]
   · rw[if_neg (by unfold zAf;simp;omega),if_neg (by omega)]
theorem zB1(n:Int):∃c0 c1:UInt8,zAo n 2=[c0,c1]∧(c1.toNat:Int)=n % 256:=by
 have hl:=zAs n 2;have h1:=zGn n 2 1 (by decide)
 rcases hb:zAo n 2 with _|⟨c0,_|⟨c1,t⟩⟩
 · rw[hb]at hl;cases hl
 · rw[hb]at hl;cases hl
 · rw[hb]at hl;obtain rfl:t=[]:=by simp at hl;exact hl
   refine⟨c0,c1,rfl,?_⟩;simp only[hb]at h1
   simpa using h1.symm
def Er (e:Int):Prop:=0≤e∧e≤30
theorem er0:Er 0:=⟨by decide,by decide⟩
theorem zKd(top:Nat):∀(f r n:Nat) (l:Bs) (e:Int),zAL top f r n l=.error e→Er e
  |f,r,n,[],e,h=>by rw[zCG]at h;injection h with h;subst h;exact⟨by decide,by decide⟩
  |0,r,n,c::t,e,h=>by rw[zFl]at h;injection h with h;subst h;exact⟨by decide,by decide⟩
  |f+1,r,n,c::t,e,h=>by
    simp only[zAL]at h
    split at h
    · injection h with h;subst h;exact⟨by decide,by decide⟩
    · split at h
      · exact zKd top f _ _ t e h
      · cases h
theorem er_I{l:Bs}{e:Int}(h:zA7 l=.error e):Er e:=by
 unfold zA7 at h
 cases hx:zAL 15 5 0 0 l with
 |ok x=>rw[hx]at h;cases h
 |error e2=>rw[hx]at h;injection h with h;subst h;exact zKd _ _ _ _ _ _ hx
theorem er_L{l:Bs}{e:Int}(h:zBS l=.error e):Er e:=by
 unfold zBS at h
 cases hx:zAL 1 10 0 0 l with
 |ok x=>rw[hx]at h;cases h
 |error e2=>rw[hx]at h;injection h with h;subst h;exact zKd _ _ _ _ _ _ hx
theorem er_got{s:Bs}{k:Nat}{n e:Int}(h:gotS s k n=.error e):Er e:=by
 unfold gotS at h
 repeat' split at h
 all_goals first|(cases h;done)|(injection h with h;subst h;exact⟨by decide,by decide⟩)
theorem zJc{s:Bs}{e:Int}(h:zAe s=.error e):Er e:=by
 unfold zAe at h
 cases hx:zA7 s with
 |ok x=>rw[hx]at h;exact er_got h
 |error e2=>rw[hx]at h;injection h with h;subst h;exact er_I hx
theorem er_hdr{s:Bs}{e:Int}(h:zBC s=.error e):Er e:=by
 unfold zBC at h
 cases hx:zAe s with
 |error e2=>rw[hx]at h;injection h with h;subst h;exact zJc hx
 |ok x=>
  rw[hx]at h;simp only at h
  split at h
  · injection h with h;subst h;exact⟨by decide,by decide⟩
  · cases hy:zAe (s.drop x.2)with
    |error e2=>rw[hy]at h;injection h with h;subst h;exact zJc hy
    |ok y=>rw[hy]at h;cases h
theorem zNw:∀(n:Nat) (s:Bs) (e:Int),zAW n s=.error e→Er e
  |0,s,e,h=>by cases h
  |n+1,s,e,h=>by
    unfold zAW at h
    cases hx:zBC s with
    |error e2=>rw[hx]at h;injection h with h;subst h;exact er_hdr hx
    |ok x=>
      rw[hx]at h;simp only at h
      cases hy:zAW n (s.drop x.2)with
      |error e2=>rw[hy]at h;injection h with h;subst h;exact zNw n _ _ hy
      |ok y=>rw[hy]at h;cases h
theorem zQa{s:Bs}{e:Int}(h:zAI s=.error e):Er e:=by
 unfold zAI at h
 cases hx:zA7 s with
 |error e2=>rw[hx]at h;injection h with h;subst h;exact er_I hx
 |ok x=>
  rw[hx]at h;simp only at h
  split at h
  · injection h with h;subst h;exact⟨by decide,by decide⟩
  · split at h
    · injection h with h;subst h;exact⟨by decide,by decide⟩
    · cases hy:zAW x.1.toNat (s.drop x.2)with
      |error e2=>rw[hy]at h;injection h with h;subst h;exact zNw _ _ _ hy
      |ok y=>rw[hy]at h;cases h
theorem zON{s:Bs}{e:Int}(h:zAD s=.error e):Er e:=by
 unfold zAD at h
 cases h1:zAK 1 s with
 |error e2=>
  rw[h1]at h;injection h with h;subst h;unfold zAK at h1
  split at h1
  · injection h1 with h1;subst h1;exact⟨by decide,by decide⟩
  · cases h1
 |ok a=>
  rw[h1]at h;simp only at h
  split at h
  · cases h2:zBS (s.drop 1)with
    |error e2=>rw[h2]at h;injection h with h;subst h;exact er_L h2
    |ok t=>
     rw[h2]at h;simp only at h
     cases h3:zA7 (s.drop (1+t.2))with
     |error e2=>rw[h3]at h;injection h with h;subst h;exact er_I h3
     |ok o=>
      rw[h3]at h;simp only at h
      split at h
      · injection h with h;subst h;exact⟨by decide,by decide⟩
      · cases h4:zAe (s.drop (1+t.2+o.2))with
        |error e2=>rw[h4]at h;injection h with h;subst h;exact zJc h4
        |ok k=>
         rw[h4]at h;simp only at h
         cases h5:zAe (s.drop (1+t.2+o.2+k.2))with
         |error e2=>rw[h5]at h;injection h with h;subst h;exact zJc h5
         |ok v=>
          rw[h5]at h;simp only at h
          cases h6:zAI (s.drop (1+t.2+o.2+k.2+v.2))with
          |error e2=>rw[h6]at h;injection h with h;subst h;exact zQa h6
          |ok y=>
           rw[h6]at h;simp only at h
           split at h
           · cases h
           · injection h with h;subst h;exact⟨by decide,by decide⟩
  · injection h with h;subst h;exact⟨by decide,by decide⟩
theorem er_rec{s:Bs}{e:Int}(h:zBB s=.error e):Er e:=by
 unfold zBB at h
 cases hx:zAe s with
 |error e2=>rw[hx]at h;injection h with h;subst h;exact zJc hx
 |ok b=>
  rw[hx]at h;simp only at h
  split at h
  · injection h with h;subst h;exact⟨by decide,by decide⟩
  · cases hy:zAD b.1.data with
    |error e2=>rw[hy]at h;injection h with h;subst h;exact zON hy
    |ok y=>rw[hy]at h;cases h
theorem zPc:∀(n:Nat) (s:Bs) (e:Int),unpT n s=.error e→Er e
  |0,s,e,h=>by
    unfold unpT at h
    split at h
    · cases h
    · injection h with h;subst h;exact⟨by decide,by decide⟩
  |n+1,s,e,h=>by
    unfold unpT at h
    split at h
    · injection h with h;subst h;exact⟨by decide,by decide⟩
    · cases hx:zBB s with
      |error e2=>rw[hx]at h;injection h with h;subst h;exact er_rec hx
      |ok x=>
        rw[hx]at h;simp only at h;unfold zDt at h
        cases hy:unpT n (s.drop x.2)with
        |error e2=>rw[hy]at h;injection h with h;subst h;exact zPc n _ _ hy
        |ok y=>rw[hy]at h;cases h
theorem zNv:∀l:List RecS,Er (zBU l)
  |[]=>⟨by decide,by decide⟩
  |r::t=>by
    unfold zBU
    split
    · exact zNv t
    · unfold zA3
      repeat' split
      all_goals exact⟨by decide,by decide⟩
theorem zPb(k:Nat)(ok:Int→Bool)(e:Int)(s:Bs)(he:Er e):Er (zBT k ok e s).2:=by
 unfold zBT
 repeat' split
 all_goals first|exact he|exact er0|exact⟨by decide,by decide⟩
theorem er_ctl(r:RecS):Er (zBN r).2.2:=by
 unfold zBN zBD;have h1:=zPb 2 way 12 r.key.data ⟨by decide,by decide⟩;have h2:=zPb 4 zCa 11 r.val.data ⟨by decide,by decide⟩
 repeat' split
 all_goals first|exact h1|exact h2|exact er0|exact⟨by decide,by decide⟩
theorem zNu(first last:Int):∀(l:List RecS) (a g e:Int),zCK first last l a g=.error e→Er e
  |[],a,g,e,h=>by cases h
  |r::t,a,g,e,h=>by
    unfold zCK at h
    split at h
    · injection h with h;subst h;exact⟨by decide,by decide⟩
    · split at h
      · injection h with h;subst h;exact⟨by decide,by decide⟩
      · exact zNu first last t _ _ e h
theorem er_bat(b:BatS):Er (zAC b):=by
 have h1:=zNv b.recs
 have h2:Er b.ends:=by
  unfold BatS.ends
  split
  · exact⟨by decide,by decide⟩
  · exact er_ctl _
 have h3:Er b.rows:=by
  unfold BatS.rows zLo
  split
  · rename_i e he;exact zNu _ _ _ _ _ _ he
  · split<;>exact⟨by decide,by decide⟩
 unfold zAC
 repeat' split
 all_goals first|exact h1|exact h2|exact h3|exact⟨by decide,by decide⟩
theorem er_chk(n:Int):Er (chk n):=by
 unfold chk
 repeat' split
 all_goals exact⟨by decide,by decide⟩
theorem zOO{R:Bs}{e:Int}(h:zAq R=.error e):Er e:=by
 unfold zAq at h
 split at h
 · cases h
 · cases hp:zAH R with
   |error e2=>
    rw[hp]at h;injection h with h;subst h;unfold zAH at hp
    repeat' split at hp
    all_goals first|(cases hp;done)|(injection hp with hp;subst hp;exact⟨by decide,by decide⟩)
   |ok x=>
    rw[hp]at h;simp only at h
    split at h
    · cases h
    · cases ha:asmB x (R.take 61) ((R.drop 61).take (x.len - 49).toNat)with
      |ok b=>rw[ha]at h;cases h
      |error e2=>
       rw[ha]at h;injection h with h;subst h;unfold asmB at ha
       split at ha
       · injection ha with ha;subst ha;exact⟨by decide,by decide⟩
       · split at ha
         · injection ha with ha;subst ha;exact er_chk _
         · rw[zDv _ _ 0 (Nat.zero_le _)]at ha
           cases hu:unpT x.count.toNat (((R.drop 61).take (x.len - 49).toNat).drop 0)with
           |error e3=>rw[hu]at ha;injection ha with ha;subst ha;exact zPc _ _ _ hu
           |ok rs=>
            rw[hu]at ha;simp only at ha
            split at ha
            · cases ha
            · injection ha with ha;subst ha;exact er_bat _
theorem zP9:∀(f:Nat) (R:Bs),R.length≤f→Er (zAr R).2.2:=by
 intro f
 induction f with
 |zero=>
  intro R h;obtain rfl:R=[]:=List.eq_nil_of_length_eq_zero (by omega);rw[zAB zHb];exact er0
 |succ f ih=>
  intro R h
  cases hf:zAq R with
  |error e=>rw[zBI hf];exact zOO hf
  |ok o=>
   cases o with
   |none=>rw[zAB hf];exact er0
   |some y=>
    obtain⟨c,n⟩:=y;have h3:=(zCw hf).1;rw[zBh hf];exact ih (R.drop n) (by rw[List.length_drop];omega)
structure ToldOk (A T:Bs) (bs:List BatS) (pv:Nat) (rest:Bs) (pe ps:Int):Prop where
  fin:finS A=(bs,pv,rest,pe)
  stop:zBy rest pe=ps
  len:A.length≤90000
  ok:∀b∈bs,EncOk b
  blen:bs.length≤900
  rv:Rn (pv:Nat)
  re:Rn pe
  txt:zMg bs (pv:Nat) ps pe=T
theorem zD9(A:Bs)(hA:A.length≤1500):∃T bs pv rest pe ps,ToldOk A T bs pv rest pe ps:=by
 obtain⟨bs,V,rest,e,h1,h2,_,_,_,_,h3⟩:=zKA A hA;have he:e=(zAr A).2.2:=by have h9:=congrArg (fun z=>z.2.2.2) h1;exact h9.symm
 have hb:bs=(zAr A).1:=by have h9:=congrArg (fun z=>z.1) h1;exact h9.symm
 have hr:=zP9 A.length A (Nat.le_refl _);rw[←he]at hr;obtain⟨k,hk,_,_,_,_,_,hl⟩:=zB4 A.length A (Nat.le_refl _);rw[←hb]at hl;exact⟨_,bs,V,rest,e,_,h1,rfl,by omega,fun b hb=>EncOk.mid (h3 b hb),by omega,by unfold Rn;omega,by unfold Rn;unfold Er at hr;omega,rfl⟩
theorem zHl{ops:Array Oper}{rest:List Oper}{o:Oper}{a:Act}{Q:Exit→Act→World→Prop}(hgd:o.guard=none)(sl x:Operand)
    (ho:o.op=.call {callee:=.builtin .append,args:= #[sl,x],argTypes:= #[57,9]})
    (v:Value)(n:Nat)(r s:Bs)(hn:n=r.length)(hs:a.eval sl=v)(hst:St W0 w K (.row v 5 1 n (zAu r)::L))(hx:a.eval x=.string (bb s))(hbytes:n+s.length≤140737488355328)
    (h:∀v' w',St W0 w' K (.row v' 5 1 (r++s).length (zAu (r++s))::L)→wpList Tryz.prog ops Q rest (a.put o.dst v') w'):wpList Tryz.prog ops Q (o::rest) a w:=by
  obtain⟨i0,hi,hz0,hz1,hz2⟩:=info_parts zHP;subst hn;refine zDh hgd sl x 57 9 ho 5 i0 Tryz.underlying57 Tryz.underlying9 hi hz0 hz1 hz2 v _ _ hs hst.rowGet (bb s) hx hbytes ?_;intro v' w1 h1 h2 h3;rw[zFp,←zCd]at h1;have e:r.length+(bb s).size=(r++s).length:=by rw[List.length_append];rfl
  rw[e]at h1;exact h v' w1 (hst.rowGrown h1 h2 h3)
theorem St.rowCut{g cap n m:Nat}{T:TypeId}{xs:List Value}(h:St W0 w K (.row (.slice (some ⟨g,0,none⟩) n cap) T 1 n xs::L))(hm:m≤n):St W0 w K (.row (.slice (some ⟨g,0,none⟩) m cap) T 1 m (xs.take m)::L):=by
 refine h.map fun S hS=> ?_
 obtain⟨S1,S2,⟨⟨a1,a2⟩,h2⟩,r⟩:=hS;refine⟨S1,S2,⟨⟨?_,?_⟩,h2⟩,r⟩
 · rw[List.length_take];omega
 · rcases a2 with ⟨a3,_⟩|⟨g2,cap2,cur,e1,e2,e3,e4,e5,e6,e7⟩
   · cases a3
   · simp at e1;obtain⟨rfl,rfl⟩:=e1;refine .inr ⟨g,cap,cur,rfl,e2,e3,by omega,e5,e6,?_⟩;rw[←e7,List.take_take]
     congr 1
     omega
theorem St.rowTextAt{g cap n:Nat}{s:Bs}(h:St W0 w K (.row (.slice (some ⟨g,0,none⟩) n cap) 5 1 n (zAu s)::L))(pos k c:Nat)(hn:n=s.length)(hk:pos+k≤s.length):
   (convert 57 9 (.slice (some ⟨g,pos,none⟩) k c)).run Tryz.prog w=.ok (.string (bb ((s.drop pos).take k))) w:=by
 have hl:((s.drop pos).take k).length=k:=by rw[List.length_take,List.length_drop];omega
 have:=run_convert_bytes_back (P:=Tryz.prog) w 57 9 5 ⟨g,pos,none⟩ c ((s.drop pos).take k) Tryz.underlying57 Tryz.underlying5 Tryz.underlying9 (fun j hj=> ?_)
 · rw[hl]at this;exact this
 · rw[hl]at hj;have ha:(⟨g,pos,none⟩:Addr).add j=⟨g,pos+j,none⟩:=by unfold Addr.add;split<;>simp_all
   rw[ha,h.rowCell (pos+j) (by omega)];have hb:pos+j<s.length:=by omega
   unfold zAu;rw[List.getElem?_map,List.getElem?_eq_getElem hb]
   simp
theorem zND(w:World):(convert 57 9 (.slice none 0 0)).run Tryz.prog w=.ok (.string ⟨#[]⟩) w:=zF8 (s:=[]) (World.ownsRow_nil _ _ _ _)
theorem zLV(w:World)(a:Addr)(c:Nat):(convert 57 9 (.slice (some a) 0 c)).run Tryz.prog w=.ok (.string ⟨#[]⟩) w:=
 run_convert_bytes_back (P:=Tryz.prog) w 57 9 5 a c [] Tryz.underlying57 Tryz.underlying5 Tryz.underlying9 (fun j hj=>by simp at hj)
theorem zAY{P:Program}{fn:Func}{p t u:Tmp}{ty:TypeId}(h:fn.results= #[.cell p ty,.tmp t,.tmp u])(tmps:Array Value)(w:World)(b:Nat)(cs:List Value)(d:TypeDesc)
    (hp:tmps.getD p undef=.pointer (some ⟨b,0,none⟩))(hc:w.rangeAt b 0 cs)(hu:P.underlying ty=some d)(hd:d.isRow=true)(hi:(P.info? ty).map (·.size)=some cs.length):
    (results fn tmps).run P w=.ok (.tuple #[.agg cs.toArray,tmps.getD t undef,tmps.getD u undef]) w:=by
  have hp':tmps[p]?.getD undef=.pointer (some ⟨b,0,none⟩):=by simpa using hp
  simp[results,h,hp',asAddr,run_loadVar_mid w b 0 ty cs d hc hu hd hi]
theorem zO8(p:Nat)(i:InS)(e:Int)(hx:i.err=e)(h:St W0 w K (.inp p i::L)):
  Calls Tryz.prog 168 #[zAF p] w fun en w'=>en=.returned (.int .i64 e)∧St W0 w' K (.inp p i::L):=by
 subst hx;exact zGt p i h
set_option maxHeartbeats 2000000
variable {W0 w:World}{K:Know}{L:List Res}
theorem zQn(said rows:Bs)(base ln leader sm at_ last first maxt prod epoch sq:Int)(cnt:Nat)(x:Nat)(hx:(zAj 0#32 (said.drop 21++rows)).toNat=x)(hs1:21≤said.length)(hs2:said.length≤140737488355328)(hs3:rows.length≤140737488355328)(h0:(x:Int)≠sm)(h:St W0 w K L):
  Calls Tryz.prog 189 #[.agg #[.int .i64 base,.int .i64 ln,.int .i64 leader,.int .i64 sm,.int .i64 at_,.int .i64 last,.int .i64 first,.int .i64 maxt,.int .i64 prod,.int .i64 epoch,.int .i64 sq,.int .i64 cnt],.string (bb said),.string (bb rows)] w fun en w'=>en=.returned (.tuple #[.agg #[.int .i64 0,.int .i64 0,.bool false,.bool false,.bool false,.int .i64 0,.int .i64 0,.int .i64 0,.int .i64 0,.int .i64 0,.int .i64 0,.slice none 0 0],.int .i64 5])∧St W0 w' K L:=by
 have gz:((x:Int)==sm)=false:=by rw[beq_eq_false_iff_ne];exact h0
 have gz2:((x:Int) !=sm)=true:=by simp[bne,gz]
 clear h0;have g1:=h.allocRaw #[.int .i64 base,.int .i64 ln,.int .i64 leader,.int .i64 sm,.int .i64 at_,.int .i64 last,.int .i64 first,.int .i64 maxt,.int .i64 prod,.int .i64 epoch,.int .i64 sq,.int .i64 cnt] 130;have g2:=g1.allocRaw #[.int .i64 0,.int .i64 0,.bool false,.bool false,.bool false,.int .i64 0,.int .i64 0,.int .i64 0,.int .i64 0,.int .i64 0,.int .i64 0,.slice none 0 0] 30;obtain⟨pb,hpb⟩:∃b,w.heap.size=b:=⟨_,rfl⟩;obtain⟨rb,hrb⟩:∃b,pb+1=b:=⟨_,rfl⟩;simp only[World.size_alloc,hpb,hrb]at g2;have H:=hQd g2;have HX:=hQd hx;have HS1:=hQd hs1;have HS2:=hQd hs2;have HS3:=hQd hs3;clear h g1 g2 hx hs1 hs2 hs3;go_enter Tryz.func189,Tryz.ntmps189;go_upto_region 1 with (fail);have hs:=H.out.drew;refine wp_region_held_drew (S:=fun w'=>w'.cell? ⟨pb,0,none⟩=some (.int .i64 base)∧w'.cell? ⟨pb,1,none⟩=some (.int .i64 ln)∧w'.cell? ⟨pb,2,none⟩=some (.int .i64 leader)∧w'.cell? ⟨pb,3,none⟩=some (.int .i64 sm)∧w'.cell? ⟨pb,4,none⟩=some (.int .i64 at_)∧w'.cell? ⟨pb,5,none⟩=some (.int .i64 last)∧w'.cell? ⟨pb,6,none⟩=some (.int .i64 first)∧w'.cell? ⟨pb,7,none⟩=some (.int .i64 maxt)∧w'.cell? ⟨pb,8,none⟩=some (.int .i64 prod)∧w'.cell? ⟨pb,9,none⟩=some (.int .i64 epoch)∧w'.cell? ⟨pb,10,none⟩=some (.int .i64 sq)∧w'.cell? ⟨pb,11,none⟩=some (.int .i64 cnt)) (by kernel_rfl) (let ⟨x0,x1,x2,x3,x4,x5,x6,x7,x8,x9,x10,x11,_⟩:=zAd (b:=pb) (hs.p1);⟨x0,x1,x2,x3,x4,x5,x6,x7,x8,x9,x10,x11⟩) (fun hHeld=> ?_);refine tQ 0 ⟨some 12,.move (.tmp 1),9,_,_,none⟩ ?_;simp only[Act.put,sA,sB,sC];refine tQ 1 ⟨some 13,.move (.tmp 2),9,_,_,none⟩ ?_;simp only[Act.put,sA,sB,sC];refine tQ 3 ⟨some 15,.fieldAddr 130 (.tmp 3) 3,0,_,_,none⟩ ?_;simp only[Act.put,sA,sB,sC];refine tQ 4 ⟨some 16,.load 3 (.tmp 15),3,_,_,none⟩ ?_;simp only[Act.put,sA,sB,sC];refine wpAnyH_ready (rs:=[2]) (by kernel_rfl) (by simp) (AllReadyH.cons (o:=⟨some 14,.call {callee:=.value (.func 88),args:= #[.tmp 12,.tmp 13],argTypes:= #[9,9]},3,_,_,none⟩) rfl (fun KK hK=> ?_) AllReadyH.nil);go_simp;go_at_call 88;with_reducible refine(zEC said rows x HX.out HS1.out HS2.out HS3.out hs).mono ?_;rintro e wq ⟨rfl,hs⟩;refine hK.out _ _ (let ⟨x0,x1,x2,x3,x4,x5,x6,x7,x8,x9,x10,x11,_⟩:=zAd (b:=pb) (hs.p1);⟨x0,x1,x2,x3,x4,x5,x6,x7,x8,x9,x10,x11⟩) (fun hHeld=> ?_);clear hK KK
 try simp only[Act.put,sA,sB,sC]
 refine tQ 5 ⟨some 17,.binOp .neq 3 (.tmp 14) (.tmp 16) 3,4,_,_,none⟩ ?_;simp only[Act.put,sA,sB,sC];refine wpAnyH_done (by kernel_rfl) ?_ _;clear hHeld;have H:=hQd hs;clear hs;obtain⟨p0,p1,p2,p3,p4,p5,p6,p7,p8,p9,p10,p11,u0,u1,u2,u3,u4,u5,u6,u7,u8,u9,u10,u11⟩:=zAd (b:=rb) (H.out);obtain⟨x0,x1,x2,x3,x4,x5,x6,x7,x8,x9,x10,x11,y0,y1,y2,y3,y4,y5,y6,y7,y8,y9,y10,y11⟩:=zAd (b:=pb) ((H.out).p1);go_wp2_with fail;have hz:St W0 _ _ (.raw rb #[.int .i64 0,.int .i64 0,.bool false,.bool false,.bool false,.int .i64 0,.int .i64 0,.int .i64 0,.int .i64 0,.int .i64 0,.int .i64 0,.slice none 0 0] 30::_):=St.sets12 _ _ _ _ _ _ _ _ _ _ _ _ (H.out);refine bodyPost_ret (zBd rfl _ _ rb [.int .i64 0,.int .i64 0,.bool false,.bool false,.bool false,.int .i64 0,.int .i64 0,.int .i64 0,.int .i64 0,.int .i64 0,.int .i64 0,.slice none 0 0] _ rfl (zAn hz) Tryz.underlying30 rfl (by kernel_rfl)) rfl ?_;exact⟨rfl,hz.drop.drop⟩
theorem zO2(said rows:Bs)(base ln leader sm at_ last first maxt prod epoch sq:Int)(cnt:Nat)(x:Nat)(hx:(zAj 0#32 (said.drop 21++rows)).toNat=x)(hs1:21≤said.length)(hs2:said.length≤140737488355328)(hs3:rows.length≤140737488355328)(h0:(x:Int)=sm)(e:Int)(hat:chk at_=e)(har:R64 at_)(he:e≠0)(h:St W0 w K L):
  Calls Tryz.prog 189 #[.agg #[.int .i64 base,.int .i64 ln,.int .i64 leader,.int .i64 sm,.int .i64 at_,.int .i64 last,.int .i64 first,.int .i64 maxt,.int .i64 prod,.int .i64 epoch,.int .i64 sq,.int .i64 cnt],.string (bb said),.string (bb rows)] w fun en w'=>en=.returned (.tuple #[.agg #[.int .i64 0,.int .i64 0,.bool false,.bool false,.bool false,.int .i64 0,.int .i64 0,.int .i64 0,.int .i64 0,.int .i64 0,.int .i64 0,.slice none 0 0],.int .i64 e])∧St W0 w' K L:=by
 have gs:((x:Int)==sm)=true:=by rw[h0];exact beq_self_eq_true _
 have gs2:((x:Int) !=sm)=false:=by simp[bne,gs]
 clear h0;have gz:(e==0)=false:=by rw[beq_eq_false_iff_ne];exact he
 have HAT:=hQd hat;have HAR:=hQd har;clear he hat har;have g1:=h.allocRaw #[.int .i64 base,.int .i64 ln,.int .i64 leader,.int .i64 sm,.int .i64 at_,.int .i64 last,.int .i64 first,.int .i64 maxt,.int .i64 prod,.int .i64 epoch,.int .i64 sq,.int .i64 cnt] 130;have g2:=g1.allocRaw #[.int .i64 0,.int .i64 0,.bool false,.bool false,.bool false,.int .i64 0,.int .i64 0,.int .i64 0,.int .i64 0,.int .i64 0,.int .i64 0,.slice none 0 0] 30;obtain⟨pb,hpb⟩:∃b,w.heap.size=b:=⟨_,rfl⟩;obtain⟨rb,hrb⟩:∃b,pb+1=b:=⟨_,rfl⟩;simp only[World.size_alloc,hpb,hrb]at g2;have H:=hQd g2;have HX:=hQd hx;have HS1:=hQd hs1;have HS2:=hQd hs2;have HS3:=hQd hs3;clear h g1 g2 hx hs1 hs2 hs3;go_enter Tryz.func189,Tryz.ntmps189;go_upto_region 1 with (fail);have hs:=H.out.drew;refine wp_region_held_drew (S:=fun w'=>w'.cell? ⟨pb,0,none⟩=some (.int .i64 base)∧w'.cell? ⟨pb,1,none⟩=some (.int .i64 ln)∧w'.cell? ⟨pb,2,none⟩=some (.int .i64 leader)∧w'.cell? ⟨pb,3,none⟩=some (.int .i64 sm)∧w'.cell? ⟨pb,4,none⟩=some (.int .i64 at_)∧w'.cell? ⟨pb,5,none⟩=some (.int .i64 last)∧w'.cell? ⟨pb,6,none⟩=some (.int .i64 first)∧w'.cell? ⟨pb,7,none⟩=some (.int .i64 maxt)∧w'.cell? ⟨pb,8,none⟩=some (.int .i64 prod)∧w'.cell? ⟨pb,9,none⟩=some (.int .i64 epoch)∧w'.cell? ⟨pb,10,none⟩=some (.int .i64 sq)∧w'.cell? ⟨pb,11,none⟩=some (.int .i64 cnt)) (by kernel_rfl) (let ⟨x0,x1,x2,x3,x4,x5,x6,x7,x8,x9,x10,x11,_⟩:=zAd (b:=pb) (hs.p1);⟨x0,x1,x2,x3,x4,x5,x6,x7,x8,x9,x10,x11⟩) (fun hHeld=> ?_);refine tQ 0 ⟨some 12,.move (.tmp 1),9,_,_,none⟩ ?_;simp only[Act.put,sA,sB,sC];refine tQ 1 ⟨some 13,.move (.tmp 2),9,_,_,none⟩ ?_;simp only[Act.put,sA,sB,sC];refine tQ 3 ⟨some 15,.fieldAddr 130 (.tmp 3) 3,0,_,_,none⟩ ?_;simp only[Act.put,sA,sB,sC];refine tQ 4 ⟨some 16,.load 3 (.tmp 15),3,_,_,none⟩ ?_;simp only[Act.put,sA,sB,sC];refine wpAnyH_ready (rs:=[2]) (by kernel_rfl) (by simp) (AllReadyH.cons (o:=⟨some 14,.call {callee:=.value (.func 88),args:= #[.tmp 12,.tmp 13],argTypes:= #[9,9]},3,_,_,none⟩) rfl (fun KK hK=> ?_) AllReadyH.nil);go_simp;go_at_call 88;with_reducible refine(zEC said rows x HX.out HS1.out HS2.out HS3.out hs).mono ?_;rintro e wq ⟨rfl,hs⟩;refine hK.out _ _ (let ⟨x0,x1,x2,x3,x4,x5,x6,x7,x8,x9,x10,x11,_⟩:=zAd (b:=pb) (hs.p1);⟨x0,x1,x2,x3,x4,x5,x6,x7,x8,x9,x10,x11⟩) (fun hHeld=> ?_);clear hK KK
 try simp only[Act.put,sA,sB,sC]
 refine tQ 5 ⟨some 17,.binOp .neq 3 (.tmp 14) (.tmp 16) 3,4,_,_,none⟩ ?_;simp only[Act.put,sA,sB,sC];refine wpAnyH_done (by kernel_rfl) ?_ _;clear hHeld;have H:=hQd hs;clear hs;obtain⟨p0,p1,p2,p3,p4,p5,p6,p7,p8,p9,p10,p11,u0,u1,u2,u3,u4,u5,u6,u7,u8,u9,u10,u11⟩:=zAd (b:=rb) (H.out);obtain⟨x0,x1,x2,x3,x4,x5,x6,x7,x8,x9,x10,x11,y0,y1,y2,y3,y4,y5,y6,y7,y8,y9,y10,y11⟩:=zAd (b:=pb) ((H.out).p1);go_wp2_with (go_at_call 199;(with_reducible refine(zCC at_ e HAT.out HAR.out H.out).mono ?_);rintro e_ wn ⟨rfl,h⟩;replace H:=hQd h;clear h;obtain⟨p0,p1,p2,p3,p4,p5,p6,p7,p8,p9,p10,p11,u0,u1,u2,u3,u4,u5,u6,u7,u8,u9,u10,u11⟩:=zAd (b:=rb) (H.out);obtain⟨x0,x1,x2,x3,x4,x5,x6,x7,x8,x9,x10,x11,y0,y1,y2,y3,y4,y5,y6,y7,y8,y9,y10,y11⟩:=zAd (b:=pb) ((H.out).p1));have hz:St W0 _ _ (.raw rb #[.int .i64 0,.int .i64 0,.bool false,.bool false,.bool false,.int .i64 0,.int .i64 0,.int .i64 0,.int .i64 0,.int .i64 0,.int .i64 0,.slice none 0 0] 30::_):=St.sets12 _ _ _ _ _ _ _ _ _ _ _ _ (H.out);refine bodyPost_ret (zBd rfl _ _ rb [.int .i64 0,.int .i64 0,.bool false,.bool false,.bool false,.int .i64 0,.int .i64 0,.int .i64 0,.int .i64 0,.int .i64 0,.int .i64 0,.slice none 0 0] _ rfl (zAn hz) Tryz.underlying30 rfl (by kernel_rfl)) rfl ?_;exact⟨rfl,hz.drop.drop⟩
theorem zO0(said rows:Bs)(base ln leader sm at_ last first maxt prod epoch sq:Int)(cnt:Nat)(x:Nat)(hx:(zAj 0#32 (said.drop 21++rows)).toNat=x)(hs1:21≤said.length)(hs2:said.length≤140737488355328)(hs3:rows.length≤140737488355328)(h0:(x:Int)=sm)(hat:chk at_=0)(har:R64 at_)(hcn:cnt≤2147483647)(e:Int)(hu:unp cnt ⟨rows,0,0⟩=.error e)(he:e≠0)(h:St W0 w K L):
  Calls Tryz.prog 189 #[.agg #[.int .i64 base,.int .i64 ln,.int .i64 leader,.int .i64 sm,.int .i64 at_,.int .i64 last,.int .i64 first,.int .i64 maxt,.int .i64 prod,.int .i64 epoch,.int .i64 sq,.int .i64 cnt],.string (bb said),.string (bb rows)] w fun en w'=>en=.returned (.tuple #[.agg #[.int .i64 0,.int .i64 0,.bool false,.bool false,.bool false,.int .i64 0,.int .i64 0,.int .i64 0,.int .i64 0,.int .i64 0,.int .i64 0,.slice none 0 0],.int .i64 e])∧St W0 w' K L:=by
 have gs:((x:Int)==sm)=true:=by rw[h0];exact beq_self_eq_true _
 have gs2:((x:Int) !=sm)=false:=by simp[bne,gs]
 clear h0;have gz:(e==0)=false:=by rw[beq_eq_false_iff_ne];exact he
 have HAT:=hQd hat;have HAR:=hQd har;have HCN:=hQd hcn;have HU:=hQd hu;have HEZ:=hQd he;clear he hat har hcn hu;have g1:=h.allocRaw #[.int .i64 base,.int .i64 ln,.int .i64 leader,.int .i64 sm,.int .i64 at_,.int .i64 last,.int .i64 first,.int .i64 maxt,.int .i64 prod,.int .i64 epoch,.int .i64 sq,.int .i64 cnt] 130;have g2:=g1.allocRaw #[.int .i64 0,.int .i64 0,.bool false,.bool false,.bool false,.int .i64 0,.int .i64 0,.int .i64 0,.int .i64 0,.int .i64 0,.int .i64 0,.slice none 0 0] 30;obtain⟨pb,hpb⟩:∃b,w.heap.size=b:=⟨_,rfl⟩;obtain⟨rb,hrb⟩:∃b,pb+1=b:=⟨_,rfl⟩;simp only[World.size_alloc,hpb,hrb]at g2;have H:=hQd g2;have HX:=hQd hx;have HS1:=hQd hs1;have HS2:=hQd hs2;have HS3:=hQd hs3;clear h g1 g2 hx hs1 hs2 hs3;go_enter Tryz.func189,Tryz.ntmps189;go_upto_region 1 with (fail);have hs:=H.out.drew;refine wp_region_held_drew (S:=fun w'=>w'.cell? ⟨pb,0,none⟩=some (.int .i64 base)∧w'.cell? ⟨pb,1,none⟩=some (.int .i64 ln)∧w'.cell? ⟨pb,2,none⟩=some (.int .i64 leader)∧w'.cell? ⟨pb,3,none⟩=some (.int .i64 sm)∧w'.cell? ⟨pb,4,none⟩=some (.int .i64 at_)∧w'.cell? ⟨pb,5,none⟩=some (.int .i64 last)∧w'.cell? ⟨pb,6,none⟩=some (.int .i64 first)∧w'.cell? ⟨pb,7,none⟩=some (.int .i64 maxt)∧w'.cell? ⟨pb,8,none⟩=some (.int .i64 prod)∧w'.cell? ⟨pb,9,none⟩=some (.int .i64 epoch)∧w'.cell? ⟨pb,10,none⟩=some (.int .i64 sq)∧w'.cell? ⟨pb,11,none⟩=some (.int .i64 cnt)) (by kernel_rfl) (let ⟨x0,x1,x2,x3,x4,x5,x6,x7,x8,x9,x10,x11,_⟩:=zAd (b:=pb) (hs.p1);⟨x0,x1,x2,x3,x4,x5,x6,x7,x8,x9,x10,x11⟩) (fun hHeld=> ?_);refine tQ 0 ⟨some 12,.move (.tmp 1),9,_,_,none⟩ ?_;simp only[Act.put,sA,sB,sC];refine tQ 1 ⟨some 13,.move (.tmp 2),9,_,_,none⟩ ?_;simp only[Act.put,sA,sB,sC];refine tQ 3 ⟨some 15,.fieldAddr 130 (.tmp 3) 3,0,_,_,none⟩ ?_;simp only[Act.put,sA,sB,sC];refine tQ 4 ⟨some 16,.load 3 (.tmp 15),3,_,_,none⟩ ?_;simp only[Act.put,sA,sB,sC];refine wpAnyH_ready (rs:=[2]) (by kernel_rfl) (by simp) (AllReadyH.cons (o:=⟨some 14,.call {callee:=.value (.func 88),args:= #[.tmp 12,.tmp 13],argTypes:= #[9,9]},3,_,_,none⟩) rfl (fun KK hK=> ?_) AllReadyH.nil);go_simp;go_at_call 88;with_reducible refine(zEC said rows x HX.out HS1.out HS2.out HS3.out hs).mono ?_;rintro e wq ⟨rfl,hs⟩;refine hK.out _ _ (let ⟨x0,x1,x2,x3,x4,x5,x6,x7,x8,x9,x10,x11,_⟩:=zAd (b:=pb) (hs.p1);⟨x0,x1,x2,x3,x4,x5,x6,x7,x8,x9,x10,x11⟩) (fun hHeld=> ?_);clear hK KK
 try simp only[Act.put,sA,sB,sC]
 refine tQ 5 ⟨some 17,.binOp .neq 3 (.tmp 14) (.tmp 16) 3,4,_,_,none⟩ ?_;simp only[Act.put,sA,sB,sC];refine wpAnyH_done (by kernel_rfl) ?_ _;clear hHeld;have H:=hQd hs;clear hs;obtain⟨p0,p1,p2,p3,p4,p5,p6,p7,p8,p9,p10,p11,u0,u1,u2,u3,u4,u5,u6,u7,u8,u9,u10,u11⟩:=zAd (b:=rb) (H.out);obtain⟨x0,x1,x2,x3,x4,x5,x6,x7,x8,x9,x10,x11,y0,y1,y2,y3,y4,y5,y6,y7,y8,y9,y10,y11⟩:=zAd (b:=pb) ((H.out).p1)
 go_wp2_with (first
 |(go_at_call 199;(with_reducible refine(zCC at_ 0 HAT.out HAR.out H.out).mono ?_);rintro e_ wn ⟨rfl,h⟩;replace H:=hQd h;clear h;obtain⟨p0,p1,p2,p3,p4,p5,p6,p7,p8,p9,p10,p11,u0,u1,u2,u3,u4,u5,u6,u7,u8,u9,u10,u11⟩:=zAd (b:=rb) (H.out);obtain⟨x0,x1,x2,x3,x4,x5,x6,x7,x8,x9,x10,x11,y0,y1,y2,y3,y4,y5,y6,y7,y8,y9,y10,y11⟩:=zAd (b:=pb) ((H.out).p1))
 |(go_at_call 200;(with_reducible refine(zGJ rows cnt HCN.out HS3.out e HEZ.out HU.out H.out).mono ?_);rintro e_ wn ⟨rfl,h⟩;replace H:=hQd h;clear h;obtain⟨p0,p1,p2,p3,p4,p5,p6,p7,p8,p9,p10,p11,u0,u1,u2,u3,u4,u5,u6,u7,u8,u9,u10,u11⟩:=zAd (b:=rb) (H.out);obtain⟨x0,x1,x2,x3,x4,x5,x6,x7,x8,x9,x10,x11,y0,y1,y2,y3,y4,y5,y6,y7,y8,y9,y10,y11⟩:=zAd (b:=pb) ((H.out).p1)))
 have hz:St W0 _ _ (.raw rb #[.int .i64 0,.int .i64 0,.bool false,.bool false,.bool false,.int .i64 0,.int .i64 0,.int .i64 0,.int .i64 0,.int .i64 0,.int .i64 0,.slice none 0 0] 30::_):=St.sets12 _ _ _ _ _ _ _ _ _ _ _ _ (H.out);refine bodyPost_ret (zBd rfl _ _ rb [.int .i64 0,.int .i64 0,.bool false,.bool false,.bool false,.int .i64 0,.int .i64 0,.int .i64 0,.int .i64 0,.int .i64 0,.int .i64 0,.slice none 0 0] _ rfl (zAn hz) Tryz.underlying30 rfl (by kernel_rfl)) rfl ?_;exact⟨rfl,hz.drop.drop⟩
end Go.Proofs.YtenojajfacacoaaGreatDoor
