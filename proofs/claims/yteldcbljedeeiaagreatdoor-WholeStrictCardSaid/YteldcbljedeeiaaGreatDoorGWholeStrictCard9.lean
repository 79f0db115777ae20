/- A text. -/
import Derived.Test.YteldcbljedeeiaaGreatDoorGWholeStrictCard8
import Derived.Test.YteldcbljedeeiaaGreatDoorGWholeStrictCard4
import Derived.Test.YteldcbljedeeiaaGreatDoorGWholeStrictCard6
import Derived.Test.YteldcbljedeeiaaGreatDoorGWholeStrictCard2
import Derived.Test.YteldcbljedeeiaaGreatDoorGWholeStrictCard7
import Derived.Test.YteldcbljedeeiaaGreatDoorGWholeStrictCard5
/- A text. -/
namespace Go.Proofs.YteldcbljedeeiaaGreatDoor
open Go.RowKit
theorem encR_small (x:RecS) (hx:x.R) (hs:x.sum≤1000):(encR x).length≤33000:=by
 have h1:=recF_le x hx (by omega);have h2:=encV_le ⟨false,recF x⟩ (by simp only;omega);simp only at h2;unfold encR
 omega
theorem rows_small:∀(l:List RecS) (n:Nat),(∀x∈l,(encR x).length≤n)→(l.flatMap encR).length≤n*l.length
  |[],_,_=>by simp
  |x::t,n,h=>by
    rw[List.flatMap_cons,List.length_append,List.length_cons,Nat.mul_succ];have h1:=rows_small t n (fun y hy=>h y (by simp[hy]));have h2:=h x (by simp)
    omega
theorem encAll_rows:∀(l:List (RecS×Value)),encAll l=(l.map (·.1)).flatMap encR
  |[]=>rfl
  |x::t=>by
    have:=encAll_rows t;unfold encAll at*;rw[List.flatMap_cons,List.map_cons,List.flatMap_cons,this]
structure SmallOk (b:BatS):Prop where
  fit:∀x∈b.recs,x.R∧recOk x=0∧x.sum≤1000
  len:b.recs.length≤12
  err:batErr b=0
  rng:b.R
theorem SmallOk.rows {b:BatS}(h:SmallOk b):b.rowsB.length≤400000:=by
 have:=rows_small b.recs 33000 (fun x hx=>encR_small x (h.fit x hx).1 (h.fit x hx).2.2);have h2:=h.len;unfold BatS.rowsB
 omega
theorem SmallOk.recs {b:BatS}(h:SmallOk b):∀x∈b.recs,x.R∧recOk x=0∧x.sum≤1000000:=fun x hx=>⟨(h.fit x hx).1,(h.fit x hx).2.1,by have:=(h.fit x hx).2.2;omega⟩
theorem SmallOk.back {b:BatS}(h:SmallOk b) (t:Bs):reBat (b.enc++t)=.ok (b,b.enc.length):=
 reBat_back h.err h.rng h.recs (by have:=h.rows;omega) (by have:=h.len;omega) t
theorem BatS.enc_len (b:BatS):b.enc.length=61+b.rowsB.length:=by unfold BatS.enc;rw[List.length_append,items_len]
theorem SmallOk.elen {b:BatS}(h:SmallOk b):b.enc.length≤401000:=by rw[b.enc_len];have:=h.rows;omega
theorem SmallOk.of {b:BatS}{l:List (RecS×Value)}(hl:b.recs=l.map (·.1)) (hw:FitW l) (hs:smallB (l.map (·.1))=true) (he:batErr b=0) (hR:b.R):SmallOk b where
 fit:=by
  intro x hx;rw[hl]at hx;have hf:=hw.fit hs;obtain⟨y,hy,rfl⟩:=List.mem_map.1 hx;have hr:=recsC_ok _ (batErr_zero he).2.2.2;have hss:=hs;unfold smallB at hss;simp only[Bool.and_eq_true]at hss;exact⟨(hf y hy).1,hr y.1 (by rw[hl];exact hx),smallRec_sum (rAll_mem _ hss.2 y.1 hx)⟩
 len:=by rw[hl,List.length_map];exact smallB_len hs
 err:=he
 rng:=hR
theorem ints_items {x:PreS}(h:FitsAll x.items):(⟨[],0⟩:OutS).ints x.items=⟨encInts x.items,0⟩:=by
 rw[OutS.ints_put _ _ h]
 rfl
theorem SmallOk.preX {b:BatS}(so:SmallOk b):(Go.Proofs.YteldcbljedeeiaaGreatDoor.preX b.enc).1=b.pre b.crc∧(Go.Proofs.YteldcbljedeeiaaGreatDoor.preX b.enc).2=2∧rePre b.enc=.ok (b.pre b.crc):=by
 have hb:=so.back [];rw[List.append_nil]at hb;obtain⟨x,hx,_⟩:=reBat_ok hb;have hrow:=so.rows;have hlen:=so.len;have hcr:=b.crc_lt;have f1:=BatS.fitsAll so.err so.rng b.crc (by omega) (by omega) (by omega);have hp:=rePre_enc (b.pre b.crc) f1 (show(49:Int)≤49+(b.rowsB.length:Int) by omega) (show(0:Int)≤(b.recs.length:Int) by omega) b.rowsB;have hp:rePre b.enc=.ok (b.pre b.crc):=hp;obtain⟨_,h2,h3,_⟩:=rePre_ok hp;exact⟨h2,h3,hp⟩
theorem so_textE (p:Nat) (o:OutS) (s:Bs) (e:Int) (hx:o.text=(s,e)){W0 w:World}{K:Know}{L:List Res}(h:St W0 w K (.out p o::L)):
  Calls Tryz.prog 49 #[outPtr p] w fun en w'=>en=.returned (.tuple #[.string (bb s),.int .i64 e])∧St W0 w' K (.out p o::L):=by
 have:=so_text p o h;rw[hx]at this;exact this
theorem prefix_writeE (p:Nat) (o o2:OutS) (a0 a1 a2 a3 a4 a5 a6 a7 a8 a9 a10 a11:Int) (hx:PreS.R ⟨a0,a1,a2,a3,a4,a5,a6,a7,a8,a9,a10,a11⟩) (ho:o.ints (PreS.items ⟨a0,a1,a2,a3,a4,a5,a6,a7,a8,a9,a10,a11⟩)=o2) (hr:o.ok 200){W0 w:World}{K:Know}{L:List Res}(h:St W0 w K (.out p o::L)):
  Calls Tryz.prog 140 #[outPtr p,.agg #[.int .i64 a0,.int .i64 a1,.int .i64 a2,.int .i64 a3,.int .i64 a4,.int .i64 a5,.int .i64 a6,.int .i64 a7,.int .i64 a8,.int .i64 a9,.int .i64 a10,.int .i64 a11]] w fun en w'=>en=.returned (.tuple #[])∧St W0 w' K (.out p o2::L):=by
 subst ho;exact prefix_write p o ⟨a0,a1,a2,a3,a4,a5,a6,a7,a8,a9,a10,a11⟩ hx h hr
set_option maxHeartbeats 1000000 in
set_option maxRecDepth 100000 in
theorem bat_written (a0 a1 a2 a3 a4 a5 a6 a7 a8 a9 a10 a11:Int) (hx:PreS.R ⟨a0,a1,a2,a3,a4,a5,a6,a7,a8,a9,a10,a11⟩) (o2:OutS) (s:Bs) (e:Int) (ho:(⟨[],0⟩:OutS).ints (PreS.items ⟨a0,a1,a2,a3,a4,a5,a6,a7,a8,a9,a10,a11⟩)=o2) (ht:o2.text=(s,e)){W0 w:World}{K:Know}{L:List Res}(h:St W0 w K L):
  Calls Tryz.prog 85 #[.agg #[.int .i64 a0,.int .i64 a1,.int .i64 a2,.int .i64 a3,.int .i64 a4,.int .i64 a5,.int .i64 a6,.int .i64 a7,.int .i64 a8,.int .i64 a9,.int .i64 a10,.int .i64 a11]] w fun en w'=>en=.returned (.tuple #[.string (bb s),.int .i64 e])∧St W0 w' K L:=by
 have g1:=h.allocRaw #[.int .i64 a0,.int .i64 a1,.int .i64 a2,.int .i64 a3,.int .i64 a4,.int .i64 a5,.int .i64 a6,.int .i64 a7,.int .i64 a8,.int .i64 a9,.int .i64 a10,.int .i64 a11] 163;have g2:=g1.allocOut;obtain⟨hb,hhb⟩:∃b,w.heap.size=b:=⟨_,rfl⟩;obtain⟨po,hpo⟩:∃b,hb+1=b:=⟨_,rfl⟩;simp only[World.size_alloc,hhb,hpo]at g2;obtain⟨x0,x1,x2,x3,x4,x5,x6,x7,x8,x9,x10,x11,y0,y1,y2,y3,y4,y5,y6,y7,y8,y9,y10,y11⟩:=raw12 (b:=hb) (g2.p1);have H:=Lib.hid g2;have HX:=Lib.hid hx;have HO:=Lib.hid ho;have HT:=Lib.hid ht;have HR:=Lib.hid (show(⟨[],0⟩:OutS).ok 200 by simp[OutS.ok]);clear g1 g2 h hx ho ht;go_enter Tryz.func85,Tryz.ntmps85
 go_wp2_with (first
  |(go_at_call 140;(with_reducible refine(prefix_writeE po _ _ _ _ _ _ _ _ _ _ _ _ _ _ HX.out HO.out HR.out H.out).mono ?_);rintro e_ wn ⟨rfl,h⟩;replace H:=Lib.hid h;clear h)
  |(go_at_call 49;(with_reducible refine(so_textE po _ _ _ HT.out H.out).mono ?_);rintro e_ wn ⟨rfl,h⟩;replace H:=Lib.hid h;clear h))
 go_ret2;exact⟨rfl,H.out.drop.drop⟩
set_option maxHeartbeats 1000000 in
set_option maxRecDepth 100000 in
theorem bat_pack (l:List (RecS×Value)) (q:Option Addr) (cap:Nat) (rows:Bs) (hrows:encAll l=rows) (hc:recsC (l.map (·.1))=0) (hfit:FitB l) (hll:l.length≤1000){W0 w:World}{K:Know}{L:List Res}(hk:K.has (Know.recs (.slice q l.length cap) l)) (h:St W0 w K L):
  Calls Tryz.prog 83 #[.slice q l.length cap] w fun en w'=>en=.returned (.tuple #[.string (bb rows),.int .i64 0])∧St W0 w' K L:=by
 have g1:=h.allocOut;obtain⟨po,hpo⟩:∃b,w.heap.size=b:=⟨_,rfl⟩;rw[hpo]at g1;have H:=Lib.hid g1;have HK:=Lib.hid hk;have HFT:=Lib.hid hfit;have HC:=Lib.hid hc;have HRW:=Lib.hid hrows;have HLL:=Lib.hid hll;clear h g1 hk hfit hc hrows hll;go_enter Tryz.func83,Tryz.ntmps83;go_wp2;go_loopw [6,9] (fun _ iv wr=>∃k:Nat,k≤l.length∧iv=.int .i64 k∧St W0 wr K (.out po ⟨encAll (l.take k),0⟩::L)) (fun _ iv _=>l.length - (intOf iv).toNat)
 case atStart=>exact⟨0,Nat.zero_le _,rfl,H.out⟩
 case round=>
  obtain⟨k,hkl,rfl,hst⟩:=hrel;clear H;have H:=Lib.hid hst;clear hst
  by_cases hlt:k<l.length
  · have OK:=Lib.hid (show(⟨encAll (l.take k),0⟩:OutS).ok 40000000 by
     have h1:=encAll_small (l:=l.take k) (fun y hy=>HFT.out y (List.mem_of_mem_take hy));have h2:=HLL.out;rw[List.length_take]at h1;unfold OutS.ok;simp only
     omega)
    have hok:=recsC_ok _ HC.out l[k].1 (List.mem_map.2 ⟨_,List.getElem_mem hlt,rfl⟩);have het:=encAll_take l k hlt;have hll2:=HLL.out;obtain⟨b,off,hqq⟩:=recs_at HK.out H.out (by omega);subst hqq;obtain⟨⟨x,vx⟩,hx⟩:∃x,l[k]=x:=⟨_,rfl⟩;have cc:=recs_cell HK.out H.out k hlt (x,vx) hx;have hmem:(x,vx)∈l:=hx ▸ List.getElem_mem hlt;have xf:x.R∧HFit x.hdrs∧x.sum≤1000000:=HFT.out (x,vx) hmem;have xk:K.has (Know.flat RHdr vx 3 x.hdrs):=recs_hdrs HK.out hmem;obtain⟨qx,capx,hvx⟩:=flat_form xk H.out;subst hvx;simp only at cc;obtain⟨c0,c1,c2,c3,c4,c5,c6⟩:=cc;rw[←Nat.add_assoc]at c1 c2 c3 c4 c5 c6;have hx1:l[k].1=x:=by rw[hx]
    have XF:=Lib.hid xf;have XK:=Lib.hid xk;have HX:=Lib.hid hx1;clear xf xk hx1 hx hmem;obtain⟨wE,hwE⟩:∃b,wr.heap.size=b:=⟨_,rfl⟩;have hki:(k:Int)<(l.length:Int):=by omega
    have h:=H.out.allocRaw #[.int .i64 x.time,.int .i64 x.off,.bool x.key.null,.string (bb x.key.data),.bool x.val.null,.string (bb x.val.data),.slice qx x.hdrs.length capx] 95;rw[hwE]at h;clear H;have H:=Lib.hid h;clear h;rw[HX.out]at hok het;have EO:=Lib.hid (show(⟨encAll (l.take k),0⟩:OutS).putRec x=⟨encAll (l.take (k+1)),0⟩ by rw[putRec_good _ _ hok,het]);have hll3:(l.length:Int)≤1000:=by omega
    obtain⟨ec0,ec1,ec2,ec3,ec4,ec5,ec6,ef0,ef1,ef2,ef3,ef4,ef5,ef6⟩:=raw7 (b:=wE) (H.out);clear hok het hll2;go_wp2_with (go_at_call 80;(with_reducible refine(rec_write po _ _ x (.slice qx x.hdrs.length capx) XF.out.1 XF.out.2.2 EO.out OK.out XK.out H.out.p1).mono ?_);rintro e_ wn ⟨rfl,h⟩;replace H:=Lib.hid h;clear h);go_roundw
    case rel=>exact⟨k+1,hlt,by go_num,H.out.p1.drop⟩
    case measure=>first|(simp[intOf];done)|(simp[intOf];omega)
  · obtain rfl:l.length=k:=by omega
    have h:=H.out;rw[List.take_length,HRW.out]at h;clear H;have H:=Lib.hid h;clear h;have HT:=Lib.hid (show(⟨rows,0⟩:OutS).text=(rows,0)from rfl);go_wp2_with (go_at_call 49;(with_reducible refine(so_textE po _ _ _ HT.out H.out).mono ?_);rintro e_ wn ⟨rfl,h⟩;replace H:=Lib.hid h;clear h);go_ret2;exact⟨rfl,H.out.drop⟩
set_option maxHeartbeats 2000000 in
set_option maxRecDepth 100000 in
theorem bat_encode_ok (base leader:Int) (app txn ctl:Bool) (last first maxt prod epoch sq:Int) (l:List (RecS×Value)) (q:Option Addr) (cap:Nat) (he:batErr ⟨base,leader,app,txn,ctl,last,first,maxt,prod,epoch,sq,l.map (·.1)⟩=0) (hmx:first≤9223372036854775807) (hfit:FitB l) (hll:l.length≤1000) (rows said0 said1 all:Bs) (x:Nat) (at_:Int) (hrc:recsC (l.map (·.1))=0) (hrw:encAll l=rows) (hrl:rows.length≤100000000) (hat:attrN app txn ctl 3=at_)
    (r0:PreS.R ⟨base,49+rows.length,leader,0,at_,last,first,maxt,prod,epoch,sq,l.length⟩) (r1:PreS.R ⟨base,49+rows.length,leader,x,at_,last,first,maxt,prod,epoch,sq,l.length⟩) (o0:(⟨[],0⟩:OutS).ints (PreS.items ⟨base,49+rows.length,leader,0,at_,last,first,maxt,prod,epoch,sq,l.length⟩)=⟨said0,0⟩) (o1:(⟨[],0⟩:OutS).ints (PreS.items ⟨base,49+rows.length,leader,x,at_,last,first,maxt,prod,epoch,sq,l.length⟩)=⟨said1,0⟩) (l0:said0.length=61) (l1:said1.length=61) (hx:(crcMore 0#32 (said0.drop 21++rows)).toNat=x) (hall:said1++rows=all){W0 w:World}{K:Know}{L:List Res}(hk:K.has (Know.recs (.slice q l.length cap) l)) (h:St W0 w K L):
    Calls Tryz.prog 39 #[.agg #[.int .i64 base,.int .i64 leader,.bool app,.bool txn,.bool ctl,.int .i64 last,.int .i64 first,.int .i64 maxt,.int .i64 prod,.int .i64 epoch,.int .i64 sq,.slice q l.length cap]] w fun en w'=>en=.returned (.tuple #[.string (bb all),.int .i64 0])∧St W0 w' K L:=by
  have HK:=Lib.hid hk;have HFT:=Lib.hid hfit;have HLL:=Lib.hid (show l.length≤1000000 by omega);have HL1:=Lib.hid hll;have HMX:=Lib.hid hmx;have HE:=Lib.hid he;have HRW:=Lib.hid hrw;have HRC:=Lib.hid hrc;have AT:=Lib.hid hat;have HSZ:=Lib.hid (show rows.length≤140737488355328 by omega);have R0:=Lib.hid r0;have R1:=Lib.hid r1;have O0:=Lib.hid o0;have O1:=Lib.hid o1;have T0:=Lib.hid (show(⟨said0,0⟩:OutS).text=(said0,0)from rfl);have T1:=Lib.hid (show(⟨said1,0⟩:OutS).text=(said1,0)from rfl);have HX:=Lib.hid hx;have HS21:=Lib.hid (show 21≤said0.length by omega);have HS2:=Lib.hid (show said0.length≤140737488355328 by omega);have HR2:=Lib.hid (show rows.length≤140737488355328 by omega);have HALL:=Lib.hid hall;have hcat:bb said1++bb rows=bb all:=by rw[←hall];exact bb_append _ _
  have hg:¬(9223372036854775807<said1.length+rows.length):=by omega
  have t1:True:=trivial;have h1:=h.allocRaw #[.int .i64 base,.int .i64 leader,.bool app,.bool txn,.bool ctl,.int .i64 last,.int .i64 first,.int .i64 maxt,.int .i64 prod,.int .i64 epoch,.int .i64 sq,.slice q l.length cap] 101;obtain⟨hb,hhb⟩:∃b,w.heap.size=b:=⟨_,rfl⟩;rw[hhb]at h1;obtain⟨x0,x1,x2,x3,x4,x5,x6,x7,x8,x9,x10,x11,y0,y1,y2,y3,y4,y5,y6,y7,y8,y9,y10,y11⟩:=raw12 (b:=hb) (h1);have H:=Lib.hid h1;clear h h1 hk hfit hll hmx he hrw hrc hat r0 r1 o0 o1 l0 l1 hx hall hrl;go_enter Tryz.func39,Tryz.ntmps39
  go_wp2_with (first
    |(go_at_call 82;(with_reducible refine(bat_check _ _ _ _ _ _ _ _ _ _ _ l _ _ 0 HE.out HMX.out HFT.out HLL.out HK.out H.out).mono ?_);rintro e_ wn ⟨rfl,h⟩;replace H:=Lib.hid h;clear h;obtain⟨x0,x1,x2,x3,x4,x5,x6,x7,x8,x9,x10,x11,y0,y1,y2,y3,y4,y5,y6,y7,y8,y9,y10,y11⟩:=raw12 (b:=hb) (H.out))
    |(go_at_call 83;(with_reducible refine(bat_pack l _ _ rows HRW.out HRC.out HFT.out HL1.out HK.out H.out).mono ?_);rintro e_ wn ⟨rfl,h⟩;replace H:=Lib.hid h;clear h;obtain⟨x0,x1,x2,x3,x4,x5,x6,x7,x8,x9,x10,x11,y0,y1,y2,y3,y4,y5,y6,y7,y8,y9,y10,y11⟩:=raw12 (b:=hb) (H.out))
    |(go_at_call 84;(with_reducible refine(bat_head _ _ _ _ _ _ _ _ _ _ _ l _ _ rows.length HSZ.out H.out).mono ?_);rw[AT.out];rintro e_ wn ⟨rfl,h⟩;have h:=h.allocRaw #[.int .i64 base,.int .i64 (49+rows.length),.int .i64 leader,.int .i64 0,.int .i64 at_,.int .i64 last,.int .i64 first,.int .i64 maxt,.int .i64 prod,.int .i64 epoch,.int .i64 sq,.int .i64 l.length] 163;obtain⟨pb,hpb⟩:∃b,wn.heap.size=b:=⟨_,rfl⟩;rw[hpb]at h;replace H:=Lib.hid h;clear h;obtain⟨p0,p1,p2,p3,p4,p5,p6,p7,p8,p9,p10,p11,u0,u1,u2,u3,u4,u5,u6,u7,u8,u9,u10,u11⟩:=raw12 (b:=pb) (H.out))
    |(go_at_call 85;have _t:=t1;clear _t;(with_reducible refine(bat_written _ _ _ _ _ _ _ _ _ _ _ _ R0.out _ _ _ O0.out T0.out H.out).mono ?_);rintro e_ wn ⟨rfl,h⟩;replace H:=Lib.hid h;clear h;obtain⟨p0,p1,p2,p3,p4,p5,p6,p7,p8,p9,p10,p11,u0,u1,u2,u3,u4,u5,u6,u7,u8,u9,u10,u11⟩:=raw12 (b:=pb) (H.out);have t2:True:=trivial;clear t1)
    |(go_at_call 86;(with_reducible refine(bat_sum said0 rows x HX.out HS21.out HS2.out HR2.out H.out).mono ?_);rintro e_ wn ⟨rfl,h⟩;replace H:=Lib.hid h;clear h;obtain⟨p0,p1,p2,p3,p4,p5,p6,p7,p8,p9,p10,p11,u0,u1,u2,u3,u4,u5,u6,u7,u8,u9,u10,u11⟩:=raw12 (b:=pb) (H.out);have h3:St W0 _ K (.raw pb #[.int .i64 base,.int .i64 (49+rows.length),.int .i64 leader,.int .i64 x,.int .i64 at_,.int .i64 last,.int .i64 first,.int .i64 maxt,.int .i64 prod,.int .i64 epoch,.int .i64 sq,.int .i64 l.length] 163::_):=H.out.rawSet 3 (.int .i64 x);obtain⟨a0,a1,a2,a3,a4,a5,a6,a7,a8,a9,a10,a11,f0,f1,f2,f3,f4,f5,f6,f7,f8,f9,f10,f11⟩:=raw12 (b:=pb) (h3);clear h3)
    |(go_at_call 85;have _t:=t2;clear _t;(with_reducible refine(bat_written _ _ _ _ _ _ _ _ _ _ _ _ R1.out _ _ _ O1.out T1.out (H.out.rawSet 3 (.int .i64 x))).mono ?_);rintro e_ wn ⟨rfl,h⟩;replace H:=Lib.hid h;clear h;clear t2))
  go_ret2;exact⟨rfl,H.out.drop.drop⟩
def AgreeB (a b:Bs) (first n:Nat):Prop:=b.take 21=a.take 21∧∀i,(i<first∨first+n≤i)→(bitsOf (a.drop 21)).getD i false=(bitsOf (b.drop 21)).getD i false
theorem AgreeB.refl (a:Bs) (f:Nat):AgreeB a a f 0:=⟨rfl,fun _ _=>rfl⟩
theorem AgreeB.step {a b:Bs}{f n:Nat}(h:AgreeB a b f n):AgreeB a b f (n+1):=⟨h.1,fun i hi=>h.2 i (by omega)⟩
structure BatR where
  b:BatS
  l:List (RecS×Value)
  q:Option Addr
  cap:Nat
def RBat (cs:List Value) (x:BatR):Prop:=cs=[.int .i64 x.b.base,.int .i64 x.b.leader,.bool x.b.app,.bool x.b.txn,.bool x.b.ctl,.int .i64 x.b.last,.int .i64 x.b.first,.int .i64 x.b.maxt,.int .i64 x.b.prod,.int .i64 x.b.epoch,.int .i64 x.b.seq,.slice x.q x.l.length x.cap]
def BatR.Fit (x:BatR):Prop:=x.b.R∧FitW x.l∧x.l.map (·.1)=x.b.recs
def Know.bats (v:Value) (l:List BatR):Know:=(Know.flat RBat v 12 l).and (Know.all l fun x=>Know.recs (.slice x.q x.l.length x.cap) x.l)
theorem bats_flat {K:Know}{v:Value}{l:List BatR}(h:K.has (Know.bats v l)):K.has (Know.flat RBat v 12 l):=fun w F x=>(h w F x).1
theorem bats_recs {K:Know}{v:Value}{l:List BatR}(h:K.has (Know.bats v l)){x:BatR}(hx:x∈l):K.has (Know.recs (.slice x.q x.l.length x.cap) x.l):=fun w F y=>(h w F y).2 x hx
theorem bats_at {W0 w:World}{K:Know}{L:List Res}{q:Option Addr}{n cap:Nat}{l:List BatR}(hk:K.has (Know.bats (.slice q n cap) l)) (h:St W0 w K L) (h0:0<l.length):∃b off,q=some ⟨b,off,none⟩:=by
 obtain⟨F,hF,_⟩:=h.get;obtain⟨q2,cap2,hv,hr⟩:=(bats_flat hk _ _ hF).at;obtain⟨b,off,hq,_⟩:=hr h0;simp at hv;exact⟨b,off,hv.1.trans hq⟩
theorem bats_cell {W0 w:World}{K:Know}{L:List Res}{b off n cap:Nat}{l:List BatR}(hk:K.has (Know.bats (.slice (some ⟨b,off,none⟩) n cap) l)) (h:St W0 w K L) (i:Nat) (hi:i<l.length) (x:BatR) (hx:l[i]=x):
  w.cell? ⟨b,off+i*12,none⟩=some (.int .i64 x.b.base)∧w.cell? ⟨b,off+i*12+1,none⟩=some (.int .i64 x.b.leader)∧w.cell? ⟨b,off+i*12+2,none⟩=some (.bool x.b.app)∧w.cell? ⟨b,off+i*12+3,none⟩=some (.bool x.b.txn)∧w.cell? ⟨b,off+i*12+4,none⟩=some (.bool x.b.ctl)∧w.cell? ⟨b,off+i*12+5,none⟩=some (.int .i64 x.b.last)∧w.cell? ⟨b,off+i*12+6,none⟩=some (.int .i64 x.b.first)∧w.cell? ⟨b,off+i*12+7,none⟩=some (.int .i64 x.b.maxt)∧w.cell? ⟨b,off+i*12+8,none⟩=some (.int .i64 x.b.prod)∧w.cell? ⟨b,off+i*12+9,none⟩=some (.int .i64 x.b.epoch)∧w.cell? ⟨b,off+i*12+10,none⟩=some (.int .i64 x.b.seq)∧w.cell? ⟨b,off+i*12+11,none⟩=some (.slice x.q x.l.length x.cap):=by
 subst hx;obtain⟨F,hF,_⟩:=h.get;obtain⟨q2,cap2,hv,hr⟩:=(bats_flat hk _ _ hF).at;obtain⟨b2,off2,hq,hc⟩:=hr (by omega);rw[hq]at hv;simp at hv;obtain⟨⟨rfl,rfl⟩,_,_⟩:=hv;obtain⟨cs,_,hR,hcs⟩:=hc i hi;unfold RBat at hR;subst hR;refine⟨?_,?_,?_,?_,?_,?_,?_,?_,?_,?_,?_,?_⟩
 · exact hcs 0 _ rfl
 · rw[Nat.add_assoc];exact hcs 1 _ rfl
 · rw[Nat.add_assoc];exact hcs 2 _ rfl
 · rw[Nat.add_assoc];exact hcs 3 _ rfl
 · rw[Nat.add_assoc];exact hcs 4 _ rfl
 · rw[Nat.add_assoc];exact hcs 5 _ rfl
 · rw[Nat.add_assoc];exact hcs 6 _ rfl
 · rw[Nat.add_assoc];exact hcs 7 _ rfl
 · rw[Nat.add_assoc];exact hcs 8 _ rfl
 · rw[Nat.add_assoc];exact hcs 9 _ rfl
 · rw[Nat.add_assoc];exact hcs 10 _ rfl
 · rw[Nat.add_assoc];exact hcs 11 _ rfl
def errB:List BatR→Int
  |[]=>0
  |x::t=>if batErr x.b=0 then errB t else batErr x.b
def encB (l:List BatR):Bs:=l.flatMap fun x=>x.b.enc
theorem encB_append (l m:List BatR):encB (l++m)=encB l++encB m:=List.flatMap_append
theorem encB_one (x:BatR):encB [x]=x.b.enc:=by unfold encB;rw[List.flatMap_cons,List.flatMap_nil,List.append_nil]
theorem encB_cons (x:BatR) (t:List BatR):encB (x::t)=x.b.enc++encB t:=rfl
theorem encB_take (l:List BatR) (k:Nat) (h:k<l.length):encB (l.take (k+1))=encB (l.take k)++l[k].b.enc:=by
 rw[List.take_succ_eq_append_getElem h,encB_append,encB_one]
theorem BatR.small {x:BatR}(hf:x.Fit) (hs:smallB (x.l.map (·.1))=true) (he:batErr x.b=0):SmallOk x.b:=SmallOk.of hf.2.2.symm hf.2.1 hs he hf.1
theorem encR_small2 (x:RecS) (hx:x.R) (hs:smallRec x=true):(encR x).length≤1100:=by
 unfold smallRec at hs;simp only[Bool.and_eq_true,decide_eq_true_eq]at hs;obtain⟨s1,s2,s3⟩:=hs;have hm:=hAll_sum _ s3;have h0:=hsum_le x.hdrs;have h1:=encI_le x.time hx.1;have h2:=encI_le x.off hx.2;have h3:=encV_le x.key (by omega);have h4:=encV_le x.val (by omega);have h5:=encHs_le x.hdrs (by omega);have h8:=encI_le x.hdrs.length (by omega)
 have h6:(recF x).length≤1060:=by
  unfold recF encHs;simp only[List.length_append,List.length_cons,List.length_nil]
  omega
 have h7:=encV_le ⟨false,recF x⟩ (by simp only;omega);simp only at h7;unfold encR
 omega
theorem BatR.elen {x:BatR}(hf:x.Fit) (hs:smallB (x.l.map (·.1))=true):x.b.enc.length≤14000:=by
 rw[x.b.enc_len];unfold smallB at hs;simp only[Bool.and_eq_true,decide_eq_true_eq]at hs;rw[hf.2.2]at hs
 have h1:=rows_small x.b.recs 1100 (fun y hy=>encR_small2 y (by
  have hy2:y∈x.l.map (·.1):=hf.2.2 ▸ hy;obtain⟨z,hz,rfl⟩:=List.mem_map.1 hy2
  exact(hf.2.1 z hz).1) (rAll_mem _ hs.2 y hy))
 unfold BatS.rowsB
 omega
theorem encB_le2:∀(l:List BatR),(∀x∈l,x.Fit)→(∀x∈l,smallB (x.l.map (·.1))=true)→(encB l).length≤14000*l.length
  |[],_,_=>by simp[encB]
  |x::t,hf,hs=>by
    have h1:=encB_le2 t (fun y hy=>hf y (by simp[hy])) (fun y hy=>hs y (by simp[hy]));have h2:=BatR.elen (hf x (by simp)) (hs x (by simp));have e:encB (x::t)=x.b.enc++encB t:=rfl;rw[e,List.length_append,List.length_cons]
    omega
structure PartR where
  idx:Int
  l:List BatR
  q:Option Addr
  cap:Nat
def RPart (cs:List Value) (x:PartR):Prop:=cs=[.int .i64 x.idx,.slice x.q x.l.length x.cap]
def pcells (x:PartR):List Value:=[.int .i64 x.idx,.slice x.q x.l.length x.cap]
def Know.pparts (v:Value) (l:List PartR):Know:=(Know.flat RPart v 2 l).and (Know.all l fun x=>Know.bats (.slice x.q x.l.length x.cap) x.l)
structure PTop where
  name:Bs
  l:List PartR
  q:Option Addr
  cap:Nat
def RPTop (cs:List Value) (x:PTop):Prop:=cs=[.string (bb x.name),.slice x.q x.l.length x.cap]
def ptcells (x:PTop):List Value:=[.string (bb x.name),.slice x.q x.l.length x.cap]
def Know.ptops (v:Value) (l:List PTop):Know:=(Know.flat RPTop v 2 l).and (Know.all l fun x=>Know.pparts (.slice x.q x.l.length x.cap) x.l)
theorem pparts_flat {K:Know}{v:Value}{l:List PartR}(h:K.has (Know.pparts v l)):K.has (Know.flat RPart v 2 l):=fun w F x=>(h w F x).1
theorem pparts_bats {K:Know}{v:Value}{l:List PartR}(h:K.has (Know.pparts v l)){x:PartR}(hx:x∈l):K.has (Know.bats (.slice x.q x.l.length x.cap) x.l):=fun w F y=>(h w F y).2 x hx
theorem ptops_flat {K:Know}{v:Value}{l:List PTop}(h:K.has (Know.ptops v l)):K.has (Know.flat RPTop v 2 l):=fun w F x=>(h w F x).1
theorem ptops_parts {K:Know}{v:Value}{l:List PTop}(h:K.has (Know.ptops v l)){x:PTop}(hx:x∈l):K.has (Know.pparts (.slice x.q x.l.length x.cap) x.l):=fun w F y=>(h w F y).2 x hx
theorem pparts_at {W0 w:World}{K:Know}{L:List Res}{q:Option Addr}{n cap:Nat}{l:List PartR}(hk:K.has (Know.pparts (.slice q n cap) l)) (h:St W0 w K L) (h0:0<l.length):∃b off,q=some ⟨b,off,none⟩:=by
 obtain⟨F,hF,_⟩:=h.get;obtain⟨q2,cap2,hv,hr⟩:=(pparts_flat hk _ _ hF).at;obtain⟨b,off,hq,_⟩:=hr h0;simp at hv;exact⟨b,off,hv.1.trans hq⟩
theorem ptops_at {W0 w:World}{K:Know}{L:List Res}{q:Option Addr}{n cap:Nat}{l:List PTop}(hk:K.has (Know.ptops (.slice q n cap) l)) (h:St W0 w K L) (h0:0<l.length):∃b off,q=some ⟨b,off,none⟩:=by
 obtain⟨F,hF,_⟩:=h.get;obtain⟨q2,cap2,hv,hr⟩:=(ptops_flat hk _ _ hF).at;obtain⟨b,off,hq,_⟩:=hr h0;simp at hv;exact⟨b,off,hv.1.trans hq⟩
theorem pparts_cell {W0 w:World}{K:Know}{L:List Res}{b off n cap:Nat}{l:List PartR}(hk:K.has (Know.pparts (.slice (some ⟨b,off,none⟩) n cap) l)) (h:St W0 w K L) (i:Nat) (hi:i<l.length) (x:PartR) (hx:l[i]=x):
  w.cell? ⟨b,off+i*2,none⟩=some (.int .i64 x.idx)∧w.cell? ⟨b,off+i*2+1,none⟩=some (.slice x.q x.l.length x.cap):=by
 subst hx;obtain⟨F,hF,_⟩:=h.get;obtain⟨q2,cap2,hv,hr⟩:=(pparts_flat hk _ _ hF).at;obtain⟨b2,off2,hq,hc⟩:=hr (by omega);rw[hq]at hv;simp at hv;obtain⟨⟨rfl,rfl⟩,_,_⟩:=hv;obtain⟨cs,_,hR,hcs⟩:=hc i hi;unfold RPart at hR;subst hR;exact⟨hcs 0 _ rfl,by rw[Nat.add_assoc];exact hcs 1 _ rfl⟩
theorem ptops_cell {W0 w:World}{K:Know}{L:List Res}{b off n cap:Nat}{l:List PTop}(hk:K.has (Know.ptops (.slice (some ⟨b,off,none⟩) n cap) l)) (h:St W0 w K L) (i:Nat) (hi:i<l.length) (x:PTop) (hx:l[i]=x):
  w.cell? ⟨b,off+i*2,none⟩=some (.string (bb x.name))∧w.cell? ⟨b,off+i*2+1,none⟩=some (.slice x.q x.l.length x.cap):=by
 subst hx;obtain⟨F,hF,_⟩:=h.get;obtain⟨q2,cap2,hv,hr⟩:=(ptops_flat hk _ _ hF).at;obtain⟨b2,off2,hq,hc⟩:=hr (by omega);rw[hq]at hv;simp at hv;obtain⟨⟨rfl,rfl⟩,_,_⟩:=hv;obtain⟨cs,_,hR,hcs⟩:=hc i hi;unfold RPTop at hR;subst hR;exact⟨hcs 0 _ rfl,by rw[Nat.add_assoc];exact hcs 1 _ rfl⟩
def riseP:Int→List PartR→Bool
  | _,[]=>true
  |a,x::t=>decide (a<x.idx) && decide (x.idx≤2147483647) && riseP x.idx t
def errT:Bs→List PTop→Int
  | _,[]=>0
  |a,x::t=>if x.l.length=0 then 10 else if (keyRight x.name && Op.bytesLess a x.name && riseP (-1) x.l)=true then errT x.name t else 13
def errTops (l:List PTop):Int:=if l.length=0 then 10 else errT [] l
def errBs (txn:Bool):List BatR→Int
  |[]=>0
  |x::t=>if batErr x.b≠0 then batErr x.b else if x.b.ctl=true then 12 else if x.b.txn≠txn then 8 else errBs txn t
def errPs (txn:Bool) (v:Int):List PartR→Int
  |[]=>0
  |x::t=>if x.l.length=0∨(v=3∧1<x.l.length)then 10 else if errBs txn x.l≠0 then errBs txn x.l else errPs txn v t
def errPT (txn:Bool) (v:Int):List PTop→Int
  |[]=>0
  |x::t=>if errPs txn v x.l≠0 then errPs txn v x.l else errPT txn v t
def errReq (id:BlobS) (acks tmo:Int) (v:Int) (l:List PTop):Int:=
  if id.right=false∨(id.null=false∧keyRight id.data=false)then 4
  else if acks< -1∨1<acks∨tmo<0∨2147483647<tmo then 11
  else if errTops l≠0 then errTops l else errPT (!id.null) v l
theorem riseP_cons (a:Int) (x:PartR) (t:List PartR):riseP a (x::t)=(decide (a<x.idx) && decide (x.idx≤2147483647) && riseP x.idx t):=rfl
structure CkR (x:BatR):Prop where
  recs:x.l.map (·.1)=x.b.recs
  first:x.b.first≤9223372036854775807
  fit:FitB x.l
  len:x.l.length≤1000000
theorem errBs_cons (txn:Bool) (x:BatR) (t:List BatR):errBs txn (x::t)=if batErr x.b≠0 then batErr x.b else if x.b.ctl=true then 12 else if x.b.txn≠txn then 8 else errBs txn t:=rfl
theorem lex_leqP:∀x y:Bs,(Op.bytesLess x y||x==y)= !Op.bytesLess y x
  |[],[]=>rfl
  |[],_::_=>rfl
  | _::_,[]=>rfl
  |a::x,b::y=>by
    have ih:=lex_leqP x y
    show((decide (a<b)||(a==b && Op.bytesLess x y))||(a==b && x==y))= !(decide (b<a)||(b==a && Op.bytesLess y x))
    by_cases h1:a=b
    · exact zq26
    · exact zq11
theorem errT_cons (a:Bs) (x:PTop) (t:List PTop):errT a (x::t)=if x.l.length=0 then 10 else if (keyRight x.name && Op.bytesLess a x.name && riseP (-1) x.l)=true then errT x.name t else 13:=rfl
theorem key_rightQ (s:Bs) (r:Bool) (hr:keyRight s=r) (hs:s.length≤140737488355328){W0 w:World}{K:Know}{L:List Res}(h:St W0 w K L):
  Calls Tryz.prog 88 #[.string (bb s)] w fun en w'=>en=.returned (.bool r)∧St W0 w' K L:=by
 subst hr;exact key_right s hs h
theorem leq_parts (x y:Bs) (h:Op.bytesLess y x=true):Op.bytesLess x y=false∧(x==y)=false:=by
 have:=lex_leqP x y;rw[h]at this
 simpa using this
theorem leq_cases (x y:Bs) (h:Op.bytesLess y x=false):Op.bytesLess x y=true∨(Op.bytesLess x y=false∧(x==y)=true):=by
 have:=lex_leqP x y;rw[h]at this
 cases c:Op.bytesLess x y with
 |true=>exact .inl rfl
 |false=>rw[c]at this;exact .inr ⟨rfl,by simpa using this⟩
theorem errPs_cons (txn:Bool) (v:Int) (x:PartR) (t:List PartR):errPs txn v (x::t)=if x.l.length=0∨(v=3∧1<x.l.length)then 10 else if errBs txn x.l≠0 then errBs txn x.l else errPs txn v t:=rfl
theorem errPT_cons (txn:Bool) (v:Int) (x:PTop) (t:List PTop):errPT txn v (x::t)=if errPs txn v x.l≠0 then errPs txn v x.l else errPT txn v t:=rfl
structure CkP (x:PartR):Prop where
  len:x.l.length≤4398046511104
  bats:∀y∈x.l,CkR y
structure CkT (x:PTop):Prop where
  name:x.name.length≤140737488355328
  len:x.l.length≤4398046511104
  parts:∀y∈x.l,CkP y
theorem pblob_rightQ (nl:Bool) (dd:Bs) (r:Bool) (hr:(⟨nl,dd⟩:BlobS).right=r){W0 w:World}{K:Know}{L:List Res}(h:St W0 w K L):
  Calls Tryz.prog 149 #[.agg #[.bool nl,.string (bb dd)]] w fun en w'=>en=.returned (.bool r)∧St W0 w' K L:=by
 subst hr;exact blob_right ⟨nl,dd⟩ h
theorem ckT_few {l:List PTop}(h:∀x∈l,CkT x):∀x∈l,x.name.length≤140737488355328∧x.l.length≤4398046511104:=fun x hx=>⟨(h x hx).name,(h x hx).len⟩
def encPart (x:PartR):Bs:=beBytes x.idx (4:Int).toNat++encF 4 ⟨false,encB x.l⟩
def encPTop (x:PTop):Bs:=(encF 2 ⟨false,x.name⟩++beBytes (x.l.length:Int) (4:Int).toNat)++x.l.flatMap encPart
def encPReq (nl:Bool) (dd:Bs) (ac tm:Int) (l:List PTop):Bs:=(((encF 2 ⟨nl,dd⟩++beBytes ac (2:Int).toNat)++beBytes tm (4:Int).toNat)++beBytes (l.length:Int) (4:Int).toNat)++l.flatMap encPTop
theorem pfits2 (n:Int) (h: -32768≤n∧n<32768):fits n 2:=by
 refine⟨by decide,by decide,?_,?_⟩
 · show -(128*256 ^ 1:Int)≤n;omega
 · show n<128*256 ^ 1;omega
theorem pfits4 (n:Int) (h: -2147483648≤n∧n<2147483648):fits n 4:=by
 refine⟨by decide,by decide,?_,?_⟩
 · show -(128*256 ^ 3:Int)≤n;omega
 · show n<128*256 ^ 3;omega
theorem pso_int (p:Nat) (e e2:Bs) (n size:Int) (he:e++beBytes n size.toNat=e2) (hf:fits n size) (hn: -9223372036854775808≤n∧n<9223372036854775808) (hl:e.length≤100000000000000){W0 w:World}{K:Know}{L:List Res}(h:St W0 w K (.out p ⟨e,0⟩::L)):
  Calls Tryz.prog 50 #[outPtr p,.int .i64 n,.int .i64 size] w fun en w'=>en=.returned (.tuple #[])∧St W0 w' K (.out p ⟨e2,0⟩::L):=by
 have h2:=so_int p ⟨e,0⟩ n size hn h zq30;have e3:(⟨e,0⟩:OutS).int n size=⟨e2,0⟩:=by unfold OutS.int;rw[if_pos hf,←he];rfl
 rw[e3]at h2;exact h2
theorem pblob_text (p:Nat) (e e2 s:Bs) (he:e++encF 2 ⟨false,s⟩=e2) (hs:s.length≤32767) (hl:e.length≤100000000000000){W0 w:World}{K:Know}{L:List Res}(h:St W0 w K (.out p ⟨e,0⟩::L)):
  Calls Tryz.prog 89 #[outPtr p,.string (bb s)] w fun en w'=>en=.returned (.tuple #[])∧St W0 w' K (.out p ⟨e2,0⟩::L):=by
 have h2:=blob_putText p ⟨e,0⟩ s h zq30;have hf:fits (⟨false,s⟩:BlobS).len 2:=pfits2 _ zq36
 have e3:(⟨e,0⟩:OutS).putText s=⟨e2,0⟩:=by
  exact zq28
 rw[e3]at h2;exact h2
theorem pblob_fixed2 (p:Nat) (e e2:Bs) (u:Bool) (s:Bs) (he:e++encF 2 ⟨u,s⟩=e2) (hr:(⟨u,s⟩:BlobS).right=true) (hs:s.length≤32767) (hl:e.length≤100000000000000){W0 w:World}{K:Know}{L:List Res}(h:St W0 w K (.out p ⟨e,0⟩::L)):
  Calls Tryz.prog 96 #[outPtr p,.agg #[.bool u,.string (bb s)],.int .i64 2] w fun en w'=>en=.returned (.tuple #[])∧St W0 w' K (.out p ⟨e2,0⟩::L):=by
 have h2:=blob_putFixed p ⟨e,0⟩ ⟨u,s⟩ 2 h zq30
 have e3:(⟨e,0⟩:OutS).putFixed ⟨u,s⟩ 2=⟨e2,0⟩:=by
  unfold OutS.putFixed OutS.int
  cases u with
  |true=>
   have h3:s=[]:=by cases s with|nil=>rfl|cons _ _=>cases hr
   subst h3;rw[if_pos (pfits2 _ (by decide)),←he]
   show(⟨(e++beBytes (⟨true,[]⟩:BlobS).len 2)++[],0⟩:OutS)=_
   rw[List.append_assoc]
   rfl
  |false=>
   rw[if_pos (pfits2 _ zq36),←he]
   exact zq18
 rw[e3]at h2;exact h2
theorem pblob_fixed4 (p:Nat) (e e2 s:Bs) (he:e++encF 4 ⟨false,s⟩=e2) (hs:s.length≤100000000) (hl:e.length≤100000000000000){W0 w:World}{K:Know}{L:List Res}(h:St W0 w K (.out p ⟨e,0⟩::L)):
  Calls Tryz.prog 96 #[outPtr p,.agg #[.bool false,.string (bb s)],.int .i64 4] w fun en w'=>en=.returned (.tuple #[])∧St W0 w' K (.out p ⟨e2,0⟩::L):=by
 have h2:=blob_putFixed p ⟨e,0⟩ ⟨false,s⟩ 4 h zq30
 have e3:(⟨e,0⟩:OutS).putFixed ⟨false,s⟩ 4=⟨e2,0⟩:=by
  unfold OutS.putFixed OutS.int;rw[if_pos (pfits4 _ (by show -2147483648≤(s.length:Int)∧(s.length:Int)<2147483648;omega)),←he]
  show(⟨(e++beBytes (⟨false,s⟩:BlobS).len 4)++s,0⟩:OutS)=_
  rw[List.append_assoc]
  rfl
 rw[e3]at h2;exact h2
theorem pblob_of (s:Bs){W0 w:World}{K:Know}{L:List Res}(h:St W0 w K L):Calls Tryz.prog 144 #[.string (bb s)] w fun en w'=>en=.returned (.agg #[.bool false,.string (bb s)])∧St W0 w' K L:=blob_of s h
structure PutP (x:PartR):Prop where
  few:x.l.length≤20
  fit:∀y∈x.l,y.Fit
  small:∀y∈x.l,smallB (y.l.map (·.1))=true
  err:errB x.l=0
  idx:0≤x.idx∧x.idx≤2147483647
theorem PutP.len {x:PartR}(h:PutP x):(encB x.l).length≤280000:=by
 have h1:=encB_le2 x.l h.fit h.small;have:=h.few
 omega
structure PutT (x:PTop):Prop where
  name:x.name.length≤32767
  few:x.l.length≤100000
  parts:∀y∈x.l,PutP y
theorem flat_cut {α:Type}(f:α→Bs) (l:List α) (k:Nat) (hk:k<l.length) (x:α) (hx:l[k]=x):(l.drop k).flatMap f=f x++(l.drop (k+1)).flatMap f:=by
 rw[List.drop_eq_getElem_cons hk,hx,List.flatMap_cons]
theorem len_ahead {a b c:Bs}{n:Nat}(h:a++b=c) (hc:c.length≤n):a.length≤n:=by
 have:=congrArg List.length h;rw[List.length_append]at this
 omega
set_option maxHeartbeats 2000000 in
set_option maxRecDepth 100000 in
theorem asm_sum (said rows:Bs) (base ln leader sm at_ last first maxt prod epoch sq:Int) (cnt:Nat) (x:Nat) (hx:(crcMore 0#32 (said.drop 21++rows)).toNat=x) (hs1:21≤said.length) (hs2:said.length≤140737488355328) (hs3:rows.length≤140737488355328) (h0:(x:Int)≠sm){W0 w:World}{K:Know}{L:List Res}(h:St W0 w K L):
  Calls Tryz.prog 134 #[.agg #[.int .i64 base,.int .i64 ln,.int .i64 leader,.int .i64 sm,.int .i64 at_,.int .i64 last,.int .i64 first,.int .i64 maxt,.int .i64 prod,.int .i64 epoch,.int .i64 sq,.int .i64 cnt],.string (bb said),.string (bb rows)] w fun en w'=>en=.returned (.tuple #[.agg #[.int .i64 0,.int .i64 0,.bool false,.bool false,.bool false,.int .i64 0,.int .i64 0,.int .i64 0,.int .i64 0,.int .i64 0,.int .i64 0,.slice none 0 0],.int .i64 5])∧St W0 w' K L:=by
 have gz:((x:Int)==sm)=false:=by rw[beq_eq_false_iff_ne];exact h0
 have gz2:((x:Int) !=sm)=true:=by simp[bne,gz]
 clear h0;have g1:=h.allocRaw #[.int .i64 base,.int .i64 ln,.int .i64 leader,.int .i64 sm,.int .i64 at_,.int .i64 last,.int .i64 first,.int .i64 maxt,.int .i64 prod,.int .i64 epoch,.int .i64 sq,.int .i64 cnt] 163;have g2:=g1.allocRaw #[.int .i64 0,.int .i64 0,.bool false,.bool false,.bool false,.int .i64 0,.int .i64 0,.int .i64 0,.int .i64 0,.int .i64 0,.int .i64 0,.slice none 0 0] 101;obtain⟨pb,hpb⟩:∃b,w.heap.size=b:=⟨_,rfl⟩;obtain⟨rb,hrb⟩:∃b,pb+1=b:=⟨_,rfl⟩;simp only[World.size_alloc,hpb,hrb]at g2;have H:=Lib.hid g2;have HX:=Lib.hid hx;have HS1:=Lib.hid hs1;have HS2:=Lib.hid hs2;have HS3:=Lib.hid hs3;clear h g1 g2 hx hs1 hs2 hs3;go_enter Tryz.func134,Tryz.ntmps134;go_upto_region 1 with (fail);have hs:=H.out.drew;refine wp_region_held_drew (S:=fun w'=>w'.cell? ⟨pb,0,none⟩=some (.int .i64 base)∧w'.cell? ⟨pb,1,none⟩=some (.int .i64 ln)∧w'.cell? ⟨pb,2,none⟩=some (.int .i64 leader)∧w'.cell? ⟨pb,3,none⟩=some (.int .i64 sm)∧w'.cell? ⟨pb,4,none⟩=some (.int .i64 at_)∧w'.cell? ⟨pb,5,none⟩=some (.int .i64 last)∧w'.cell? ⟨pb,6,none⟩=some (.int .i64 first)∧w'.cell? ⟨pb,7,none⟩=some (.int .i64 maxt)∧w'.cell? ⟨pb,8,none⟩=some (.int .i64 prod)∧w'.cell? ⟨pb,9,none⟩=some (.int .i64 epoch)∧w'.cell? ⟨pb,10,none⟩=some (.int .i64 sq)∧w'.cell? ⟨pb,11,none⟩=some (.int .i64 cnt)) (by kernel_rfl) (let ⟨x0,x1,x2,x3,x4,x5,x6,x7,x8,x9,x10,x11,_⟩:=raw12 (b:=pb) (hs.p1);⟨x0,x1,x2,x3,x4,x5,x6,x7,x8,x9,x10,x11⟩) (fun hHeld=> ?_);refine tQ 0 ⟨some 12,.move (.tmp 1),9,_,_,none⟩ ?_;simp only[Act.put,sA,sB,sC];refine tQ 1 ⟨some 13,.move (.tmp 2),9,_,_,none⟩ ?_;simp only[Act.put,sA,sB,sC];refine tQ 3 ⟨some 15,.fieldAddr 163 (.tmp 3) 3,0,_,_,none⟩ ?_;simp only[Act.put,sA,sB,sC];refine tQ 4 ⟨some 16,.load 3 (.tmp 15),3,_,_,none⟩ ?_;simp only[Act.put,sA,sB,sC];refine wpAnyH_ready (rs:=[2]) (by kernel_rfl) (by simp) (AllReadyH.cons (o:=⟨some 14,.call {callee:=.value (.func 86),args:= #[.tmp 12,.tmp 13],argTypes:= #[9,9]},3,_,_,none⟩) rfl (fun KK hK=> ?_) AllReadyH.nil);go_simp;go_at_call 86;with_reducible refine(bat_sum said rows x HX.out HS1.out HS2.out HS3.out hs).mono ?_;rintro e wq ⟨rfl,hs⟩;refine hK.out _ _ (let ⟨x0,x1,x2,x3,x4,x5,x6,x7,x8,x9,x10,x11,_⟩:=raw12 (b:=pb) (hs.p1);⟨x0,x1,x2,x3,x4,x5,x6,x7,x8,x9,x10,x11⟩) (fun hHeld=> ?_);clear hK KK
 try simp only[Act.put,sA,sB,sC]
 refine tQ 5 ⟨some 17,.binOp .neq 3 (.tmp 14) (.tmp 16) 3,4,_,_,none⟩ ?_;simp only[Act.put,sA,sB,sC];refine wpAnyH_done (by kernel_rfl) ?_ _;clear hHeld;have H:=Lib.hid hs;clear hs;obtain⟨p0,p1,p2,p3,p4,p5,p6,p7,p8,p9,p10,p11,u0,u1,u2,u3,u4,u5,u6,u7,u8,u9,u10,u11⟩:=raw12 (b:=rb) (H.out);obtain⟨x0,x1,x2,x3,x4,x5,x6,x7,x8,x9,x10,x11,y0,y1,y2,y3,y4,y5,y6,y7,y8,y9,y10,y11⟩:=raw12 (b:=pb) ((H.out).p1);go_wp2_with fail;have hz:St W0 _ _ (.raw rb #[.int .i64 0,.int .i64 0,.bool false,.bool false,.bool false,.int .i64 0,.int .i64 0,.int .i64 0,.int .i64 0,.int .i64 0,.int .i64 0,.slice none 0 0] 101::_):=St.sets12 _ _ _ _ _ _ _ _ _ _ _ _ (H.out);refine bodyPost_ret (rc_cell_tmp rfl _ _ rb [.int .i64 0,.int .i64 0,.bool false,.bool false,.bool false,.int .i64 0,.int .i64 0,.int .i64 0,.int .i64 0,.int .i64 0,.int .i64 0,.slice none 0 0] _ rfl (rc_range hz) Tryz.underlying101 rfl (by kernel_rfl)) rfl ?_;exact⟨rfl,hz.drop.drop⟩
set_option maxHeartbeats 2000000 in
set_option maxRecDepth 100000 in
theorem asm_attr (said rows:Bs) (base ln leader sm at_ last first maxt prod epoch sq:Int) (cnt:Nat) (x:Nat) (hx:(crcMore 0#32 (said.drop 21++rows)).toNat=x) (hs1:21≤said.length) (hs2:said.length≤140737488355328) (hs3:rows.length≤140737488355328) (h0:(x:Int)=sm) (e:Int) (hat:chk at_=e) (har:R64 at_) (he:e≠0){W0 w:World}{K:Know}{L:List Res}(h:St W0 w K L):
  Calls Tryz.prog 134 #[.agg #[.int .i64 base,.int .i64 ln,.int .i64 leader,.int .i64 sm,.int .i64 at_,.int .i64 last,.int .i64 first,.int .i64 maxt,.int .i64 prod,.int .i64 epoch,.int .i64 sq,.int .i64 cnt],.string (bb said),.string (bb rows)] w fun en w'=>en=.returned (.tuple #[.agg #[.int .i64 0,.int .i64 0,.bool false,.bool false,.bool false,.int .i64 0,.int .i64 0,.int .i64 0,.int .i64 0,.int .i64 0,.int .i64 0,.slice none 0 0],.int .i64 e])∧St W0 w' K L:=by
 have gs:((x:Int)==sm)=true:=by rw[h0];exact beq_self_eq_true _
 have gs2:((x:Int) !=sm)=false:=by simp[bne,gs]
 clear h0;have gz:(e==0)=false:=by rw[beq_eq_false_iff_ne];exact he
 have HAT:=Lib.hid hat;have HAR:=Lib.hid har;clear he hat har;have g1:=h.allocRaw #[.int .i64 base,.int .i64 ln,.int .i64 leader,.int .i64 sm,.int .i64 at_,.int .i64 last,.int .i64 first,.int .i64 maxt,.int .i64 prod,.int .i64 epoch,.int .i64 sq,.int .i64 cnt] 163;have g2:=g1.allocRaw #[.int .i64 0,.int .i64 0,.bool false,.bool false,.bool false,.int .i64 0,.int .i64 0,.int .i64 0,.int .i64 0,.int .i64 0,.int .i64 0,.slice none 0 0] 101;obtain⟨pb,hpb⟩:∃b,w.heap.size=b:=⟨_,rfl⟩;obtain⟨rb,hrb⟩:∃b,pb+1=b:=⟨_,rfl⟩;simp only[World.size_alloc,hpb,hrb]at g2;have H:=Lib.hid g2;have HX:=Lib.hid hx;have HS1:=Lib.hid hs1;have HS2:=Lib.hid hs2;have HS3:=Lib.hid hs3;clear h g1 g2 hx hs1 hs2 hs3;go_enter Tryz.func134,Tryz.ntmps134;go_upto_region 1 with (fail);have hs:=H.out.drew;refine wp_region_held_drew (S:=fun w'=>w'.cell? ⟨pb,0,none⟩=some (.int .i64 base)∧w'.cell? ⟨pb,1,none⟩=some (.int .i64 ln)∧w'.cell? ⟨pb,2,none⟩=some (.int .i64 leader)∧w'.cell? ⟨pb,3,none⟩=some (.int .i64 sm)∧w'.cell? ⟨pb,4,none⟩=some (.int .i64 at_)∧w'.cell? ⟨pb,5,none⟩=some (.int .i64 last)∧w'.cell? ⟨pb,6,none⟩=some (.int .i64 first)∧w'.cell? ⟨pb,7,none⟩=some (.int .i64 maxt)∧w'.cell? ⟨pb,8,none⟩=some (.int .i64 prod)∧w'.cell? ⟨pb,9,none⟩=some (.int .i64 epoch)∧w'.cell? ⟨pb,10,none⟩=some (.int .i64 sq)∧w'.cell? ⟨pb,11,none⟩=some (.int .i64 cnt)) (by kernel_rfl) (let ⟨x0,x1,x2,x3,x4,x5,x6,x7,x8,x9,x10,x11,_⟩:=raw12 (b:=pb) (hs.p1);⟨x0,x1,x2,x3,x4,x5,x6,x7,x8,x9,x10,x11⟩) (fun hHeld=> ?_);refine tQ 0 ⟨some 12,.move (.tmp 1),9,_,_,none⟩ ?_;simp only[Act.put,sA,sB,sC];refine tQ 1 ⟨some 13,.move (.tmp 2),9,_,_,none⟩ ?_;simp only[Act.put,sA,sB,sC];refine tQ 3 ⟨some 15,.fieldAddr 163 (.tmp 3) 3,0,_,_,none⟩ ?_;simp only[Act.put,sA,sB,sC];refine tQ 4 ⟨some 16,.load 3 (.tmp 15),3,_,_,none⟩ ?_;simp only[Act.put,sA,sB,sC];refine wpAnyH_ready (rs:=[2]) (by kernel_rfl) (by simp) (AllReadyH.cons (o:=⟨some 14,.call {callee:=.value (.func 86),args:= #[.tmp 12,.tmp 13],argTypes:= #[9,9]},3,_,_,none⟩) rfl (fun KK hK=> ?_) AllReadyH.nil);go_simp;go_at_call 86;with_reducible refine(bat_sum said rows x HX.out HS1.out HS2.out HS3.out hs).mono ?_;rintro e wq ⟨rfl,hs⟩;refine hK.out _ _ (let ⟨x0,x1,x2,x3,x4,x5,x6,x7,x8,x9,x10,x11,_⟩:=raw12 (b:=pb) (hs.p1);⟨x0,x1,x2,x3,x4,x5,x6,x7,x8,x9,x10,x11⟩) (fun hHeld=> ?_);clear hK KK
 try simp only[Act.put,sA,sB,sC]
 refine tQ 5 ⟨some 17,.binOp .neq 3 (.tmp 14) (.tmp 16) 3,4,_,_,none⟩ ?_;simp only[Act.put,sA,sB,sC];refine wpAnyH_done (by kernel_rfl) ?_ _;clear hHeld;have H:=Lib.hid hs;clear hs;obtain⟨p0,p1,p2,p3,p4,p5,p6,p7,p8,p9,p10,p11,u0,u1,u2,u3,u4,u5,u6,u7,u8,u9,u10,u11⟩:=raw12 (b:=rb) (H.out);obtain⟨x0,x1,x2,x3,x4,x5,x6,x7,x8,x9,x10,x11,y0,y1,y2,y3,y4,y5,y6,y7,y8,y9,y10,y11⟩:=raw12 (b:=pb) ((H.out).p1);go_wp2_with (go_at_call 194;(with_reducible refine(attr_checkE at_ e HAT.out HAR.out H.out).mono ?_);rintro e_ wn ⟨rfl,h⟩;replace H:=Lib.hid h;clear h;obtain⟨p0,p1,p2,p3,p4,p5,p6,p7,p8,p9,p10,p11,u0,u1,u2,u3,u4,u5,u6,u7,u8,u9,u10,u11⟩:=raw12 (b:=rb) (H.out);obtain⟨x0,x1,x2,x3,x4,x5,x6,x7,x8,x9,x10,x11,y0,y1,y2,y3,y4,y5,y6,y7,y8,y9,y10,y11⟩:=raw12 (b:=pb) ((H.out).p1));have hz:St W0 _ _ (.raw rb #[.int .i64 0,.int .i64 0,.bool false,.bool false,.bool false,.int .i64 0,.int .i64 0,.int .i64 0,.int .i64 0,.int .i64 0,.int .i64 0,.slice none 0 0] 101::_):=St.sets12 _ _ _ _ _ _ _ _ _ _ _ _ (H.out);refine bodyPost_ret (rc_cell_tmp rfl _ _ rb [.int .i64 0,.int .i64 0,.bool false,.bool false,.bool false,.int .i64 0,.int .i64 0,.int .i64 0,.int .i64 0,.int .i64 0,.int .i64 0,.slice none 0 0] _ rfl (rc_range hz) Tryz.underlying101 rfl (by kernel_rfl)) rfl ?_;exact⟨rfl,hz.drop.drop⟩
set_option maxHeartbeats 2000000 in
set_option maxRecDepth 100000 in
theorem asm_rows (said rows:Bs) (base ln leader sm at_ last first maxt prod epoch sq:Int) (cnt:Nat) (x:Nat) (hx:(crcMore 0#32 (said.drop 21++rows)).toNat=x) (hs1:21≤said.length) (hs2:said.length≤140737488355328) (hs3:rows.length≤140737488355328) (h0:(x:Int)=sm) (hat:chk at_=0) (har:R64 at_) (hcn:cnt≤2147483647) (e:Int) (hu:unp cnt ⟨rows,0,0⟩=.error e) (he:e≠0){W0 w:World}{K:Know}{L:List Res}(h:St W0 w K L):
  Calls Tryz.prog 134 #[.agg #[.int .i64 base,.int .i64 ln,.int .i64 leader,.int .i64 sm,.int .i64 at_,.int .i64 last,.int .i64 first,.int .i64 maxt,.int .i64 prod,.int .i64 epoch,.int .i64 sq,.int .i64 cnt],.string (bb said),.string (bb rows)] w fun en w'=>en=.returned (.tuple #[.agg #[.int .i64 0,.int .i64 0,.bool false,.bool false,.bool false,.int .i64 0,.int .i64 0,.int .i64 0,.int .i64 0,.int .i64 0,.int .i64 0,.slice none 0 0],.int .i64 e])∧St W0 w' K L:=by
 have gs:((x:Int)==sm)=true:=by rw[h0];exact beq_self_eq_true _
 have gs2:((x:Int) !=sm)=false:=by simp[bne,gs]
 clear h0;have gz:(e==0)=false:=by rw[beq_eq_false_iff_ne];exact he
 have HAT:=Lib.hid hat;have HAR:=Lib.hid har;have HCN:=Lib.hid hcn;have HU:=Lib.hid hu;have HEZ:=Lib.hid he;clear he hat har hcn hu;have g1:=h.allocRaw #[.int .i64 base,.int .i64 ln,.int .i64 leader,.int .i64 sm,.int .i64 at_,.int .i64 last,.int .i64 first,.int .i64 maxt,.int .i64 prod,.int .i64 epoch,.int .i64 sq,.int .i64 cnt] 163;have g2:=g1.allocRaw #[.int .i64 0,.int .i64 0,.bool false,.bool false,.bool false,.int .i64 0,.int .i64 0,.int .i64 0,.int .i64 0,.int .i64 0,.int .i64 0,.slice none 0 0] 101;obtain⟨pb,hpb⟩:∃b,w.heap.size=b:=⟨_,rfl⟩;obtain⟨rb,hrb⟩:∃b,pb+1=b:=⟨_,rfl⟩;simp only[World.size_alloc,hpb,hrb]at g2;have H:=Lib.hid g2;have HX:=Lib.hid hx;have HS1:=Lib.hid hs1;have HS2:=Lib.hid hs2;have HS3:=Lib.hid hs3;clear h g1 g2 hx hs1 hs2 hs3;go_enter Tryz.func134,Tryz.ntmps134;go_upto_region 1 with (fail);have hs:=H.out.drew;refine wp_region_held_drew (S:=fun w'=>w'.cell? ⟨pb,0,none⟩=some (.int .i64 base)∧w'.cell? ⟨pb,1,none⟩=some (.int .i64 ln)∧w'.cell? ⟨pb,2,none⟩=some (.int .i64 leader)∧w'.cell? ⟨pb,3,none⟩=some (.int .i64 sm)∧w'.cell? ⟨pb,4,none⟩=some (.int .i64 at_)∧w'.cell? ⟨pb,5,none⟩=some (.int .i64 last)∧w'.cell? ⟨pb,6,none⟩=some (.int .i64 first)∧w'.cell? ⟨pb,7,none⟩=some (.int .i64 maxt)∧w'.cell? ⟨pb,8,none⟩=some (.int .i64 prod)∧w'.cell? ⟨pb,9,none⟩=some (.int .i64 epoch)∧w'.cell? ⟨pb,10,none⟩=some (.int .i64 sq)∧w'.cell? ⟨pb,11,none⟩=some (.int .i64 cnt)) (by kernel_rfl) (let ⟨x0,x1,x2,x3,x4,x5,x6,x7,x8,x9,x10,x11,_⟩:=raw12 (b:=pb) (hs.p1);⟨x0,x1,x2,x3,x4,x5,x6,x7,x8,x9,x10,x11⟩) (fun hHeld=> ?_);refine tQ 0 ⟨some 12,.move (.tmp 1),9,_,_,none⟩ ?_;simp only[Act.put,sA,sB,sC];refine tQ 1 ⟨some 13,.move (.tmp 2),9,_,_,none⟩ ?_;simp only[Act.put,sA,sB,sC];refine tQ 3 ⟨some 15,.fieldAddr 163 (.tmp 3) 3,0,_,_,none⟩ ?_;simp only[Act.put,sA,sB,sC];refine tQ 4 ⟨some 16,.load 3 (.tmp 15),3,_,_,none⟩ ?_;simp only[Act.put,sA,sB,sC];refine wpAnyH_ready (rs:=[2]) (by kernel_rfl) (by simp) (AllReadyH.cons (o:=⟨some 14,.call {callee:=.value (.func 86),args:= #[.tmp 12,.tmp 13],argTypes:= #[9,9]},3,_,_,none⟩) rfl (fun KK hK=> ?_) AllReadyH.nil);go_simp;go_at_call 86;with_reducible refine(bat_sum said rows x HX.out HS1.out HS2.out HS3.out hs).mono ?_;rintro e wq ⟨rfl,hs⟩;refine hK.out _ _ (let ⟨x0,x1,x2,x3,x4,x5,x6,x7,x8,x9,x10,x11,_⟩:=raw12 (b:=pb) (hs.p1);⟨x0,x1,x2,x3,x4,x5,x6,x7,x8,x9,x10,x11⟩) (fun hHeld=> ?_);clear hK KK
 try simp only[Act.put,sA,sB,sC]
 refine tQ 5 ⟨some 17,.binOp .neq 3 (.tmp 14) (.tmp 16) 3,4,_,_,none⟩ ?_;simp only[Act.put,sA,sB,sC];refine wpAnyH_done (by kernel_rfl) ?_ _;clear hHeld;have H:=Lib.hid hs;clear hs;obtain⟨p0,p1,p2,p3,p4,p5,p6,p7,p8,p9,p10,p11,u0,u1,u2,u3,u4,u5,u6,u7,u8,u9,u10,u11⟩:=raw12 (b:=rb) (H.out);obtain⟨x0,x1,x2,x3,x4,x5,x6,x7,x8,x9,x10,x11,y0,y1,y2,y3,y4,y5,y6,y7,y8,y9,y10,y11⟩:=raw12 (b:=pb) ((H.out).p1)
 go_wp2_with (first
 |(go_at_call 194;(with_reducible refine(attr_checkE at_ 0 HAT.out HAR.out H.out).mono ?_);rintro e_ wn ⟨rfl,h⟩;replace H:=Lib.hid h;clear h;obtain⟨p0,p1,p2,p3,p4,p5,p6,p7,p8,p9,p10,p11,u0,u1,u2,u3,u4,u5,u6,u7,u8,u9,u10,u11⟩:=raw12 (b:=rb) (H.out);obtain⟨x0,x1,x2,x3,x4,x5,x6,x7,x8,x9,x10,x11,y0,y1,y2,y3,y4,y5,y6,y7,y8,y9,y10,y11⟩:=raw12 (b:=pb) ((H.out).p1))
 |(go_at_call 195;(with_reducible refine(bat_unpack_err rows cnt HCN.out HS3.out e HEZ.out HU.out H.out).mono ?_);rintro e_ wn ⟨rfl,h⟩;replace H:=Lib.hid h;clear h;obtain⟨p0,p1,p2,p3,p4,p5,p6,p7,p8,p9,p10,p11,u0,u1,u2,u3,u4,u5,u6,u7,u8,u9,u10,u11⟩:=raw12 (b:=rb) (H.out);obtain⟨x0,x1,x2,x3,x4,x5,x6,x7,x8,x9,x10,x11,y0,y1,y2,y3,y4,y5,y6,y7,y8,y9,y10,y11⟩:=raw12 (b:=pb) ((H.out).p1)))
 have hz:St W0 _ _ (.raw rb #[.int .i64 0,.int .i64 0,.bool false,.bool false,.bool false,.int .i64 0,.int .i64 0,.int .i64 0,.int .i64 0,.int .i64 0,.int .i64 0,.slice none 0 0] 101::_):=St.sets12 _ _ _ _ _ _ _ _ _ _ _ _ (H.out);refine bodyPost_ret (rc_cell_tmp rfl _ _ rb [.int .i64 0,.int .i64 0,.bool false,.bool false,.bool false,.int .i64 0,.int .i64 0,.int .i64 0,.int .i64 0,.int .i64 0,.int .i64 0,.slice none 0 0] _ rfl (rc_range hz) Tryz.underlying101 rfl (by kernel_rfl)) rfl ?_;exact⟨rfl,hz.drop.drop⟩
set_option maxHeartbeats 4000000 in
set_option maxRecDepth 100000 in
theorem asm_ok (said rows:Bs) (base ln leader sm at_ last first maxt prod epoch sq:Int) (cnt:Nat) (x:Nat) (hx:(crcMore 0#32 (said.drop 21++rows)).toNat=x) (hs1:21≤said.length) (hs2:said.length≤140737488355328) (hs3:rows.length≤140737488355328) (h0:(x:Int)=sm) (hat:chk at_=0) (har:R64 at_) (hcn:cnt≤2147483647) (hr1:rows.length≤1000000) (hmx:first≤9223372036854775807) (rs:List RecS) (hu:unp cnt ⟨rows,0,0⟩=.ok rs) (hbe:batErr (⟨base,leader,bitAt at_ 3,bitAt at_ 4,bitAt at_ 5,last,first,maxt,prod,epoch,sq,rs⟩:BatS)=0){W0 w:World}{K:Know}{L:List Res}(h:St W0 w K L):
  Calls Tryz.prog 134 #[.agg #[.int .i64 base,.int .i64 ln,.int .i64 leader,.int .i64 sm,.int .i64 at_,.int .i64 last,.int .i64 first,.int .i64 maxt,.int .i64 prod,.int .i64 epoch,.int .i64 sq,.int .i64 cnt],.string (bb said),.string (bb rows)] w fun en w'=>∃(q:Option Addr) (l:List (RecS×Value)) (cap:Nat),en=.returned (.tuple #[.agg #[.int .i64 base,.int .i64 leader,.bool (bitAt at_ 3),.bool (bitAt at_ 4),.bool (bitAt at_ 5),.int .i64 last,.int .i64 first,.int .i64 maxt,.int .i64 prod,.int .i64 epoch,.int .i64 sq,.slice q l.length cap],.int .i64 0])∧l.map (·.1)=rs∧St W0 w' (K.and (Know.recs (.slice q l.length cap) l)) L:=by
 have gs:((x:Int)==sm)=true:=by rw[h0];exact beq_self_eq_true _
 have gs2:((x:Int) !=sm)=false:=by simp[bne,gs]
 clear h0;have HAT:=Lib.hid hat;have HAR:=Lib.hid har;have HCN:=Lib.hid hcn;have HU:=Lib.hid hu;have HR1:=Lib.hid hr1;have HMX:=Lib.hid hmx;have HB0:=Lib.hid hbe;clear hat har hcn hu hr1 hmx hbe;have g1:=h.allocRaw #[.int .i64 base,.int .i64 ln,.int .i64 leader,.int .i64 sm,.int .i64 at_,.int .i64 last,.int .i64 first,.int .i64 maxt,.int .i64 prod,.int .i64 epoch,.int .i64 sq,.int .i64 cnt] 163;have g2:=g1.allocRaw #[.int .i64 0,.int .i64 0,.bool false,.bool false,.bool false,.int .i64 0,.int .i64 0,.int .i64 0,.int .i64 0,.int .i64 0,.int .i64 0,.slice none 0 0] 101;obtain⟨pb,hpb⟩:∃b,w.heap.size=b:=⟨_,rfl⟩;obtain⟨rb,hrb⟩:∃b,pb+1=b:=⟨_,rfl⟩;simp only[World.size_alloc,hpb,hrb]at g2;have H:=Lib.hid g2;have HX:=Lib.hid hx;have HS1:=Lib.hid hs1;have HS2:=Lib.hid hs2;have HS3:=Lib.hid hs3;clear h g1 g2 hx hs1 hs2 hs3;go_enter Tryz.func134,Tryz.ntmps134;go_upto_region 1 with (fail);have hs:=H.out.drew;refine wp_region_held_drew (S:=fun w'=>w'.cell? ⟨pb,0,none⟩=some (.int .i64 base)∧w'.cell? ⟨pb,1,none⟩=some (.int .i64 ln)∧w'.cell? ⟨pb,2,none⟩=some (.int .i64 leader)∧w'.cell? ⟨pb,3,none⟩=some (.int .i64 sm)∧w'.cell? ⟨pb,4,none⟩=some (.int .i64 at_)∧w'.cell? ⟨pb,5,none⟩=some (.int .i64 last)∧w'.cell? ⟨pb,6,none⟩=some (.int .i64 first)∧w'.cell? ⟨pb,7,none⟩=some (.int .i64 maxt)∧w'.cell? ⟨pb,8,none⟩=some (.int .i64 prod)∧w'.cell? ⟨pb,9,none⟩=some (.int .i64 epoch)∧w'.cell? ⟨pb,10,none⟩=some (.int .i64 sq)∧w'.cell? ⟨pb,11,none⟩=some (.int .i64 cnt)) (by kernel_rfl) (let ⟨x0,x1,x2,x3,x4,x5,x6,x7,x8,x9,x10,x11,_⟩:=raw12 (b:=pb) (hs.p1);⟨x0,x1,x2,x3,x4,x5,x6,x7,x8,x9,x10,x11⟩) (fun hHeld=> ?_);refine tQ 0 ⟨some 12,.move (.tmp 1),9,_,_,none⟩ ?_;simp only[Act.put,sA,sB,sC];refine tQ 1 ⟨some 13,.move (.tmp 2),9,_,_,none⟩ ?_;simp only[Act.put,sA,sB,sC];refine tQ 3 ⟨some 15,.fieldAddr 163 (.tmp 3) 3,0,_,_,none⟩ ?_;simp only[Act.put,sA,sB,sC];refine tQ 4 ⟨some 16,.load 3 (.tmp 15),3,_,_,none⟩ ?_;simp only[Act.put,sA,sB,sC];refine wpAnyH_ready (rs:=[2]) (by kernel_rfl) (by simp) (AllReadyH.cons (o:=⟨some 14,.call {callee:=.value (.func 86),args:= #[.tmp 12,.tmp 13],argTypes:= #[9,9]},3,_,_,none⟩) rfl (fun KK hK=> ?_) AllReadyH.nil);go_simp;go_at_call 86;with_reducible refine(bat_sum said rows x HX.out HS1.out HS2.out HS3.out hs).mono ?_;rintro e wq ⟨rfl,hs⟩;refine hK.out _ _ (let ⟨x0,x1,x2,x3,x4,x5,x6,x7,x8,x9,x10,x11,_⟩:=raw12 (b:=pb) (hs.p1);⟨x0,x1,x2,x3,x4,x5,x6,x7,x8,x9,x10,x11⟩) (fun hHeld=> ?_);clear hK KK
 try simp only[Act.put,sA,sB,sC]
 refine tQ 5 ⟨some 17,.binOp .neq 3 (.tmp 14) (.tmp 16) 3,4,_,_,none⟩ ?_;simp only[Act.put,sA,sB,sC];refine wpAnyH_done (by kernel_rfl) ?_ _;clear hHeld;have H:=Lib.hid hs;clear hs;obtain⟨p0,p1,p2,p3,p4,p5,p6,p7,p8,p9,p10,p11,u0,u1,u2,u3,u4,u5,u6,u7,u8,u9,u10,u11⟩:=raw12 (b:=rb) (H.out);obtain⟨x0,x1,x2,x3,x4,x5,x6,x7,x8,x9,x10,x11,y0,y1,y2,y3,y4,y5,y6,y7,y8,y9,y10,y11⟩:=raw12 (b:=pb) ((H.out).p1)
 go_upto_region 11 with (first
 |(go_at_call 194;(with_reducible refine(attr_checkE at_ 0 HAT.out HAR.out H.out).mono ?_);rintro e_ wn ⟨rfl,h⟩;replace H:=Lib.hid h;clear h;obtain⟨p0,p1,p2,p3,p4,p5,p6,p7,p8,p9,p10,p11,u0,u1,u2,u3,u4,u5,u6,u7,u8,u9,u10,u11⟩:=raw12 (b:=rb) (H.out);obtain⟨x0,x1,x2,x3,x4,x5,x6,x7,x8,x9,x10,x11,y0,y1,y2,y3,y4,y5,y6,y7,y8,y9,y10,y11⟩:=raw12 (b:=pb) ((H.out).p1))
 |(go_at_call 195;(with_reducible refine(bat_unpack_ok rows cnt HCN.out HS3.out rs HU.out H.out).mono ?_);rintro e_ wn ⟨rv,l,rfl,hlr,h⟩;obtain⟨q,cap,hrv⟩:=recs_form (Know.has_right (Know.has_refl _)) h;subst hrv;obtain⟨hff,hfl⟩:=unp_fitB HU.out hlr HR1.out;have HFT:=Lib.hid hff;have HLL:=Lib.hid hfl;have HLR:=Lib.hid hlr;clear hff hfl hlr;obtain⟨p0,p1,p2,p3,p4,p5,p6,p7,p8,p9,p10,p11,u0,u1,u2,u3,u4,u5,u6,u7,u8,u9,u10,u11⟩:=raw12 (b:=rb) (h);obtain⟨x0,x1,x2,x3,x4,x5,x6,x7,x8,x9,x10,x11,y0,y1,y2,y3,y4,y5,y6,y7,y8,y9,y10,y11⟩:=raw12 (b:=pb) ((h).p1);have h:=h.allocRaw #[.int .i64 base,.int .i64 leader,.bool false,.bool false,.bool false,.int .i64 last,.int .i64 first,.int .i64 maxt,.int .i64 prod,.int .i64 epoch,.int .i64 sq,.slice q l.length cap] 101;obtain⟨bB,hbB⟩:∃b,wn.heap.size=b:=⟨_,rfl⟩;rw[hbB]at h;obtain⟨x0,x1,x2,x3,x4,x5,x6,x7,x8,x9,x10,x11,y0,y1,y2,y3,y4,y5,y6,y7,y8,y9,y10,y11⟩:=raw12 (b:=pb) (h.p2);obtain⟨a0,a1,a2,a3,a4,a5,a6,a7,a8,a9,a10,a11,f0,f1,f2,f3,f4,f5,f6,f7,f8,f9,f10,f11⟩:=raw12 (b:=bB) (h);replace H:=Lib.hid h;clear h)
 |(go_at_call 196;(with_reducible refine(attr_readE at_ H.out).mono ?_);rintro e_ wn ⟨rfl,h⟩;obtain⟨a0,a1,a2,a3,a4,a5,a6,a7,a8,a9,a10,a11,f0,f1,f2,f3,f4,f5,f6,f7,f8,f9,f10,f11⟩:=raw12 (b:=bB) (h);replace H:=Lib.hid h;clear h))
 have HBE:=Lib.hid (show batErr ⟨base,leader,bitAt at_ 3,bitAt at_ 4,bitAt at_ 5,last,first,maxt,prod,epoch,sq,l.map (·.1)⟩=0 by rw[HLR.out];exact HB0.out);have hs:St W0 _ _ (.raw bB #[.int .i64 base,.int .i64 leader,.bool (bitAt at_ 3),.bool (bitAt at_ 4),.bool (bitAt at_ 5),.int .i64 last,.int .i64 first,.int .i64 maxt,.int .i64 prod,.int .i64 epoch,.int .i64 sq,.slice q l.length cap] 101::_):=((H.out.rawSet 2 (.bool (bitAt at_ 3))).rawSet 3 (.bool (bitAt at_ 4))).rawSet 4 (.bool (bitAt at_ 5));have hs:=hs.drew;clear x0 y0 a0 f0 x1 y1 a1 f1 x2 y2 a2 f2 x3 y3 a3 f3 x4 y4 a4 f4 x5 y5 a5 f5 x6 y6 a6 f6 x7 y7 a7 f7 x8 y8 a8 f8 x9 y9 a9 f9 x10 y10 a10 f10 x11 y11 a11 f11;refine wp_region_held_drew (S:=fun w'=>w'.cell? ⟨bB,0,none⟩=some (.int .i64 base)∧w'.cell? ⟨bB,1,none⟩=some (.int .i64 leader)∧w'.cell? ⟨bB,2,none⟩=some (.bool (bitAt at_ 3))∧w'.cell? ⟨bB,3,none⟩=some (.bool (bitAt at_ 4))∧w'.cell? ⟨bB,4,none⟩=some (.bool (bitAt at_ 5))∧w'.cell? ⟨bB,5,none⟩=some (.int .i64 last)∧w'.cell? ⟨bB,6,none⟩=some (.int .i64 first)∧w'.cell? ⟨bB,7,none⟩=some (.int .i64 maxt)∧w'.cell? ⟨bB,8,none⟩=some (.int .i64 prod)∧w'.cell? ⟨bB,9,none⟩=some (.int .i64 epoch)∧w'.cell? ⟨bB,10,none⟩=some (.int .i64 sq)∧w'.cell? ⟨bB,11,none⟩=some (.slice q l.length cap)) (by kernel_rfl) (let ⟨x0,x1,x2,x3,x4,x5,x6,x7,x8,x9,x10,x11,_⟩:=raw12 (b:=bB) (hs);⟨x0,x1,x2,x3,x4,x5,x6,x7,x8,x9,x10,x11⟩) (fun hHeld=> ?_);refine tQ 0 ⟨some 65,.load 101 (.tmp 11),101,_,_,none⟩ ?_;simp only[Act.put,sA,sB,sC];refine tQ 1 ⟨some 66,.load 101 (.tmp 11),101,_,_,none⟩ ?_;simp only[Act.put,sA,sB,sC];refine wpAnyH_ready (rs:=[2]) (by kernel_rfl) (by simp) (AllReadyH.cons (o:=⟨some 67,.call {callee:=.value (.func 82),args:= #[.tmp 66],argTypes:= #[101]},41,_,_,none⟩) rfl (fun KK hK=> ?_) AllReadyH.nil);go_simp;go_at_call 82;with_reducible refine(bat_check base leader (bitAt at_ 3) (bitAt at_ 4) (bitAt at_ 5) last first maxt prod epoch sq l q cap 0 HBE.out HMX.out HFT.out HLL.out (Know.has_right (Know.has_refl _)) hs).mono ?_;rintro e wq ⟨rfl,hs⟩;refine hK.out _ _ (let ⟨x0,x1,x2,x3,x4,x5,x6,x7,x8,x9,x10,x11,_⟩:=raw12 (b:=bB) (hs);⟨x0,x1,x2,x3,x4,x5,x6,x7,x8,x9,x10,x11⟩) (fun hHeld=> ?_);clear hK KK
 try simp only[Act.put,sA,sB,sC]
 refine wpAnyH_ready (rs:=[3]) (by kernel_rfl) (by simp) (AllReadyH.cons (o:=⟨none,.store 101 (.tmp 6) (.tmp 65),0,_,_,none⟩) rfl (fun KK hK=> ?_) AllReadyH.nil);have hs:=hs.p1;rw[if_pos (by rfl)];refine wp_store_mid 101 (.tmp 6) (.tmp 65) rfl rb 0 #[.int .i64 base,.int .i64 leader,.bool (bitAt at_ 3),.bool (bitAt at_ 4),.bool (bitAt at_ 5),.int .i64 last,.int .i64 first,.int .i64 maxt,.int .i64 prod,.int .i64 epoch,.int .i64 sq,.slice q l.length cap] (by rfl) (by rfl) hs.there (by kernel_rfl) (by simp[Value.oneCell']) ?_;obtain⟨wz,ez,hs⟩:=hs.storeEx #[.int .i64 base,.int .i64 leader,.bool (bitAt at_ 3),.bool (bitAt at_ 4),.bool (bitAt at_ 5),.int .i64 last,.int .i64 first,.int .i64 maxt,.int .i64 prod,.int .i64 epoch,.int .i64 sq,.slice q l.length cap];rw[ez];clear ez;refine hK.out _ _ (let ⟨x0,x1,x2,x3,x4,x5,x6,x7,x8,x9,x10,x11,_⟩:=raw12 (b:=bB) (hs.p1);⟨x0,x1,x2,x3,x4,x5,x6,x7,x8,x9,x10,x11⟩) (fun hHeld=> ?_);clear hK KK
 try simp only[Act.put,sA,sB,sC]
 refine tQ 4 ⟨some 7,.assign (.tmp 67),41,_,_,none⟩ ?_;simp only[Act.put,sA,sB,sC];refine wpAnyH_done (by kernel_rfl) ?_ _;clear hHeld;rw[setAll_all]at hs;rotate_left
 · rfl
 have hz:St W0 _ _ (.raw rb #[.int .i64 base,.int .i64 leader,.bool (bitAt at_ 3),.bool (bitAt at_ 4),.bool (bitAt at_ 5),.int .i64 last,.int .i64 first,.int .i64 maxt,.int .i64 prod,.int .i64 epoch,.int .i64 sq,.slice q l.length cap] 101::_):=hs;go_wp2_with fail;refine bodyPost_ret (rc_cell_tmp rfl _ _ rb [.int .i64 base,.int .i64 leader,.bool (bitAt at_ 3),.bool (bitAt at_ 4),.bool (bitAt at_ 5),.int .i64 last,.int .i64 first,.int .i64 maxt,.int .i64 prod,.int .i64 epoch,.int .i64 sq,.slice q l.length cap] _ rfl (rc_range hz) Tryz.underlying101 rfl (by kernel_rfl)) rfl ?_;exact⟨q,l,cap,rfl,HLR.out,hz.drop.drop.drop⟩

set_option maxHeartbeats 4000000 in
set_option maxRecDepth 100000 in
theorem asm_bad (said rows:Bs) (base ln leader sm at_ last first maxt prod epoch sq:Int) (cnt:Nat) (x:Nat) (hx:(crcMore 0#32 (said.drop 21++rows)).toNat=x) (hs1:21≤said.length) (hs2:said.length≤140737488355328) (hs3:rows.length≤140737488355328) (h0:(x:Int)=sm) (hat:chk at_=0) (har:R64 at_) (hcn:cnt≤2147483647) (hr1:rows.length≤1000000) (hmx:first≤9223372036854775807) (rs:List RecS) (hu:unp cnt ⟨rows,0,0⟩=.ok rs) (e:Int) (hbe:batErr (⟨base,leader,bitAt at_ 3,bitAt at_ 4,bitAt at_ 5,last,first,maxt,prod,epoch,sq,rs⟩:BatS)=e){W0 w:World}{K:Know}{L:List Res}(h:St W0 w K L):
  Calls Tryz.prog 134 #[.agg #[.int .i64 base,.int .i64 ln,.int .i64 leader,.int .i64 sm,.int .i64 at_,.int .i64 last,.int .i64 first,.int .i64 maxt,.int .i64 prod,.int .i64 epoch,.int .i64 sq,.int .i64 cnt],.string (bb said),.string (bb rows)] w fun en w'=>∃(l:List (RecS×Value)) (q:Option Addr) (cap:Nat),en=.returned (.tuple #[.agg #[.int .i64 base,.int .i64 leader,.bool (bitAt at_ 3),.bool (bitAt at_ 4),.bool (bitAt at_ 5),.int .i64 last,.int .i64 first,.int .i64 maxt,.int .i64 prod,.int .i64 epoch,.int .i64 sq,.slice q l.length cap],.int .i64 e])∧St W0 w' K L:=by
 have gs:((x:Int)==sm)=true:=by rw[h0];exact beq_self_eq_true _
 have gs2:((x:Int) !=sm)=false:=by simp[bne,gs]
 clear h0;have HAT:=Lib.hid hat;have HAR:=Lib.hid har;have HCN:=Lib.hid hcn;have HU:=Lib.hid hu;have HR1:=Lib.hid hr1;have HMX:=Lib.hid hmx;have HB0:=Lib.hid hbe;clear hat har hcn hu hr1 hmx hbe;have g1:=h.allocRaw #[.int .i64 base,.int .i64 ln,.int .i64 leader,.int .i64 sm,.int .i64 at_,.int .i64 last,.int .i64 first,.int .i64 maxt,.int .i64 prod,.int .i64 epoch,.int .i64 sq,.int .i64 cnt] 163;have g2:=g1.allocRaw #[.int .i64 0,.int .i64 0,.bool false,.bool false,.bool false,.int .i64 0,.int .i64 0,.int .i64 0,.int .i64 0,.int .i64 0,.int .i64 0,.slice none 0 0] 101;obtain⟨pb,hpb⟩:∃b,w.heap.size=b:=⟨_,rfl⟩;obtain⟨rb,hrb⟩:∃b,pb+1=b:=⟨_,rfl⟩;simp only[World.size_alloc,hpb,hrb]at g2;have H:=Lib.hid g2;have HX:=Lib.hid hx;have HS1:=Lib.hid hs1;have HS2:=Lib.hid hs2;have HS3:=Lib.hid hs3;clear h g1 g2 hx hs1 hs2 hs3;go_enter Tryz.func134,Tryz.ntmps134;go_upto_region 1 with (fail);have hs:=H.out.drew;refine wp_region_held_drew (S:=fun w'=>w'.cell? ⟨pb,0,none⟩=some (.int .i64 base)∧w'.cell? ⟨pb,1,none⟩=some (.int .i64 ln)∧w'.cell? ⟨pb,2,none⟩=some (.int .i64 leader)∧w'.cell? ⟨pb,3,none⟩=some (.int .i64 sm)∧w'.cell? ⟨pb,4,none⟩=some (.int .i64 at_)∧w'.cell? ⟨pb,5,none⟩=some (.int .i64 last)∧w'.cell? ⟨pb,6,none⟩=some (.int .i64 first)∧w'.cell? ⟨pb,7,none⟩=some (.int .i64 maxt)∧w'.cell? ⟨pb,8,none⟩=some (.int .i64 prod)∧w'.cell? ⟨pb,9,none⟩=some (.int .i64 epoch)∧w'.cell? ⟨pb,10,none⟩=some (.int .i64 sq)∧w'.cell? ⟨pb,11,none⟩=some (.int .i64 cnt)) (by kernel_rfl) (let ⟨x0,x1,x2,x3,x4,x5,x6,x7,x8,x9,x10,x11,_⟩:=raw12 (b:=pb) (hs.p1);⟨x0,x1,x2,x3,x4,x5,x6,x7,x8,x9,x10,x11⟩) (fun hHeld=> ?_);refine tQ 0 ⟨some 12,.move (.tmp 1),9,_,_,none⟩ ?_;simp only[Act.put,sA,sB,sC];refine tQ 1 ⟨some 13,.move (.tmp 2),9,_,_,none⟩ ?_;simp only[Act.put,sA,sB,sC];refine tQ 3 ⟨some 15,.fieldAddr 163 (.tmp 3) 3,0,_,_,none⟩ ?_;simp only[Act.put,sA,sB,sC];refine tQ 4 ⟨some 16,.load 3 (.tmp 15),3,_,_,none⟩ ?_;simp only[Act.put,sA,sB,sC];refine wpAnyH_ready (rs:=[2]) (by kernel_rfl) (by simp) (AllReadyH.cons (o:=⟨some 14,.call {callee:=.value (.func 86),args:= #[.tmp 12,.tmp 13],argTypes:= #[9,9]},3,_,_,none⟩) rfl (fun KK hK=> ?_) AllReadyH.nil);go_simp;go_at_call 86;with_reducible refine(bat_sum said rows x HX.out HS1.out HS2.out HS3.out hs).mono ?_;rintro e wq ⟨rfl,hs⟩;refine hK.out _ _ (let ⟨x0,x1,x2,x3,x4,x5,x6,x7,x8,x9,x10,x11,_⟩:=raw12 (b:=pb) (hs.p1);⟨x0,x1,x2,x3,x4,x5,x6,x7,x8,x9,x10,x11⟩) (fun hHeld=> ?_);clear hK KK
 try simp only[Act.put,sA,sB,sC]
 refine tQ 5 ⟨some 17,.binOp .neq 3 (.tmp 14) (.tmp 16) 3,4,_,_,none⟩ ?_;simp only[Act.put,sA,sB,sC];refine wpAnyH_done (by kernel_rfl) ?_ _;clear hHeld;have H:=Lib.hid hs;clear hs;obtain⟨p0,p1,p2,p3,p4,p5,p6,p7,p8,p9,p10,p11,u0,u1,u2,u3,u4,u5,u6,u7,u8,u9,u10,u11⟩:=raw12 (b:=rb) (H.out);obtain⟨x0,x1,x2,x3,x4,x5,x6,x7,x8,x9,x10,x11,y0,y1,y2,y3,y4,y5,y6,y7,y8,y9,y10,y11⟩:=raw12 (b:=pb) ((H.out).p1)
 go_upto_region 11 with (first
 |(go_at_call 194;(with_reducible refine(attr_checkE at_ 0 HAT.out HAR.out H.out).mono ?_);rintro e_ wn ⟨rfl,h⟩;replace H:=Lib.hid h;clear h;obtain⟨p0,p1,p2,p3,p4,p5,p6,p7,p8,p9,p10,p11,u0,u1,u2,u3,u4,u5,u6,u7,u8,u9,u10,u11⟩:=raw12 (b:=rb) (H.out);obtain⟨x0,x1,x2,x3,x4,x5,x6,x7,x8,x9,x10,x11,y0,y1,y2,y3,y4,y5,y6,y7,y8,y9,y10,y11⟩:=raw12 (b:=pb) ((H.out).p1))
 |(go_at_call 195;(with_reducible refine(bat_unpack_ok rows cnt HCN.out HS3.out rs HU.out H.out).mono ?_);rintro e_ wn ⟨rv,l,rfl,hlr,h⟩;obtain⟨q,cap,hrv⟩:=recs_form (Know.has_right (Know.has_refl _)) h;subst hrv;obtain⟨hff,hfl⟩:=unp_fitB HU.out hlr HR1.out;have HFT:=Lib.hid hff;have HLL:=Lib.hid hfl;have HLR:=Lib.hid hlr;clear hff hfl hlr;obtain⟨p0,p1,p2,p3,p4,p5,p6,p7,p8,p9,p10,p11,u0,u1,u2,u3,u4,u5,u6,u7,u8,u9,u10,u11⟩:=raw12 (b:=rb) (h);obtain⟨x0,x1,x2,x3,x4,x5,x6,x7,x8,x9,x10,x11,y0,y1,y2,y3,y4,y5,y6,y7,y8,y9,y10,y11⟩:=raw12 (b:=pb) ((h).p1);have h:=h.allocRaw #[.int .i64 base,.int .i64 leader,.bool false,.bool false,.bool false,.int .i64 last,.int .i64 first,.int .i64 maxt,.int .i64 prod,.int .i64 epoch,.int .i64 sq,.slice q l.length cap] 101;obtain⟨bB,hbB⟩:∃b,wn.heap.size=b:=⟨_,rfl⟩;rw[hbB]at h;obtain⟨x0,x1,x2,x3,x4,x5,x6,x7,x8,x9,x10,x11,y0,y1,y2,y3,y4,y5,y6,y7,y8,y9,y10,y11⟩:=raw12 (b:=pb) (h.p2);obtain⟨a0,a1,a2,a3,a4,a5,a6,a7,a8,a9,a10,a11,f0,f1,f2,f3,f4,f5,f6,f7,f8,f9,f10,f11⟩:=raw12 (b:=bB) (h);replace H:=Lib.hid h;clear h)
 |(go_at_call 196;(with_reducible refine(attr_readE at_ H.out).mono ?_);rintro e_ wn ⟨rfl,h⟩;obtain⟨a0,a1,a2,a3,a4,a5,a6,a7,a8,a9,a10,a11,f0,f1,f2,f3,f4,f5,f6,f7,f8,f9,f10,f11⟩:=raw12 (b:=bB) (h);replace H:=Lib.hid h;clear h))
 have HBE:=Lib.hid (show batErr ⟨base,leader,bitAt at_ 3,bitAt at_ 4,bitAt at_ 5,last,first,maxt,prod,epoch,sq,l.map (·.1)⟩=e by rw[HLR.out];exact HB0.out);have hs:St W0 _ _ (.raw bB #[.int .i64 base,.int .i64 leader,.bool (bitAt at_ 3),.bool (bitAt at_ 4),.bool (bitAt at_ 5),.int .i64 last,.int .i64 first,.int .i64 maxt,.int .i64 prod,.int .i64 epoch,.int .i64 sq,.slice q l.length cap] 101::_):=((H.out.rawSet 2 (.bool (bitAt at_ 3))).rawSet 3 (.bool (bitAt at_ 4))).rawSet 4 (.bool (bitAt at_ 5));have hs:=hs.drew;clear x0 y0 a0 f0 x1 y1 a1 f1 x2 y2 a2 f2 x3 y3 a3 f3 x4 y4 a4 f4 x5 y5 a5 f5 x6 y6 a6 f6 x7 y7 a7 f7 x8 y8 a8 f8 x9 y9 a9 f9 x10 y10 a10 f10 x11 y11 a11 f11;refine wp_region_held_drew (S:=fun w'=>w'.cell? ⟨bB,0,none⟩=some (.int .i64 base)∧w'.cell? ⟨bB,1,none⟩=some (.int .i64 leader)∧w'.cell? ⟨bB,2,none⟩=some (.bool (bitAt at_ 3))∧w'.cell? ⟨bB,3,none⟩=some (.bool (bitAt at_ 4))∧w'.cell? ⟨bB,4,none⟩=some (.bool (bitAt at_ 5))∧w'.cell? ⟨bB,5,none⟩=some (.int .i64 last)∧w'.cell? ⟨bB,6,none⟩=some (.int .i64 first)∧w'.cell? ⟨bB,7,none⟩=some (.int .i64 maxt)∧w'.cell? ⟨bB,8,none⟩=some (.int .i64 prod)∧w'.cell? ⟨bB,9,none⟩=some (.int .i64 epoch)∧w'.cell? ⟨bB,10,none⟩=some (.int .i64 sq)∧w'.cell? ⟨bB,11,none⟩=some (.slice q l.length cap)) (by kernel_rfl) (let ⟨x0,x1,x2,x3,x4,x5,x6,x7,x8,x9,x10,x11,_⟩:=raw12 (b:=bB) (hs);⟨x0,x1,x2,x3,x4,x5,x6,x7,x8,x9,x10,x11⟩) (fun hHeld=> ?_);refine tQ 0 ⟨some 65,.load 101 (.tmp 11),101,_,_,none⟩ ?_;simp only[Act.put,sA,sB,sC];refine tQ 1 ⟨some 66,.load 101 (.tmp 11),101,_,_,none⟩ ?_;simp only[Act.put,sA,sB,sC];refine wpAnyH_ready (rs:=[2]) (by kernel_rfl) (by simp) (AllReadyH.cons (o:=⟨some 67,.call {callee:=.value (.func 82),args:= #[.tmp 66],argTypes:= #[101]},41,_,_,none⟩) rfl (fun KK hK=> ?_) AllReadyH.nil);go_simp;go_at_call 82;with_reducible refine(bat_check base leader (bitAt at_ 3) (bitAt at_ 4) (bitAt at_ 5) last first maxt prod epoch sq l q cap e HBE.out HMX.out HFT.out HLL.out (Know.has_right (Know.has_refl _)) hs).mono ?_;rintro e wq ⟨rfl,hs⟩;refine hK.out _ _ (let ⟨x0,x1,x2,x3,x4,x5,x6,x7,x8,x9,x10,x11,_⟩:=raw12 (b:=bB) (hs);⟨x0,x1,x2,x3,x4,x5,x6,x7,x8,x9,x10,x11⟩) (fun hHeld=> ?_);clear hK KK
 try simp only[Act.put,sA,sB,sC]
 refine wpAnyH_ready (rs:=[3]) (by kernel_rfl) (by simp) (AllReadyH.cons (o:=⟨none,.store 101 (.tmp 6) (.tmp 65),0,_,_,none⟩) rfl (fun KK hK=> ?_) AllReadyH.nil);have hs:=hs.p1;rw[if_pos (by rfl)];refine wp_store_mid 101 (.tmp 6) (.tmp 65) rfl rb 0 #[.int .i64 base,.int .i64 leader,.bool (bitAt at_ 3),.bool (bitAt at_ 4),.bool (bitAt at_ 5),.int .i64 last,.int .i64 first,.int .i64 maxt,.int .i64 prod,.int .i64 epoch,.int .i64 sq,.slice q l.length cap] (by rfl) (by rfl) hs.there (by kernel_rfl) (by simp[Value.oneCell']) ?_;obtain⟨wz,ez,hs⟩:=hs.storeEx #[.int .i64 base,.int .i64 leader,.bool (bitAt at_ 3),.bool (bitAt at_ 4),.bool (bitAt at_ 5),.int .i64 last,.int .i64 first,.int .i64 maxt,.int .i64 prod,.int .i64 epoch,.int .i64 sq,.slice q l.length cap];rw[ez];clear ez;refine hK.out _ _ (let ⟨x0,x1,x2,x3,x4,x5,x6,x7,x8,x9,x10,x11,_⟩:=raw12 (b:=bB) (hs.p1);⟨x0,x1,x2,x3,x4,x5,x6,x7,x8,x9,x10,x11⟩) (fun hHeld=> ?_);clear hK KK
 try simp only[Act.put,sA,sB,sC]
 refine tQ 4 ⟨some 7,.assign (.tmp 67),41,_,_,none⟩ ?_;simp only[Act.put,sA,sB,sC];refine wpAnyH_done (by kernel_rfl) ?_ _;clear hHeld;rw[setAll_all]at hs;rotate_left
 · rfl
 have hz:St W0 _ _ (.raw rb #[.int .i64 base,.int .i64 leader,.bool (bitAt at_ 3),.bool (bitAt at_ 4),.bool (bitAt at_ 5),.int .i64 last,.int .i64 first,.int .i64 maxt,.int .i64 prod,.int .i64 epoch,.int .i64 sq,.slice q l.length cap] 101::_):=hs;go_wp2_with fail;refine bodyPost_ret (rc_cell_tmp rfl _ _ rb [.int .i64 base,.int .i64 leader,.bool (bitAt at_ 3),.bool (bitAt at_ 4),.bool (bitAt at_ 5),.int .i64 last,.int .i64 first,.int .i64 maxt,.int .i64 prod,.int .i64 epoch,.int .i64 sq,.slice q l.length cap] _ rfl (rc_range hz) Tryz.underlying101 rfl (by kernel_rfl)) rfl ?_;exact⟨l,q,cap,rfl,hz.drop.drop.drop.know (Know.has_left (Know.has_refl _))⟩
theorem asm_err (x:PreS) (said rows:Bs) (hs1:21≤said.length) (hs2:said.length≤140737488355328) (hr1:rows.length≤1000000) (har:R64 x.attr) (hc0:0≤x.count) (hcn:x.count≤2147483647) (hmx:x.first≤9223372036854775807) (e:Int) (ha:asmB x said rows=.error e){W0 w:World}{K:Know}{L:List Res}(h:St W0 w K L):
   Calls Tryz.prog 134 #[.agg #[.int .i64 x.base,.int .i64 x.len,.int .i64 x.leader,.int .i64 x.sum,.int .i64 x.attr,.int .i64 x.last,.int .i64 x.first,.int .i64 x.maxt,.int .i64 x.prod,.int .i64 x.epoch,.int .i64 x.seq,.int .i64 x.count],.string (bb said),.string (bb rows)] w fun en w'=>∃(b:BatS) (q:Option Addr) (n cap:Nat),en=.returned (.tuple #[.agg #[.int .i64 b.base,.int .i64 b.leader,.bool b.app,.bool b.txn,.bool b.ctl,.int .i64 b.last,.int .i64 b.first,.int .i64 b.maxt,.int .i64 b.prod,.int .i64 b.epoch,.int .i64 b.seq,.slice q n cap],.int .i64 e])∧St W0 w' K L:=by
 obtain⟨base,len,leader,sum,attr,last,first,maxt,prod,epoch,seq,count⟩:=x;simp only at har hc0 hcn hmx;obtain⟨cnt,rfl⟩:∃n:Nat,count=(n:Int):=⟨count.toNat,by omega⟩;have hr:rows.length≤140737488355328:=by omega
 have hcn:cnt≤2147483647:=by omega
 unfold asmB at ha;simp only[Int.toNat_natCast]at ha
 by_cases c1:(((crcMore 0#32 (said.drop 21++rows)).toNat:Nat):Int)≠sum
 · rw[if_pos c1]at ha
   cases ha
   exact(asm_sum said rows base len leader sum attr last first maxt prod epoch seq cnt _ rfl hs1 hs2 hr c1 h).mono fun _ _ hh=>⟨BatS.zero,none,0,0,hh.1,hh.2⟩
 rw[if_neg c1]at ha;have c1:=Classical.not_not.1 c1
 by_cases c2:chk attr≠0
 · rw[if_pos c2]at ha
   cases ha
   exact(asm_attr said rows base len leader sum attr last first maxt prod epoch seq cnt _ rfl hs1 hs2 hr c1 _ rfl har c2 h).mono fun _ _ hh=>⟨BatS.zero,none,0,0,hh.1,hh.2⟩
 rw[if_neg c2]at ha;have c2:=Classical.not_not.1 c2
 cases hu:unp cnt ⟨rows,0,0⟩with
 |error f=>
   rw[hu]at ha;simp only at ha
   cases ha
   exact(asm_rows said rows base len leader sum attr last first maxt prod epoch seq cnt _ rfl hs1 hs2 hr c1 c2 har hcn _ hu (unp_ne _ _ _ hu) h).mono fun _ _ hh=>⟨BatS.zero,none,0,0,hh.1,hh.2⟩
 |ok rs=>
   rw[hu]at ha;simp only at ha
   by_cases c3:batErr ⟨base,leader,bitAt attr 3,bitAt attr 4,bitAt attr 5,last,first,maxt,prod,epoch,seq,rs⟩=0
   · rw[if_pos c3]at ha;cases ha
   rw[if_neg c3]at ha
   cases ha
   exact(asm_bad said rows base len leader sum attr last first maxt prod epoch seq cnt _ rfl hs1 hs2 hr c1 c2 har hcn hr1 hmx rs hu _ rfl h).mono fun _ _ ⟨l,q,cap,hh,hs⟩=>⟨⟨base,leader,bitAt attr 3,bitAt attr 4,bitAt attr 5,last,first,maxt,prod,epoch,seq,rs⟩,q,l.length,cap,hh,hs⟩
theorem asm_good (x:PreS) (said rows:Bs) (hs1:21≤said.length) (hs2:said.length≤140737488355328) (hr1:rows.length≤1000000) (har:R64 x.attr) (hc0:0≤x.count) (hcn:x.count≤2147483647) (hmx:x.first≤9223372036854775807) (b:BatS) (ha:asmB x said rows=.ok b){W0 w:World}{K:Know}{L:List Res}(h:St W0 w K L):
  Calls Tryz.prog 134 #[.agg #[.int .i64 x.base,.int .i64 x.len,.int .i64 x.leader,.int .i64 x.sum,.int .i64 x.attr,.int .i64 x.last,.int .i64 x.first,.int .i64 x.maxt,.int .i64 x.prod,.int .i64 x.epoch,.int .i64 x.seq,.int .i64 x.count],.string (bb said),.string (bb rows)] w fun en w'=>∃(q:Option Addr) (l:List (RecS×Value)) (cap:Nat),en=.returned (.tuple #[.agg #[.int .i64 b.base,.int .i64 b.leader,.bool b.app,.bool b.txn,.bool b.ctl,.int .i64 b.last,.int .i64 b.first,.int .i64 b.maxt,.int .i64 b.prod,.int .i64 b.epoch,.int .i64 b.seq,.slice q l.length cap],.int .i64 0])∧l.map (·.1)=b.recs∧St W0 w' (K.and (Know.recs (.slice q l.length cap) l)) L:=by
 obtain⟨c1,c2,rs,hu,c3,rfl⟩:=asmB_ok ha;obtain⟨base,len,leader,sum,attr,last,first,maxt,prod,epoch,seq,count⟩:=x;simp only at har hc0 hcn hmx c1 c2 hu c3;obtain⟨cnt,rfl⟩:∃n:Nat,count=(n:Int):=⟨count.toNat,by omega⟩;rw[Int.toNat_natCast]at hu;exact asm_ok said rows base len leader sum attr last first maxt prod epoch seq cnt _ rfl hs1 hs2 (by omega) c1 c2 har (by omega) hr1 hmx rs hu c3 h
set_option maxHeartbeats 2000000 in
set_option maxRecDepth 100000 in
theorem bat_read_pre (p:Nat) (i i1 i2 j:InS) (said:Bs) (x:PreS) (e e2:Int) (hxl: -2147483648≤x.len∧x.len<2147483648) (hsl:said.length≤140737488355328) (ht1:i.take 61=(said,i1)) (hp:(⟨said,0,0⟩:InS).pre=(x,j)) (hj:j.err=e) (he:e≠0) (hf:i1.fail e=i2) (he2:i2.err=e2) (he3:e2≠0){W0 w:World}{K:Know}{L:List Res}(h:St W0 w K (.inp p i::L)):
  Calls Tryz.prog 81 #[inPtr p] w fun en w'=>en=.returned (.agg #[.int .i64 0,.int .i64 0,.bool false,.bool false,.bool false,.int .i64 0,.int .i64 0,.int .i64 0,.int .i64 0,.int .i64 0,.int .i64 0,.slice none 0 0])∧St W0 w' K (.inp p i2::L):=by
 have g1:=h.allocRaw #[.int .i64 0,.int .i64 0,.bool false,.bool false,.bool false,.int .i64 0,.int .i64 0,.int .i64 0,.int .i64 0,.int .i64 0,.int .i64 0,.slice none 0 0] 101;obtain⟨rb,hrb⟩:∃b,w.heap.size=b:=⟨_,rfl⟩;rw[hrb]at g1;have H:=Lib.hid g1;have HT1:=Lib.hid ht1;have HSL:=Lib.hid hsl;have HP:=Lib.hid hp;have HJ:=Lib.hid hj;have HF:=Lib.hid hf;have HT2:=Lib.hid (show i2.take (x.len - 49)=([],i2)from InS.take_err (by rw[he2];exact he3));have HE3:=Lib.hid he2;have gz:(e==0)=false:=by rw[beq_eq_false_iff_ne];exact he
 have gz2:(e !=0)=true:=by rw[bne_iff_ne];exact he
 have gy:(e2==0)=false:=by rw[beq_eq_false_iff_ne];exact he3
 have gy2:(e2 !=0)=true:=by rw[bne_iff_ne];exact he3
 have f1:wrap64 (x.len - 49)=x.len - 49:=by unfold wrap64;omega
 have f2:IntKind.i64.wrap (x.len - 49)=x.len - 49:=IntWalk.i64_in _ (by omega);clear h g1 ht1 hsl hp hj hf he2 he he3 hxl;go_enter Tryz.func81,Tryz.ntmps81
 go_wp2_with (first
  |(go_at_call 67;(with_reducible refine(s_takeE p i i1 _ said HT1.out H.out.p1).mono ?_);rintro e_ wn ⟨rfl,h⟩;replace H:=Lib.hid h;clear h)
  |(go_at_call 19;(with_reducible refine(s_new said HSL.out H.out).mono ?_);rintro e_ wn ⟨bi,rfl,h⟩;replace H:=Lib.hid h;clear h)
  |(go_at_call 133;(with_reducible refine(prefix_readQ bi _ j x HP.out H.out).mono ?_);rintro e_ wn ⟨rfl,h⟩;replace H:=Lib.hid h;clear h;have h:=H.out;obtain⟨pb,hpb⟩:∃b,wn.heap.size=b:=⟨_,rfl⟩;have h:=h.allocRaw #[.int .i64 x.base,.int .i64 x.len,.int .i64 x.leader,.int .i64 x.sum,.int .i64 x.attr,.int .i64 x.last,.int .i64 x.first,.int .i64 x.maxt,.int .i64 x.prod,.int .i64 x.epoch,.int .i64 x.seq,.int .i64 x.count] 163;rw[hpb]at h;obtain⟨x0,x1,x2,x3,x4,x5,x6,x7,x8,x9,x10,x11,y0,y1,y2,y3,y4,y5,y6,y7,y8,y9,y10,y11⟩:=raw12 (b:=pb) (h);replace H:=Lib.hid h.p1;clear h)
  |(go_at_call 22;(with_reducible refine(s_errE bi j e HJ.out H.out).mono ?_);rintro e_ wn ⟨rfl,h⟩;replace H:=Lib.hid h;clear h;obtain⟨x0,x1,x2,x3,x4,x5,x6,x7,x8,x9,x10,x11,y0,y1,y2,y3,y4,y5,y6,y7,y8,y9,y10,y11⟩:=raw12 (b:=pb) (H.out.p1))
  |(go_at_call 70;(with_reducible refine(s_failE p i1 i2 _ HF.out H.out.p2).mono ?_);rintro e_ wn ⟨rfl,h⟩;replace H:=Lib.hid h;clear h;obtain⟨x0,x1,x2,x3,x4,x5,x6,x7,x8,x9,x10,x11,y0,y1,y2,y3,y4,y5,y6,y7,y8,y9,y10,y11⟩:=raw12 (b:=pb) (H.out.p2))
  |(go_at_call 67;(with_reducible refine(s_takeE p i2 i2 _ [] HT2.out H.out).mono ?_);rintro e_ wn ⟨rfl,h⟩;replace H:=Lib.hid h;clear h;obtain⟨x0,x1,x2,x3,x4,x5,x6,x7,x8,x9,x10,x11,y0,y1,y2,y3,y4,y5,y6,y7,y8,y9,y10,y11⟩:=raw12 (b:=pb) (H.out.p2))
  |(go_at_call 22;(with_reducible refine(s_errE p i2 e2 HE3.out H.out).mono ?_);rintro e_ wn ⟨rfl,h⟩;replace H:=Lib.hid h;clear h;obtain⟨x0,x1,x2,x3,x4,x5,x6,x7,x8,x9,x10,x11,y0,y1,y2,y3,y4,y5,y6,y7,y8,y9,y10,y11⟩:=raw12 (b:=pb) (H.out.p2);obtain⟨a0,a1,a2,a3,a4,a5,a6,a7,a8,a9,a10,a11,f0,f1,f2,f3,f4,f5,f6,f7,f8,f9,f10,f11⟩:=raw12 (b:=rb) (H.out.p3)))
 have hz:St W0 _ _ (.raw rb #[.int .i64 0,.int .i64 0,.bool false,.bool false,.bool false,.int .i64 0,.int .i64 0,.int .i64 0,.int .i64 0,.int .i64 0,.int .i64 0,.slice none 0 0] 101::_):=St.sets12 _ _ _ _ _ _ _ _ _ _ _ _ (H.out.p3);refine bodyPost_ret (rc_cell_only rfl _ _ rb [.int .i64 0,.int .i64 0,.bool false,.bool false,.bool false,.int .i64 0,.int .i64 0,.int .i64 0,.int .i64 0,.int .i64 0,.int .i64 0,.slice none 0 0] _ rfl (rc_range hz) Tryz.underlying101 rfl (by kernel_rfl)) rfl ?_;exact⟨rfl,hz.drop.p1.drop.p1.drop⟩

set_option maxHeartbeats 2000000 in
set_option maxRecDepth 100000 in
theorem bat_read_take (p:Nat) (i i1 i3 j:InS) (said rows:Bs) (x:PreS) (e2:Int) (hxl: -2147483648≤x.len∧x.len<2147483648) (hsl:said.length≤140737488355328) (ht1:i.take 61=(said,i1)) (hp:(⟨said,0,0⟩:InS).pre=(x,j)) (hj:j.err=0) (ht2:i1.take (x.len - 49)=(rows,i3)) (he2:i3.err=e2) (he3:e2≠0){W0 w:World}{K:Know}{L:List Res}(h:St W0 w K (.inp p i::L)):
  Calls Tryz.prog 81 #[inPtr p] w fun en w'=>en=.returned (.agg #[.int .i64 0,.int .i64 0,.bool false,.bool false,.bool false,.int .i64 0,.int .i64 0,.int .i64 0,.int .i64 0,.int .i64 0,.int .i64 0,.slice none 0 0])∧St W0 w' K (.inp p i3::L):=by
 have g1:=h.allocRaw #[.int .i64 0,.int .i64 0,.bool false,.bool false,.bool false,.int .i64 0,.int .i64 0,.int .i64 0,.int .i64 0,.int .i64 0,.int .i64 0,.slice none 0 0] 101;obtain⟨rb,hrb⟩:∃b,w.heap.size=b:=⟨_,rfl⟩;rw[hrb]at g1;have H:=Lib.hid g1;have HT1:=Lib.hid ht1;have HSL:=Lib.hid hsl;have HP:=Lib.hid hp;have HJ:=Lib.hid hj;have HT2:=Lib.hid ht2;have HE3:=Lib.hid he2;have gy:(e2==0)=false:=by rw[beq_eq_false_iff_ne];exact he3
 have gy2:(e2 !=0)=true:=by rw[bne_iff_ne];exact he3
 have f1:wrap64 (x.len - 49)=x.len - 49:=by unfold wrap64;omega
 have f2:IntKind.i64.wrap (x.len - 49)=x.len - 49:=IntWalk.i64_in _ (by omega);clear h g1 ht1 hsl hp hj ht2 he2 he3 hxl;go_enter Tryz.func81,Tryz.ntmps81
 go_wp2_with (first
  |(go_at_call 67;(with_reducible refine(s_takeE p i i1 _ said HT1.out H.out.p1).mono ?_);rintro e_ wn ⟨rfl,h⟩;replace H:=Lib.hid h;clear h)
  |(go_at_call 19;(with_reducible refine(s_new said HSL.out H.out).mono ?_);rintro e_ wn ⟨bi,rfl,h⟩;replace H:=Lib.hid h;clear h)
  |(go_at_call 133;(with_reducible refine(prefix_readQ bi _ j x HP.out H.out).mono ?_);rintro e_ wn ⟨rfl,h⟩;replace H:=Lib.hid h;clear h;have h:=H.out;obtain⟨pb,hpb⟩:∃b,wn.heap.size=b:=⟨_,rfl⟩;have h:=h.allocRaw #[.int .i64 x.base,.int .i64 x.len,.int .i64 x.leader,.int .i64 x.sum,.int .i64 x.attr,.int .i64 x.last,.int .i64 x.first,.int .i64 x.maxt,.int .i64 x.prod,.int .i64 x.epoch,.int .i64 x.seq,.int .i64 x.count] 163;rw[hpb]at h;obtain⟨x0,x1,x2,x3,x4,x5,x6,x7,x8,x9,x10,x11,y0,y1,y2,y3,y4,y5,y6,y7,y8,y9,y10,y11⟩:=raw12 (b:=pb) (h);replace H:=Lib.hid h.p1;clear h)
  |(go_at_call 22;(with_reducible refine(s_errE bi j 0 HJ.out H.out).mono ?_);rintro e_ wn ⟨rfl,h⟩;replace H:=Lib.hid h;clear h;obtain⟨x0,x1,x2,x3,x4,x5,x6,x7,x8,x9,x10,x11,y0,y1,y2,y3,y4,y5,y6,y7,y8,y9,y10,y11⟩:=raw12 (b:=pb) (H.out.p1))
  |(go_at_call 67;(with_reducible refine(s_takeE p i1 i3 _ rows HT2.out H.out.p2).mono ?_);rintro e_ wn ⟨rfl,h⟩;replace H:=Lib.hid h;clear h;obtain⟨x0,x1,x2,x3,x4,x5,x6,x7,x8,x9,x10,x11,y0,y1,y2,y3,y4,y5,y6,y7,y8,y9,y10,y11⟩:=raw12 (b:=pb) (H.out.p2))
  |(go_at_call 22;(with_reducible refine(s_errE p i3 e2 HE3.out H.out).mono ?_);rintro e_ wn ⟨rfl,h⟩;replace H:=Lib.hid h;clear h;obtain⟨x0,x1,x2,x3,x4,x5,x6,x7,x8,x9,x10,x11,y0,y1,y2,y3,y4,y5,y6,y7,y8,y9,y10,y11⟩:=raw12 (b:=pb) (H.out.p2);obtain⟨a0,a1,a2,a3,a4,a5,a6,a7,a8,a9,a10,a11,f0,f1,f2,f3,f4,f5,f6,f7,f8,f9,f10,f11⟩:=raw12 (b:=rb) (H.out.p3)))
 have hz:St W0 _ _ (.raw rb #[.int .i64 0,.int .i64 0,.bool false,.bool false,.bool false,.int .i64 0,.int .i64 0,.int .i64 0,.int .i64 0,.int .i64 0,.int .i64 0,.slice none 0 0] 101::_):=St.sets12 _ _ _ _ _ _ _ _ _ _ _ _ (H.out.p3);refine bodyPost_ret (rc_cell_only rfl _ _ rb [.int .i64 0,.int .i64 0,.bool false,.bool false,.bool false,.int .i64 0,.int .i64 0,.int .i64 0,.int .i64 0,.int .i64 0,.int .i64 0,.slice none 0 0] _ rfl (rc_range hz) Tryz.underlying101 rfl (by kernel_rfl)) rfl ?_;exact⟨rfl,hz.drop.p1.drop.p1.drop⟩

end Go.Proofs.YteldcbljedeeiaaGreatDoor
