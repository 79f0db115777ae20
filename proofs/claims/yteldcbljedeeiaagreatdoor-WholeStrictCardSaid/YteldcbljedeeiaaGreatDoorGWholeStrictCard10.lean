/- A text. -/
import Derived.Test.YteldcbljedeeiaaGreatDoorGWholeStrictCard9
import Derived.Test.YteldcbljedeeiaaGreatDoorGWholeStrictCard8
import Derived.Test.YteldcbljedeeiaaGreatDoorGWholeStrictCard2
import Derived.Test.YteldcbljedeeiaaGreatDoorGWholeStrictCard4
import Derived.Test.YteldcbljedeeiaaGreatDoorGWholeStrictCard6
import Derived.Test.YteldcbljedeeiaaGreatDoorGWholeStrictCard5
/- A text. -/
namespace Go.Proofs.YteldcbljedeeiaaGreatDoor
open Go.RowKit

set_option maxHeartbeats 4000000 in
set_option maxRecDepth 100000 in
theorem bat_read_ok (p:Nat) (i i1 i3 j:InS) (said rows:Bs) (x:PreS) (hxl: -2147483648≤x.len∧x.len<2147483648) (hs1:21≤said.length) (hsl:said.length≤140737488355328) (hr1:rows.length≤1000000) (har:R64 x.attr) (hc0:0≤x.count) (hcn:x.count≤2147483647) (hmx:x.first≤9223372036854775807) (ht1:i.take 61=(said,i1)) (hp:(⟨said,0,0⟩:InS).pre=(x,j)) (hj:j.err=0) (ht2:i1.take (x.len - 49)=(rows,i3)) (he3:i3.err=0) (b:BatS) (ha:asmB x said rows=.ok b){W0 w:World}{K:Know}{L:List Res}(h:St W0 w K (.inp p i::L)):
  Calls Tryz.prog 81 #[inPtr p] w fun en w'=>∃(q:Option Addr) (l:List (RecS×Value)) (cap:Nat),en=.returned (.agg #[.int .i64 b.base,.int .i64 b.leader,.bool b.app,.bool b.txn,.bool b.ctl,.int .i64 b.last,.int .i64 b.first,.int .i64 b.maxt,.int .i64 b.prod,.int .i64 b.epoch,.int .i64 b.seq,.slice q l.length cap])∧l.map (·.1)=b.recs∧St W0 w' (K.and (Know.recs (.slice q l.length cap) l)) (.inp p i3::L):=by
 have g1:=h.allocRaw #[.int .i64 0,.int .i64 0,.bool false,.bool false,.bool false,.int .i64 0,.int .i64 0,.int .i64 0,.int .i64 0,.int .i64 0,.int .i64 0,.slice none 0 0] 101;obtain⟨rb,hrb⟩:∃b,w.heap.size=b:=⟨_,rfl⟩;rw[hrb]at g1;have H:=Lib.hid g1;have HT1:=Lib.hid ht1;have HSL:=Lib.hid hsl;have HS1:=Lib.hid hs1;have HR1:=Lib.hid hr1;have HAR:=Lib.hid har;have HC0:=Lib.hid hc0;have HCN:=Lib.hid hcn;have HMX:=Lib.hid hmx;have HA:=Lib.hid ha;have HP:=Lib.hid hp;have HJ:=Lib.hid hj;have HT2:=Lib.hid ht2;have HE3:=Lib.hid he3;have f1:wrap64 (x.len - 49)=x.len - 49:=by unfold wrap64;omega
 have f2:IntKind.i64.wrap (x.len - 49)=x.len - 49:=IntWalk.i64_in _ (by omega);clear h g1 ht1 hsl hs1 hr1 har hc0 hcn hmx ha hp hj ht2 he3 hxl;go_enter Tryz.func81,Tryz.ntmps81
 go_wp2_with (first
  |(go_at_call 67;(with_reducible refine(s_takeE p i i1 _ said HT1.out H.out.p1).mono ?_);rintro e_ wn ⟨rfl,h⟩;replace H:=Lib.hid h;clear h)
  |(go_at_call 19;(with_reducible refine(s_new said HSL.out H.out).mono ?_);rintro e_ wn ⟨bi,rfl,h⟩;replace H:=Lib.hid h;clear h)
  |(go_at_call 133;(with_reducible refine(prefix_readQ bi _ j x HP.out H.out).mono ?_);rintro e_ wn ⟨rfl,h⟩;replace H:=Lib.hid h;clear h;have h:=H.out;obtain⟨pb,hpb⟩:∃b,wn.heap.size=b:=⟨_,rfl⟩;have h:=h.allocRaw #[.int .i64 x.base,.int .i64 x.len,.int .i64 x.leader,.int .i64 x.sum,.int .i64 x.attr,.int .i64 x.last,.int .i64 x.first,.int .i64 x.maxt,.int .i64 x.prod,.int .i64 x.epoch,.int .i64 x.seq,.int .i64 x.count] 163;rw[hpb]at h;obtain⟨x0,x1,x2,x3,x4,x5,x6,x7,x8,x9,x10,x11,y0,y1,y2,y3,y4,y5,y6,y7,y8,y9,y10,y11⟩:=raw12 (b:=pb) (h);replace H:=Lib.hid h.p1;clear h)
  |(go_at_call 22;(with_reducible refine(s_errE bi j 0 HJ.out H.out).mono ?_);rintro e_ wn ⟨rfl,h⟩;replace H:=Lib.hid h;clear h;obtain⟨x0,x1,x2,x3,x4,x5,x6,x7,x8,x9,x10,x11,y0,y1,y2,y3,y4,y5,y6,y7,y8,y9,y10,y11⟩:=raw12 (b:=pb) (H.out.p1))
  |(go_at_call 67;(with_reducible refine(s_takeE p i1 i3 _ rows HT2.out H.out.p2).mono ?_);rintro e_ wn ⟨rfl,h⟩;replace H:=Lib.hid h;clear h;obtain⟨x0,x1,x2,x3,x4,x5,x6,x7,x8,x9,x10,x11,y0,y1,y2,y3,y4,y5,y6,y7,y8,y9,y10,y11⟩:=raw12 (b:=pb) (H.out.p2))
  |(go_at_call 22;(with_reducible refine(s_errE p i3 0 HE3.out H.out).mono ?_);rintro e_ wn ⟨rfl,h⟩;replace H:=Lib.hid h;clear h;obtain⟨x0,x1,x2,x3,x4,x5,x6,x7,x8,x9,x10,x11,y0,y1,y2,y3,y4,y5,y6,y7,y8,y9,y10,y11⟩:=raw12 (b:=pb) (H.out.p2);obtain⟨a0,a1,a2,a3,a4,a5,a6,a7,a8,a9,a10,a11,f0,f1,f2,f3,f4,f5,f6,f7,f8,f9,f10,f11⟩:=raw12 (b:=rb) (H.out.p3))
  |(go_at_call 134;(with_reducible refine(asm_good x said rows HS1.out HSL.out HR1.out HAR.out HC0.out HCN.out HMX.out b HA.out H.out).mono ?_);rintro e_ wn ⟨q,l,cap,rfl,hl,h⟩;have h:=h.allocRaw #[.int .i64 b.base,.int .i64 b.leader,.bool b.app,.bool b.txn,.bool b.ctl,.int .i64 b.last,.int .i64 b.first,.int .i64 b.maxt,.int .i64 b.prod,.int .i64 b.epoch,.int .i64 b.seq,.slice q l.length cap] 101;obtain⟨bB,hbB⟩:∃b,wn.heap.size=b:=⟨_,rfl⟩;rw[hbB]at h;obtain⟨c0,c1,c2,c3,c4,c5,c6,c7,c8,c9,c10,c11,g0,g1,g2,g3,g4,g5,g6,g7,g8,g9,g10,g11⟩:=raw12 (b:=bB) (h);obtain⟨a0,a1,a2,a3,a4,a5,a6,a7,a8,a9,a10,a11,f0,f1,f2,f3,f4,f5,f6,f7,f8,f9,f10,f11⟩:=raw12 (b:=rb) (h.p4);replace H:=Lib.hid h;clear h))
 have hz:St W0 _ _ (.raw rb #[.int .i64 b.base,.int .i64 b.leader,.bool b.app,.bool b.txn,.bool b.ctl,.int .i64 b.last,.int .i64 b.first,.int .i64 b.maxt,.int .i64 b.prod,.int .i64 b.epoch,.int .i64 b.seq,.slice q l.length cap] 101::_):=St.sets12 _ _ _ _ _ _ _ _ _ _ _ _ (H.out.p4);refine bodyPost_ret (rc_cell_only rfl _ _ rb [.int .i64 b.base,.int .i64 b.leader,.bool b.app,.bool b.txn,.bool b.ctl,.int .i64 b.last,.int .i64 b.first,.int .i64 b.maxt,.int .i64 b.prod,.int .i64 b.epoch,.int .i64 b.seq,.slice q l.length cap] _ rfl (rc_range hz) Tryz.underlying101 rfl (by kernel_rfl)) rfl ?_;exact⟨q,l,cap,rfl,hl,hz.drop.drop.p1.drop.p1.drop⟩

set_option maxHeartbeats 4000000 in
set_option maxRecDepth 100000 in
theorem bat_read_asm (p:Nat) (i i1 i3 j:InS) (said rows:Bs) (x:PreS) (hxl: -2147483648≤x.len∧x.len<2147483648) (hs1:21≤said.length) (hsl:said.length≤140737488355328) (hr1:rows.length≤1000000) (har:R64 x.attr) (hc0:0≤x.count) (hcn:x.count≤2147483647) (hmx:x.first≤9223372036854775807) (ht1:i.take 61=(said,i1)) (hp:(⟨said,0,0⟩:InS).pre=(x,j)) (hj:j.err=0) (ht2:i1.take (x.len - 49)=(rows,i3)) (he3:i3.err=0) (i4:InS) (e:Int) (ha:asmB x said rows=.error e) (hf:i3.fail e=i4){W0 w:World}{K:Know}{L:List Res}(h:St W0 w K (.inp p i::L)):
  Calls Tryz.prog 81 #[inPtr p] w fun en w'=>en=.returned (.agg #[.int .i64 0,.int .i64 0,.bool false,.bool false,.bool false,.int .i64 0,.int .i64 0,.int .i64 0,.int .i64 0,.int .i64 0,.int .i64 0,.slice none 0 0])∧St W0 w' K (.inp p i4::L):=by
 have g1:=h.allocRaw #[.int .i64 0,.int .i64 0,.bool false,.bool false,.bool false,.int .i64 0,.int .i64 0,.int .i64 0,.int .i64 0,.int .i64 0,.int .i64 0,.slice none 0 0] 101;obtain⟨rb,hrb⟩:∃b,w.heap.size=b:=⟨_,rfl⟩;rw[hrb]at g1;have H:=Lib.hid g1;have HT1:=Lib.hid ht1;have HSL:=Lib.hid hsl;have HS1:=Lib.hid hs1;have HR1:=Lib.hid hr1;have HAR:=Lib.hid har;have HC0:=Lib.hid hc0;have HCN:=Lib.hid hcn;have HMX:=Lib.hid hmx;have HA:=Lib.hid ha;have HP:=Lib.hid hp;have HJ:=Lib.hid hj;have HT2:=Lib.hid ht2;have HE3:=Lib.hid he3;have HF:=Lib.hid hf;have gz:(e==0)=false:=by rw[beq_eq_false_iff_ne];exact asmB_ne ha
 have gz2:(e !=0)=true:=by rw[bne_iff_ne];exact asmB_ne ha
 have f1:wrap64 (x.len - 49)=x.len - 49:=by unfold wrap64;omega
 have f2:IntKind.i64.wrap (x.len - 49)=x.len - 49:=IntWalk.i64_in _ (by omega);clear h g1 ht1 hsl hs1 hr1 har hc0 hcn hmx ha hp hj ht2 he3 hxl hf;go_enter Tryz.func81,Tryz.ntmps81
 go_wp2_with (first
  |(go_at_call 67;(with_reducible refine(s_takeE p i i1 _ said HT1.out H.out.p1).mono ?_);rintro e_ wn ⟨rfl,h⟩;replace H:=Lib.hid h;clear h)
  |(go_at_call 19;(with_reducible refine(s_new said HSL.out H.out).mono ?_);rintro e_ wn ⟨bi,rfl,h⟩;replace H:=Lib.hid h;clear h)
  |(go_at_call 133;(with_reducible refine(prefix_readQ bi _ j x HP.out H.out).mono ?_);rintro e_ wn ⟨rfl,h⟩;replace H:=Lib.hid h;clear h;have h:=H.out;obtain⟨pb,hpb⟩:∃b,wn.heap.size=b:=⟨_,rfl⟩;have h:=h.allocRaw #[.int .i64 x.base,.int .i64 x.len,.int .i64 x.leader,.int .i64 x.sum,.int .i64 x.attr,.int .i64 x.last,.int .i64 x.first,.int .i64 x.maxt,.int .i64 x.prod,.int .i64 x.epoch,.int .i64 x.seq,.int .i64 x.count] 163;rw[hpb]at h;obtain⟨x0,x1,x2,x3,x4,x5,x6,x7,x8,x9,x10,x11,y0,y1,y2,y3,y4,y5,y6,y7,y8,y9,y10,y11⟩:=raw12 (b:=pb) (h);replace H:=Lib.hid h.p1;clear h)
  |(go_at_call 22;(with_reducible refine(s_errE bi j 0 HJ.out H.out).mono ?_);rintro e_ wn ⟨rfl,h⟩;replace H:=Lib.hid h;clear h;obtain⟨x0,x1,x2,x3,x4,x5,x6,x7,x8,x9,x10,x11,y0,y1,y2,y3,y4,y5,y6,y7,y8,y9,y10,y11⟩:=raw12 (b:=pb) (H.out.p1))
  |(go_at_call 67;(with_reducible refine(s_takeE p i1 i3 _ rows HT2.out H.out.p2).mono ?_);rintro e_ wn ⟨rfl,h⟩;replace H:=Lib.hid h;clear h;obtain⟨x0,x1,x2,x3,x4,x5,x6,x7,x8,x9,x10,x11,y0,y1,y2,y3,y4,y5,y6,y7,y8,y9,y10,y11⟩:=raw12 (b:=pb) (H.out.p2))
  |(go_at_call 22;(with_reducible refine(s_errE p i3 0 HE3.out H.out).mono ?_);rintro e_ wn ⟨rfl,h⟩;replace H:=Lib.hid h;clear h;obtain⟨x0,x1,x2,x3,x4,x5,x6,x7,x8,x9,x10,x11,y0,y1,y2,y3,y4,y5,y6,y7,y8,y9,y10,y11⟩:=raw12 (b:=pb) (H.out.p2);obtain⟨a0,a1,a2,a3,a4,a5,a6,a7,a8,a9,a10,a11,f0,f1,f2,f3,f4,f5,f6,f7,f8,f9,f10,f11⟩:=raw12 (b:=rb) (H.out.p3))
  |(go_at_call 134;(with_reducible refine(asm_err x said rows HS1.out HSL.out HR1.out HAR.out HC0.out HCN.out HMX.out e HA.out H.out).mono ?_);rintro e_ wn ⟨b,q,n,cap,rfl,h⟩;have h:=h.allocRaw #[.int .i64 b.base,.int .i64 b.leader,.bool b.app,.bool b.txn,.bool b.ctl,.int .i64 b.last,.int .i64 b.first,.int .i64 b.maxt,.int .i64 b.prod,.int .i64 b.epoch,.int .i64 b.seq,.slice q n cap] 101;obtain⟨bB,hbB⟩:∃b,wn.heap.size=b:=⟨_,rfl⟩;rw[hbB]at h;obtain⟨c0,c1,c2,c3,c4,c5,c6,c7,c8,c9,c10,c11,g0,g1,g2,g3,g4,g5,g6,g7,g8,g9,g10,g11⟩:=raw12 (b:=bB) (h);obtain⟨a0,a1,a2,a3,a4,a5,a6,a7,a8,a9,a10,a11,f0,f1,f2,f3,f4,f5,f6,f7,f8,f9,f10,f11⟩:=raw12 (b:=rb) (h.p4);replace H:=Lib.hid h;clear h)
  |(go_at_call 70;(with_reducible refine(s_failE p i3 i4 _ HF.out H.out.p1).mono ?_);rintro e_ wn ⟨rfl,h⟩;replace H:=Lib.hid h;clear h;obtain⟨c0,c1,c2,c3,c4,c5,c6,c7,c8,c9,c10,c11,g0,g1,g2,g3,g4,g5,g6,g7,g8,g9,g10,g11⟩:=raw12 (b:=bB) (H.out.p1);obtain⟨a0,a1,a2,a3,a4,a5,a6,a7,a8,a9,a10,a11,f0,f1,f2,f3,f4,f5,f6,f7,f8,f9,f10,f11⟩:=raw12 (b:=rb) (H.out.p4)))
 have hz:St W0 _ _ (.raw rb #[.int .i64 0,.int .i64 0,.bool false,.bool false,.bool false,.int .i64 0,.int .i64 0,.int .i64 0,.int .i64 0,.int .i64 0,.int .i64 0,.slice none 0 0] 101::_):=St.sets12 _ _ _ _ _ _ _ _ _ _ _ _ (H.out.p4);refine bodyPost_ret (rc_cell_only rfl _ _ rb [.int .i64 0,.int .i64 0,.bool false,.bool false,.bool false,.int .i64 0,.int .i64 0,.int .i64 0,.int .i64 0,.int .i64 0,.int .i64 0,.slice none 0 0] _ rfl (rc_range hz) Tryz.underlying101 rfl (by kernel_rfl)) rfl ?_;exact⟨rfl,hz.drop.p1.drop.p1.drop.p1.drop⟩
theorem bat_read_good (p:Nat) (s:Bs) (pos:Nat) (hsl:s.length≤1000000) (hp:pos≤s.length) (b:BatS) (n:Nat) (hr:reBat (s.drop pos)=.ok (b,n)){W0 w:World}{K:Know}{L:List Res}(h:St W0 w K (.inp p ⟨s,pos,0⟩::L)):
  Calls Tryz.prog 81 #[inPtr p] w fun en w'=>∃(q:Option Addr) (l:List (RecS×Value)) (cap:Nat),en=.returned (.agg #[.int .i64 b.base,.int .i64 b.leader,.bool b.app,.bool b.txn,.bool b.ctl,.int .i64 b.last,.int .i64 b.first,.int .i64 b.maxt,.int .i64 b.prod,.int .i64 b.epoch,.int .i64 b.seq,.slice q l.length cap])∧l.map (·.1)=b.recs∧St W0 w' (K.and (Know.recs (.slice q l.length cap) l)) (.inp p ⟨s,pos+n,0⟩::L):=by
 obtain⟨x,hx,rfl,hn,ha⟩:=reBat_ok hr;obtain⟨r1,r2,r3,r4,r5,r6⟩:=pre_ranges hx;have h61:=(rePre_ok hx).1;rw[List.length_drop]at hn h61;have hl61:((s.drop pos).take 61).length=61:=by rw[List.length_take,List.length_drop];omega
 have hrl:(((s.drop pos).drop 61).take (x.len - 49).toNat).length≤1000000:=by rw[List.length_take,List.length_drop,List.length_drop];omega
 have ht1:(⟨s,pos,0⟩:InS).take 61=((s.drop pos).take 61,⟨s,pos+61,0⟩):=InS.take_ok rfl (by omega) (by simp only[InS.left];omega)
 have ht2:(⟨s,pos+61,0⟩:InS).take (x.len - 49)=(((s.drop pos).drop 61).take (x.len - 49).toNat,⟨s,pos+61+(x.len - 49).toNat,0⟩):=by
  rw[InS.take_ok rfl (by omega) (by simp only[InS.left];omega),List.drop_drop]
 have hpre:=pre_okA ((s.drop pos).take 61) 0 (by omega);rw[List.drop_zero,rePre_take _ (by rw[List.length_drop];omega),hx]at hpre;rw[←Nat.add_assoc];exact bat_read_ok p _ _ _ _ _ _ x r1 (by rw[hl61];omega) (by rw[hl61];omega) hrl r3 r4 r5 r6 ht1 hpre rfl ht2 rfl b ha h
theorem bat_read_bad (p:Nat) (s:Bs) (pos:Nat) (hsl:s.length≤1000000) (hp:pos≤s.length) (e:Int) (hr:reBat (s.drop pos)=.error e){W0 w:World}{K:Know}{L:List Res}(h:St W0 w K (.inp p ⟨s,pos,0⟩::L)):
   Calls Tryz.prog 81 #[inPtr p] w fun en w'=>en=.returned (.agg #[.int .i64 0,.int .i64 0,.bool false,.bool false,.bool false,.int .i64 0,.int .i64 0,.int .i64 0,.int .i64 0,.int .i64 0,.int .i64 0,.slice none 0 0])∧∃q,q≤s.length∧St W0 w' K (.inp p ⟨s,q,e⟩::L):=by
 have hne:=reBat_ne hr
 by_cases h61:s.length<pos+61
 · unfold reBat at hr;rw[rePre_short (by rw[List.length_drop];omega)]at hr
   cases hr
   have ht1:(⟨s,pos,0⟩:InS).take 61=([],⟨s,pos,1⟩):=InS.take_short (by omega) (by simp only[InS.left];omega);obtain⟨q,_,hpre⟩:=pre_shortA [] 0 (Nat.le_refl _) (by decide);exact(bat_read_pre p _ _ ⟨s,pos,1⟩ _ [] PreS.zero 1 1 (by decide) (by decide) ht1 hpre rfl (by decide) rfl rfl (by decide) h).mono fun _ _ hh=>⟨hh.1,pos,hp,hh.2⟩
 have hl61:((s.drop pos).take 61).length=61:=by rw[List.length_take,List.length_drop];omega
 have ht1:(⟨s,pos,0⟩:InS).take 61=((s.drop pos).take 61,⟨s,pos+61,0⟩):=InS.take_ok rfl (by omega) (by simp only[InS.left];omega);have hpre:=pre_okA ((s.drop pos).take 61) 0 (by omega);rw[List.drop_zero,rePre_take _ (by rw[List.length_drop];omega)]at hpre;unfold reBat at hr
 cases hx:rePre (s.drop pos)with
 |error f=>
   rw[hx]at hr hpre;simp only at hr hpre
   cases hr
   exact(bat_read_pre p _ _ ⟨s,pos+61,e⟩ _ _ PreS.zero e e (by decide) (by rw[hl61];omega) ht1 hpre rfl hne rfl rfl hne h).mono fun _ _ hh=>⟨hh.1,pos+61,by omega,hh.2⟩
 |ok x=>
   rw[hx]at hr hpre;simp only at hr hpre;obtain⟨r1,r2,r3,r4,r5,r6⟩:=pre_ranges hx
   by_cases hlen:(s.drop pos).length<61+(x.len - 49).toNat
   · rw[if_pos hlen]at hr
     cases hr
     rw[List.length_drop]at hlen;have ht2:(⟨s,pos+61,0⟩:InS).take (x.len - 49)=([],⟨s,pos+61,1⟩):=InS.take_short (by omega) (by simp only[InS.left];omega);exact(bat_read_take p _ _ _ _ _ _ x 1 r1 (by rw[hl61];omega) ht1 hpre rfl ht2 rfl (by decide) h).mono fun _ _ hh=>⟨hh.1,pos+61,by omega,hh.2⟩
   · rw[if_neg hlen]at hr;rw[List.length_drop]at hlen;have hrl:(((s.drop pos).drop 61).take (x.len - 49).toNat).length≤1000000:=by rw[List.length_take,List.length_drop,List.length_drop];omega
     have ht2:(⟨s,pos+61,0⟩:InS).take (x.len - 49)=(((s.drop pos).drop 61).take (x.len - 49).toNat,⟨s,pos+61+(x.len - 49).toNat,0⟩):=by
      rw[InS.take_ok rfl (by omega) (by simp only[InS.left];omega),List.drop_drop]
     cases ha:asmB x ((s.drop pos).take 61) (((s.drop pos).drop 61).take (x.len - 49).toNat)with
     |ok b=>rw[ha]at hr;cases hr
     |error f=>
      rw[ha]at hr;simp only at hr
      cases hr
      exact(bat_read_asm p _ _ _ _ _ _ x r1 (by rw[hl61];omega) (by rw[hl61];omega) hrl r3 r4 r5 r6 ht1 hpre rfl ht2 rfl ⟨s,pos+61+(x.len - 49).toNat,e⟩ e ha rfl h).mono fun _ _ hh=>⟨hh.1,_,by omega,hh.2⟩
theorem op_value {P:Program}{o:Oper}{a:Act}{w w':World}{v:Value}{KK:Act→World→Prop}{Q:Exit→Act→World→Prop}(hr:(execOp a.eval o).run P w=.ok (.value v) w') (h:KK (a.put o.dst v) w'):o.wp P a w KK Q:=by
 unfold Oper.wp;rw[hr];exact h
theorem op_app1 {W0 w:World}{K:Know}{L:List Res}{o:Oper}{a:Act}{KK:Act→World→Prop}{Q:Exit→Act→World→Prop}(sl x:Operand) (t:TypeId)
    (ho:o.op=.call {callee:=.builtin .append,args:= #[sl,x],argTypes:= #[t,t]})
    (e:TypeId){z:Value}{size bytes:Nat}(ht:Tryz.prog.underlying t=some (.slice e)) (he:ElemT Tryz.prog e z size bytes)
    (v:Value) (n:Nat) (xs:List Value) (hs:a.eval sl=v) (bS:Nat) (cs:Array Value) (T:TypeId) (hst:St W0 w K (.raw bS cs T::.row v e size n xs::L))
    (hx:a.eval x=.slice (some ⟨bS,0,none⟩) 1 1) (hl:cs.toList.length=size) (h1:∀u∈cs.toList,u.oneCell'=true)
    (h63:n+1≤maxLen) (hbytes:(n+1)*bytes≤140737488355328)
    (h:∀v' w',St W0 w' K (.row v' e size (n+1) (xs++cs.toList)::L)→KK (a.put o.dst v') w'):o.wp Tryz.prog a w KK Q:=by
  have hc:=hst.rawCell;have hst2:=hst.p1;obtain⟨⟨i,g1,g2,g3,g4⟩,g5,g6⟩:=he
  obtain⟨v',w',hr,h2,h3,h4⟩:=app_val (P:=Tryz.prog) w t o.type e i z size bytes ht g1 g2 g3 g4 g5 g6 v n xs hst2.rowGet ⟨bS,0,none⟩ 1 1 cs.toList (by omega) (fun j u hj=>by
    have ha:(⟨bS,0,none⟩:Addr).add j=⟨bS,j,none⟩:=by unfold Addr.add;split<;>simp_all
    rw[ha,hc j]
    simpa using hj) h1 h63 hbytes
  unfold Oper.wp execOp;simp only[ho,resolve,invoke,builtin,Sem.run_bind,Sem.run_pure,Result.andThen_ok,List.map_toArray,List.map_cons,List.map_nil,hs,hx,hr];exact h v' w' (hst2.rowGrown h2 h3 h4).p1.drop
theorem op_skip {P:Program}{o:Oper}{a:Act}{w w':World}{KK:Act→World→Prop}{Q:Exit→Act→World→Prop}(hr:(execOp a.eval o).run P w=.ok .skip w') (h:KK (a.put o.dst undef) w'):o.wp P a w KK Q:=by
 unfold Oper.wp;rw[hr];exact h
theorem rc_cell_onlyP {P:Program}{fn:Func}{p:Tmp}{ty:TypeId}(h:fn.results= #[.cell p ty]) (tmps:Array Value) (w:World) (b:Nat) (cs:List Value) (d:TypeDesc)
    (hp:tmps.getD p undef=.pointer (some ⟨b,0,none⟩)) (hc:w.rangeAt b 0 cs) (hu:P.underlying ty=some d) (hd:d.isRow=true) (hi:(P.info? ty).map (·.size)=some cs.length):
    (results fn tmps).run P w=.ok (.agg cs.toArray) w:=by
  have hp':tmps[p]?.getD undef=.pointer (some ⟨b,0,none⟩):=by simpa using hp
  simp[results,h,hp',asAddr,run_loadVar_mid w b 0 ty cs d hc hu hd hi]
theorem rc_rangeP {W0 w:World}{K:Know}{L:List Res}{b:Nat}{c:List Value}{T:TypeId}(h:St W0 w K (.raw b c.toArray T::L)):w.rangeAt b 0 c:=by
 intro j v hv;rw[Nat.zero_add,h.rawCell j]
 simpa using hv
theorem St.setExP {W0 w:World}{K:Know}{L:List Res}{b:Nat}{c:Array Value}{T:TypeId}(h:St W0 w K (.raw b c T::L)) (j:Nat) (v:Value):∃wz,w.setCell ⟨b,j,none⟩ v=wz∧St W0 wz K (.raw b (c.setIfInBounds j v) T::L):=⟨_,rfl,h.rawSet j v⟩
theorem pso_text (p:Nat) (e:Bs){W0 w:World}{K:Know}{L:List Res}(h:St W0 w K (.out p ⟨e,0⟩::L)):
 Calls Tryz.prog 49 #[outPtr p] w fun en w'=>en=.returned (.tuple #[.string (bb e),.int .i64 0])∧St W0 w' K (.out p ⟨e,0⟩::L):=so_text p ⟨e,0⟩ h
def pbcells (x:BatR):List Value:=[.int .i64 x.b.base,.int .i64 x.b.leader,.bool x.b.app,.bool x.b.txn,.bool x.b.ctl,.int .i64 x.b.last,.int .i64 x.b.first,.int .i64 x.b.maxt,.int .i64 x.b.prod,.int .i64 x.b.epoch,.int .i64 x.b.seq,.slice x.q x.l.length x.cap]
theorem elem_batP:ElemT Tryz.prog 101 (.agg #[.int .i64 0,.int .i64 0,.bool false,.bool false,.bool false,.int .i64 0,.int .i64 0,.int .i64 0,.int .i64 0,.int .i64 0,.int .i64 0,.slice none 0 0]) 12 96:=elemT_of (by kernel_rfl) rfl (by decide)
def consB (b:BatS) (r:Except Int (List BatS)):Except Int (List BatS):=match r with| .ok t=> .ok (b::t)| .error e=> .error e
def preB (acc:List BatS) (r:Except Int (List BatS)):Except Int (List BatS):=match r with| .ok t=> .ok (acc++t)| .error e=> .error e
theorem preB_nil (r:Except Int (List BatS)):preB [] r=r:=by cases r<;>rfl
theorem preB_snoc (acc:List BatS) (b:BatS) (r:Except Int (List BatS)):preB (acc++[b]) r=preB acc (consB b r):=by
 cases r with
 |error e=>rfl
 |ok t=>simp[preB,consB]
def batsE:Nat→Bs→Except Int (List BatS)
  |0,_=> .ok []
  |f+1,s=>if s=[]then .ok []else match reBat s with
    | .error e=> .error e
    | .ok y=>consB y.1 (batsE f (s.drop y.2))
theorem batsE_fuel:∀(f g:Nat) (s:Bs),s.length≤f→s.length≤g→batsE f s=batsE g s
  |0,0,_,_,_=>rfl
  |0,g+1,s,h,_=>by
    obtain rfl:s=[]:=List.eq_nil_of_length_eq_zero (by omega)
    rfl
  |f+1,0,s,_,h=>by
    obtain rfl:s=[]:=List.eq_nil_of_length_eq_zero (by omega)
    rfl
  |f+1,g+1,s,h1,h2=>by
    show(if s=[]then Except.ok []else match reBat s with
      | .error e=>Except.error e
      | .ok y=>consB y.1 (batsE f (s.drop y.2)))=if s=[]then Except.ok []else match reBat s with
      | .error e=>Except.error e
      | .ok y=>consB y.1 (batsE g (s.drop y.2))
    by_cases c:s=[]
    · rw[if_pos c,if_pos c]
    rw[if_neg c,if_neg c]
    cases hr:reBat s with
    |error e=>rfl
    |ok y=>
      obtain⟨b,n⟩:=y;obtain⟨x,_,hn,hl,_⟩:=reBat_ok hr;simp only;rw[batsE_fuel f g (s.drop n) (by rw[List.length_drop];omega) (by rw[List.length_drop];omega)]
def batsS (s:Bs):Except Int (List BatS):=batsE s.length s
theorem batsS_nil:batsS []=.ok []:=rfl
theorem batsS_step (s:Bs) (h0:s≠[]):batsS s=match reBat s with
    | .error e=>Except.error e
    | .ok y=>consB y.1 (batsS (s.drop y.2)):=by
  have h1:batsS s=batsE (s.length+1) s:=batsE_fuel _ _ s (Nat.le_refl _) (by omega);rw[h1]
  show(if s=[]then Except.ok []else match reBat s with
      | .error e=>Except.error e
      | .ok y=>consB y.1 (batsE s.length (s.drop y.2)))=_
  rw[if_neg h0]
  cases hr:reBat s with
  |error e=>rfl
  |ok y=>
    simp only;rw[batsE_fuel s.length _ (s.drop y.2) (by rw[List.length_drop];omega) (Nat.le_refl _)]
    rfl
theorem batsS_err {s:Bs}{e:Int}(h0:s≠[]) (h:reBat s=.error e):batsS s=.error e:=by rw[batsS_step s h0,h]
theorem batsS_ok {s:Bs}{b:BatS}{n:Nat}(h0:s≠[]) (h:reBat s=.ok (b,n)):batsS s=consB b (batsS (s.drop n)):=by rw[batsS_step s h0,h]
def InS.ppart (i:InS):(Int×List BatS)×InS:=
  let a:=i.int 4
  let b:=a.2.fixed 4
  let c:=if b.1.null=true then b.2.fail 4 else b.2
  match batsS b.1.data with
  | .ok l=>((a.1,l),c)
  | .error e=>((a.1,[]),c.fail e)
theorem p_int (p:Nat) (i j:InS) (x:Int) (size:Int) (hx:i.int size=(x,j)){W0 w:World}{K:Know}{L:List Res}(h:St W0 w K (.inp p i::L)):
  Calls Tryz.prog 66 #[inPtr p,.int .i64 size] w fun en w'=>en=.returned (.int .i64 x)∧St W0 w' K (.inp p j::L):=by
 have h2:=s_int p i size h;rw[hx]at h2;exact h2
theorem p_fixed (p:Nat) (i j:InS) (k:Int) (u:Bool) (d:Bs) (hx:i.fixed k=(⟨u,d⟩,j)){W0 w:World}{K:Know}{L:List Res}(h:St W0 w K (.inp p i::L)):
  Calls Tryz.prog 117 #[inPtr p,.int .i64 k] w fun en w'=>en=.returned (.agg #[.bool u,.string (bb d)])∧St W0 w' K (.inp p j::L):=by
 have h2:=blob_fixed p i k h;rw[hx]at h2;exact h2
theorem p_err (p:Nat) (i:InS) (e:Int) (hx:i.err=e){W0 w:World}{K:Know}{L:List Res}(h:St W0 w K (.inp p i::L)):
  Calls Tryz.prog 22 #[inPtr p] w fun en w'=>en=.returned (.int .i64 e)∧St W0 w' K (.inp p i::L):=by
 subst hx;exact s_err p i h
theorem p_left (p:Nat) (i:InS) (n:Nat) (hx:i.left=n){W0 w:World}{K:Know}{L:List Res}(h:St W0 w K (.inp p i::L)):
  Calls Tryz.prog 75 #[inPtr p] w fun en w'=>en=.returned (.int .i64 n)∧St W0 w' K (.inp p i::L):=by
 subst hx;exact s_left p i h
theorem p_fail (p:Nat) (i j:InS) (e:Int) (hx:i.fail e=j){W0 w:World}{K:Know}{L:List Res}(h:St W0 w K (.inp p i::L)):
  Calls Tryz.prog 70 #[inPtr p,.int .i64 e] w fun en w'=>en=.returned (.tuple #[])∧St W0 w' K (.inp p j::L):=by
 subst hx;exact s_fail p i e h
def PInM (b n:Nat) (w:World):Nat:=if intOf ((w.cell? ⟨b,2,none⟩).getD undef)≠0 then 0 else n+1 - (intOf ((w.cell? ⟨b,1,none⟩).getD undef)).toNat
theorem pinM {W0 w:World}{K:Know}{L:List Res}{b n:Nat}{i:InS}(h:St W0 w K (.inp b i::L)):PInM b n w=if i.err≠0 then 0 else n+1 - i.pos:=by
 have h1:=cell_at h.inpGet.1 1;have h2:=cell_at h.inpGet.1 2;unfold PInM;rw[h1,h2]
 rfl
def PartJ (K2:Know) (d:Bs) (n:Nat) (xs:List Value) (pos:Nat) (er:Int):Prop:=
  (er=0∧pos≤d.length∧61*n≤pos∧∃acc:List BatR,n=acc.length∧xs=acc.flatMap pbcells∧preB (acc.map BatR.b) (batsS (d.drop pos))=batsS d∧(∀x∈acc,K2.has (Know.recs (.slice x.q x.l.length x.cap) x.l))∧∀x∈acc,x.l.map (·.1)=x.b.recs)∨
  (er≠0∧batsS d=.error er)
theorem St.freezeBatsP {W0 w:World}{K:Know}{L:List Res}{v:Value}{T:TypeId}{l:List BatR}(h:St W0 w K (.row v T 12 l.length (l.flatMap pbcells)::L)) (ht:∀x∈l,K.has (Know.recs (.slice x.q x.l.length x.cap) x.l)):St W0 w (K.and (Know.bats v l)) L:=by
 have hf:=h.freezeRow (R:=RBat) (fun x _=>⟨rfl,rfl⟩);exact hf.know (K':=K.and (Know.bats v l)) (fun w F hh=>⟨hh.1,hh.2,fun x hx=>ht x hx _ _ hh.1⟩)
theorem fail_ne {i j:InS}{e:Int}(h:i.fail e=j) (h0:e≠0):j.err≠0:=by
 subst h;unfold InS.fail
 split
 · exact h0
 · assumption
theorem zq7 {p:Prop}(h:p:=by
  have hr: -2147483648≤(i.int 4).1∧(i.int 4).1<2147483648:=by
   have e4:half (4:Int).toNat=2147483648:=by decide
   by_cases hi:i.err=0
   · obtain⟨s,pos,er⟩:=i;simp only at hi;subst hi;unfold InS.int;rw[if_neg (by decide)];simp only;unfold InS.take
     split
     · show -2147483648≤sInt []∧sInt []<2147483648;decide
     · split
       · show -2147483648≤sInt []∧sInt []<2147483648;decide
       · split
         · show -2147483648≤sInt []∧sInt []<2147483648;decide
         · rename_i h1 h2 h3
           have hl:(((s.drop pos)).take (4:Int).toNat).length=4:=by
            rw[List.length_take,List.length_drop];simp only[InS.left]at h3;have:(4:Int).toNat=4:=rfl
            omega
           have h6:=sInt_fits _ 4 (by decide) (by decide) hl;have h7:=h6.2.2;have e5:half ((4:Nat):Int).toNat=2147483648:=by decide
           rw[e5]at h7;exact h7
   · rw[int_stuck i hi];show(-2147483648:Int)≤0∧(0:Int)<2147483648;decide
  have h0:0≤(i.count 4 each).1∧(i.count 4 each).1<2147483648:=by
   unfold InS.count;simp only
   split
   · simp
   · split
     · simp
     · omega
  unfold InS.cnt;simp only
  omega):p:=h
theorem cnt_nat12 (i:InS) (each:Nat):(i.count 4 each).1=((i.cnt each).1:Int)∧(i.cnt each).1≤2147483647:=by
 exact zq7

theorem take_s12 (i:InS) (n:Int):(i.take n).2.s=i.s∧(i.take n).1.length≤i.s.length:=by
 unfold InS.take
 split
 · exact⟨rfl,Nat.zero_le _⟩
 · split
   · exact⟨rfl,Nat.zero_le _⟩
   · split
     · exact⟨rfl,Nat.zero_le _⟩
     · refine⟨rfl,?_⟩;rw[List.length_take,List.length_drop]
       omega
theorem fail_s12 (i:InS) (e:Int):(i.fail e).s=i.s:=by unfold InS.fail;split<;>rfl
theorem int_s12 (i:InS) (k:Int):(i.int k).2.s=i.s:=by
 unfold InS.int
 split
 · exact fail_s12 _ _
 · exact(take_s12 _ _).1
theorem tk_s12 (i:InS) (n:Int):(i.tk n).2.s=i.s∧(i.tk n).1.data.length≤i.s.length:=by
 unfold InS.tk
 split
 · exact⟨rfl,Nat.zero_le _⟩
 · exact take_s12 _ _
theorem fixed_s12 (i:InS) (k:Int):(i.fixed k).2.s=i.s∧(i.fixed k).1.data.length≤i.s.length:=by
 unfold InS.fixed;have h:=tk_s12 (i.int k).2 (i.int k).1;rw[int_s12]at h;exact h
theorem text_s12 (i:InS):i.text.2.s=i.s:=by
 unfold InS.text InS.bytes;simp only
 split
 · rw[fail_s12];exact(fixed_s12 i 2).1
 · exact(fixed_s12 i 2).1
theorem cnt_s12 (i:InS) (each:Nat):(i.cnt each).2.s=i.s:=by
 unfold InS.cnt InS.count;simp only
 split
 · rw[fail_s12];exact int_s12 i 4
 · split
   · rw[fail_s12];exact int_s12 i 4
   · exact int_s12 i 4
theorem part_len12 (i:InS):(((i.int 4).2.fixed 4).1.data).length≤i.s.length:=by
 have h:=(fixed_s12 (i.int 4).2 4).2;rw[int_s12]at h;exact h
theorem ppart_s12 (i:InS):i.ppart.2.s=i.s:=by
 have h1:((i.int 4).2.fixed 4).2.s=i.s:=by rw[(fixed_s12 _ 4).1,int_s12]
 have h2:(if ((i.int 4).2.fixed 4).1.null=true then((i.int 4).2.fixed 4).2.fail 4 else((i.int 4).2.fixed 4).2).s=i.s:=by
  split
  · rw[fail_s12];exact h1
  · exact h1
 unfold InS.ppart;simp only
 split
 · exact h2
 · rw[fail_s12];exact h2
def PartR.pb (x:PartR):Int×List BatS:=(x.idx,x.l.map BatR.b)
def InS.ppartsN:Nat→List (Int×List BatS)→InS→List (Int×List BatS)×InS
  |0,acc,i=>(acc,i)
  |n+1,acc,i=>if i.ppart.2.err=0 then InS.ppartsN n (acc++[i.ppart.1]) i.ppart.2 else([],i.ppart.2)
def InS.ptop (i:InS):(Bs×List (Int×List BatS))×InS:=
  ((i.text.1,(InS.ppartsN (i.text.2.cnt 8).1 [] (i.text.2.cnt 8).2).1),(InS.ppartsN (i.text.2.cnt 8).1 [] (i.text.2.cnt 8).2).2)
theorem ppartsN_s12:∀(n:Nat) (acc:List (Int×List BatS)) (i:InS),(InS.ppartsN n acc i).2.s=i.s
  |0,_,_=>rfl
  |n+1,acc,i=>by
    show(if i.ppart.2.err=0 then InS.ppartsN n (acc++[i.ppart.1]) i.ppart.2 else([],i.ppart.2)).2.s=i.s
    split
    · rw[ppartsN_s12 n];exact ppart_s12 i
    · exact ppart_s12 i
theorem ptop_s12 (i:InS):i.ptop.2.s=i.s:=by
 unfold InS.ptop;simp only;rw[ppartsN_s12,cnt_s12,text_s12]
theorem p_cnt (p:Nat) (i j:InS) (each n:Nat) (ei:Int) (he:ei=each) (hx:i.cnt each=(n,j)){W0 w:World}{K:Know}{L:List Res}(h:St W0 w K (.inp p i::L)):
  Calls Tryz.prog 174 #[inPtr p,.int .i64 4,.int .i64 ei] w fun en w'=>en=.returned (.int .i64 n)∧St W0 w' K (.inp p j::L):=by
 subst he;have h2:=s_count p i 4 each h;have hm:=(cnt_nat12 i each).1;rw[hx]at hm;have h4:(i.count 4 each).2=j:=by have:=congrArg Prod.snd hx;exact this
 rw[hm,h4]at h2;exact h2
theorem p_text (p:Nat) (i j:InS) (s:Bs) (hx:i.text=(s,j)){W0 w:World}{K:Know}{L:List Res}(h:St W0 w K (.inp p i::L)):
  Calls Tryz.prog 87 #[inPtr p] w fun en w'=>en=.returned (.string (bb s))∧St W0 w' K (.inp p j::L):=by
 have h2:=blob_text p i h;rw[hx]at h2;exact h2
theorem elem_partP:ElemT Tryz.prog 181 (.agg #[.int .i64 0,.slice none 0 0]) 2 32:=elemT_of (by kernel_rfl) rfl (by decide)
theorem St.freezeParts {W0 w:World}{K:Know}{L:List Res}{v:Value}{T:TypeId}{l:List PartR}(h:St W0 w K (.row v T 2 l.length (l.flatMap pcells)::L)) (ht:∀x∈l,K.has (Know.bats (.slice x.q x.l.length x.cap) x.l)):St W0 w (K.and (Know.pparts v l)) L:=by
 have hf:=h.freezeRow (R:=RPart) (fun x _=>⟨rfl,rfl⟩);exact hf.know (K':=K.and (Know.pparts v l)) (fun w F hh=>⟨hh.1,hh.2,fun x hx=>ht x hx _ _ hh.1⟩)
def InS.On (s:Bs) (i:InS):Prop:=(i.err≠0∧i.s=s)∨∃p,p≤s.length∧i=⟨s,p,0⟩
def Got (s:Bs) (i j:InS) (x:Bs):Prop:=j.On s∧(j.err=0→∃p q,i=⟨s,p,0⟩∧j=⟨s,q,0⟩∧p≤q∧q≤s.length∧s.take p++x=s.take q)
theorem Got.trans {s:Bs}{i j k:InS}{x y:Bs}(h1:Got s i j x) (h2:Got s j k y):Got s i k (x++y):=by
 refine⟨h2.1,fun h0=> ?_⟩;obtain⟨p,q,rfl,rfl,g1,g2,g3⟩:=h2.2 h0;obtain⟨p',q',rfl,e,f1,f2,f3⟩:=h1.2 rfl;obtain rfl:p=q':=(InS.mk.inj e).2.1;exact⟨p',q,rfl,rfl,by omega,g2,by rw[←List.append_assoc,f3,g3]⟩
theorem Got.zero {s:Bs}{i j:InS}{x:Bs}(h:Got s i j x) (h0:j.err=0):i.err=0:=by
 obtain⟨p,q,rfl,_⟩:=h.2 h0
 rfl
theorem Got.len {s:Bs}{i j:InS}{x:Bs}(h:Got s i j x) (h0:j.err=0):x.length≤s.length:=by
 obtain⟨p,q,_,_,g1,g2,g3⟩:=h.2 h0;have:=congrArg List.length g3;rw[List.length_append,List.length_take,List.length_take]at this
 omega
theorem got_rds {α:Type}{f:InS→α×InS}{P:Bs→Except Int (α×Nat)}{d:α}(R:Rds f P d) (en:α→Bs) (one:∀t a k,P t=.ok (a,k)→k≤t.length∧t.take k=en a){s:Bs}{i:InS}(h:i.On s):Got s i (f i).2 (en (f i).1):=by
 rcases h with h|⟨p,hp,rfl⟩
 · rw[R.stuck i h.1];exact⟨.inl h,fun h0=>absurd h0 h.1⟩
 · cases hv:P (s.drop p)with
   |error e=>
    obtain⟨h0,q,_,h1⟩:=R.err s p e hp hv;rw[h1];exact⟨.inl ⟨h0,rfl⟩,fun g=>absurd g h0⟩
   |ok x=>
    obtain⟨a,k⟩:=x;obtain⟨h1,h2⟩:=R.ok s p a k hp hv;rw[h2];refine⟨.inr ⟨_,h1,rfl⟩,fun _=>⟨p,p+k,rfl,rfl,by omega,h1,?_⟩⟩;rw[←(one _ _ _ hv).2,←List.take_add]
theorem got_int (n:Nat) (h1:1≤n) (h8:n≤8){s:Bs}{i j:InS}{a:Int}(hx:i.int n=(a,j)) (h:i.On s):Got s i j (beBytes a n):=by
 have:=got_rds (rds_intN n h1 h8) (fun a=>beBytes a n) (fun t a k h=>by obtain⟨rfl,g1,g2⟩:=getIntN_one h;exact⟨g1,g2⟩) h;rw[hx]at this;exact this
theorem got_fixed {s:Bs}{i j:InS}{b:BlobS}(hx:i.fixed 2=(b,j)) (h:i.On s):Got s i j (encF 2 b):=by
 have:=got_rds (rds_fixed 2 (by decide) (by decide)) (encF 2) (fun t a k h=>by obtain⟨g1,g2,_⟩:=refixed_one t a k h;exact⟨g2,g1.symm⟩) h;have e:i.fixed (2:Nat)=(b,j):=hx;rw[e]at this;exact this
theorem got_text {s:Bs}{i j:InS}{d:Bs}(hx:i.text=(d,j)) (h:i.On s):Got s i j (encF 2 ⟨false,d⟩):=by
 have:=got_rds rds_text (fun d=>encF 2 ⟨false,d⟩) (fun t a k h=>textP_one h) h;rw[hx]at this;exact this
theorem got_tops {s:Bs}{i j:InS}{l:List TopS}(hx:i.tops=(l,j)) (h:i.On s):Got s i j (encTs l):=by
 have:=got_rds rds_tops encTs (fun t a k h=>topsP_one h) h;rw[hx]at this;exact this
theorem got_head {s:Bs}{i j:InS}{y:HeadS}(hx:i.head=(y,j)) (h:i.On s):Got s i j (encHead y):=by
 have:=got_rds rds_head encHead (fun t a k h=>by obtain⟨g1,g2,_⟩:=reHead_one t a k h;exact⟨g2,g1.symm⟩) h;rw[hx]at this;exact this
theorem got_bool {s:Bs}{i j:InS}{c:Bool}(hx:i.boolP=(c,j)) (h:i.On s):Got s i j (encO c):=by
 have hs0:i.s=s:=by
   rcases h with h|⟨p,_,rfl⟩
   · exact h.2
   · rfl
 have hjs:j.s=s:=by
   have e:=congrArg (fun x=>x.2.s) hx;simp only at e;rw[←e,←hs0];unfold InS.boolP;simp only
   split
   · unfold InS.fail
     split
     · exact int_s12 i 1
     · exact int_s12 i 1
   · exact int_s12 i 1
 have bad:∀e:Int,e≠0→i.boolP.2.err=e→Got s i j (encO c):=fun e h0 h1=>by
   rw[hx]at h1;have h1:j.err=e:=h1;exact⟨.inl ⟨by rw[h1];exact h0,hjs⟩,fun g=>absurd (h1.symm.trans g) h0⟩
 rcases h with h|⟨p,hp,rfl⟩
 · exact bad _ h.1 (bool_stuckQ i h.1)
 · by_cases hs:s.length<p+1
   · exact bad 1 (by decide) (bool_shortQ s p hp hs)
   · have hy:s[p]? =some s[p]:=List.getElem?_eq_getElem (by omega)
     by_cases hb:1<(s[p].toNat:Int)
     · exact bad 11 (by decide) (bool_badQ s p _ hy hb)
     · obtain⟨g1,g2⟩:=bool_okQ s p _ hy hb;rw[g1]at hx;obtain⟨rfl,rfl⟩:=Prod.mk.inj hx;refine⟨.inr ⟨p+1,by omega,rfl⟩,fun _=>⟨p,p+1,rfl,rfl,by omega,by omega,?_⟩⟩;rw[g2,←take_oneQ hy,←List.take_add]
theorem got_cnt (each:Nat) (he:0<each){s:Bs}{i j:InS}{n:Nat}(hx:i.cnt each=(n,j)) (h:i.On s):Got s i j (beBytes n 4):=by
 have:=got_rds (rds_cnt each he) (fun n=>beBytes (n:Int) 4) (fun t a k h=>by obtain⟨rfl,g1,g2⟩:=cntP_one he h;exact⟨by omega,g2⟩) h;rw[hx]at this;exact this
theorem On.text {s:Bs}{i:InS}(h:i.On s):i.s=s:=by
 rcases h with h|⟨p,_,rfl⟩
 · exact h.2
 · rfl
theorem On.zero {s:Bs}{i:InS}(h:i.On s) (h0:i.err=0):∃p,p≤s.length∧i=⟨s,p,0⟩:=by
 rcases h with h|h
 · exact absurd h0 h.1
 · exact h
def chkJ (j:InS) (r:Int):InS:=if r=0 then j else j.fail r
theorem chkJ_err {j:InS}{r:Int}(h:(chkJ j r).err=0):r=0∧chkJ j r=j∧j.err=0:=by
 unfold chkJ at h ⊢
 by_cases h0:r=0
 · rw[if_pos h0]at h ⊢;exact⟨h0,rfl,h⟩
 · rw[if_neg h0]at h;unfold InS.fail at h
   by_cases h1:j.err=0
   · rw[if_pos h1]at h;exact absurd h h0
   · rw[if_neg h1]at h;exact absurd h h1
theorem chkJ_bad {j:InS}{r:Int}(h:j.err≠0):chkJ j r=j:=by
 unfold chkJ
 by_cases h0:r=0
 · rw[if_pos h0]
 · rw[if_neg h0];unfold InS.fail;rw[if_neg h]
theorem chkJ_pos {j:InS}:chkJ j 0=j:=if_pos rfl
theorem chkJ_neg {j:InS}{r:Int}(h:r≠0):chkJ j r=j.fail r:=if_neg h
def begJ (v:Int) (i:InS):InS:=
  let a:=i.fixed 2
  let b:=a.2.int 4
  let c:=b.2.int 8
  let d:=c.2.int 2
  if v=1 then chkJ d.2 (begE 1 a.1.null a.1.data b.1 c.1 d.1)else chkJ b.2 (begE 0 a.1.null a.1.data b.1 (-1) (-1))
def addJ (i:InS):InS:=
  let a:=i.text
  let b:=a.2.int 8
  let c:=b.2.int 2
  let d:=c.2.tops
  chkJ d.2 (addE a.1 b.1 c.1 d.1)
def endJ (i:InS):InS:=
  let a:=i.text
  let b:=a.2.int 8
  let c:=b.2.int 2
  let d:=c.2.boolP
  chkJ d.2 (chkW a.1 b.1 c.1)
theorem encF_data {b:BlobS}:b.data.length≤(encF 2 b).length:=by
 unfold encF;rw[List.length_append]
 omega
theorem begJ_0 {i i1 i2:InS}{nl:Bool}{d:Bs}{tm:Int}(h1:i.fixed 2=(⟨nl,d⟩,i1)) (h2:i1.int 4=(tm,i2)):begJ 0 i=chkJ i2 (begE 0 nl d tm (-1) (-1)):=by
 unfold begJ;simp only[h1,h2];rw[if_neg (by decide)]
theorem begJ_1 {i i1 i2 i3 i4:InS}{nl:Bool}{d:Bs}{tm p e:Int}(h1:i.fixed 2=(⟨nl,d⟩,i1)) (h2:i1.int 4=(tm,i2)) (h3:i2.int 8=(p,i3)) (h4:i3.int 2=(e,i4)):begJ 1 i=chkJ i4 (begE 1 nl d tm p e):=by
 unfold begJ;simp only[h1,h2,h3,h4];exact if_pos trivial
theorem addJ_eq {i i1 i2 i3 i4:InS}{d:Bs}{p e:Int}{l:List TopS}(h1:i.text=(d,i1)) (h2:i1.int 8=(p,i2)) (h3:i2.int 2=(e,i3)) (h4:i3.tops=(l,i4)):addJ i=chkJ i4 (addE d p e l):=by
 unfold addJ;simp only[h1,h2,h3,h4]
theorem endJ_eq {i i1 i2 i3 i4:InS}{d:Bs}{p e:Int}{c:Bool}(h1:i.text=(d,i1)) (h2:i1.int 8=(p,i2)) (h3:i2.int 2=(e,i3)) (h4:i3.boolP=(c,i4)):endJ i=chkJ i4 (chkW d p e):=by
 unfold endJ;simp only[h1,h2,h3,h4]
theorem on_tops_few {s:Bs}{i j:InS}{l:List TopS}(hs:s.length≤1000000) (hx:i.tops=(l,j)) (h:i.On s) (h0:j.err=0):FewL l:=by
 rcases h with h|⟨p,hp,rfl⟩
 · rw[rds_tops.stuck i h.1]at hx;obtain⟨_,rfl⟩:=Prod.mk.inj hx;exact absurd h0 h.1
 · cases hv:topsP (s.drop p)with
   |error e=>
    obtain⟨g0,q,_,h1⟩:=rds_tops.err s p e hp hv;rw[h1]at hx;obtain⟨_,rfl⟩:=Prod.mk.inj hx;exact absurd h0 g0
   |ok x=>
    obtain⟨a,k⟩:=x;obtain⟨_,h2⟩:=rds_tops.ok s p a k hp hv;rw[h2]at hx;obtain⟨rfl,_⟩:=Prod.mk.inj hx;exact topsP_few hv (by rw[List.length_drop];omega)
theorem cnt_nat (i:InS) (each:Nat):(i.count 4 each).1=((i.cnt each).1:Int)∧(i.cnt each).1≤2147483647:=by
 exact zq7
theorem s_cntV (p:Nat) (i j:InS) (each n:Nat) (ei:Int) (he:ei=each) (hx:i.cnt each=(n,j)){W0 w:World}{K:Know}{L:List Res}(h:St W0 w K (.inp p i::L)):
  Calls Tryz.prog 174 #[inPtr p,.int .i64 4,.int .i64 ei] w fun en w'=>en=.returned (.int .i64 n)∧St W0 w' K (.inp p j::L):=by
 subst he;have h2:=s_count p i 4 each h;have h3:=(cnt_nat i each).1;rw[hx]at h3;have h4:(i.count 4 each).2=j:=by have:=congrArg Prod.snd hx;exact this
 rw[h3,h4]at h2;exact h2
theorem s_intV (p:Nat) (i j:InS) (x:Int) (size:Int) (hx:i.int size=(x,j)){W0 w:World}{K:Know}{L:List Res}(h:St W0 w K (.inp p i::L)):
  Calls Tryz.prog 66 #[inPtr p,.int .i64 size] w fun en w'=>en=.returned (.int .i64 x)∧St W0 w' K (.inp p j::L):=by
 have h2:=s_int p i size h;rw[hx]at h2;exact h2
theorem s_errV (p:Nat) (i:InS) (e:Int) (hx:i.err=e){W0 w:World}{K:Know}{L:List Res}(h:St W0 w K (.inp p i::L)):
  Calls Tryz.prog 22 #[inPtr p] w fun en w'=>en=.returned (.int .i64 e)∧St W0 w' K (.inp p i::L):=by
 subst hx;exact s_err p i h
theorem blob_textV (p:Nat) (i j:InS) (s:Bs) (hx:i.text=(s,j)){W0 w:World}{K:Know}{L:List Res}(h:St W0 w K (.inp p i::L)):
  Calls Tryz.prog 87 #[inPtr p] w fun en w'=>en=.returned (.string (bb s))∧St W0 w' K (.inp p j::L):=by
 have h2:=blob_text p i h;rw[hx]at h2;exact h2
theorem elem_int:ElemT Tryz.prog 3 (.int .i64 0) 1 8:=elemT_of (by kernel_rfl) rfl (by decide)
theorem elem_top:ElemT Tryz.prog 173 (.agg #[.string ⟨#[]⟩,.slice none 0 0]) 2 40:=elemT_of (by kernel_rfl) rfl (by decide)
theorem tops_nil (K:Know):K.has (K.and (Know.tops (.slice none 0 0) [])):=fun _ _ h=>⟨h,⟨none,0,rfl,fun h=>absurd h (by simp)⟩,fun x hx=>by cases hx⟩
theorem zq34 {p:Prop}(h:p:=by have:=HAB.out;unfold maxLen;omega):p:=h
set_option maxHeartbeats 1000000 in
set_option maxRecDepth 100000 in
theorem val_parts (p:Nat) (i j:InS) (l:List Int) (hx:i.parts=(l,j)){W0 w:World}{K:Know}{L:List Res}(h:St W0 w K (.inp p i::L)):
  Calls Tryz.prog 203 #[inPtr p] w fun en w'=>∃v,en=.returned v∧St W0 w' (K.and (Know.flat RI v 1 l)) (.inp p j::L):=by
 obtain⟨⟨n,c⟩,hc⟩:∃r,i.cnt 4=r:=⟨_,rfl⟩;have hnl:=(cnt_nat i 4).2;rw[hc]at hnl;have hx2:InS.partsN n [] c=(l,j):=by rw[←hx];unfold InS.parts;rw[hc]
 have HC:=Lib.hid hc;have HX:=Lib.hid hx2;have HNL:=Lib.hid hnl;have H:=Lib.hid h;have hni:(n:Int)≤2147483647:=by simp only at hnl;omega
 clear h hx hc hx2 hnl;go_enter Tryz.func203,Tryz.ntmps203;go_wp2_with (go_at_call 174;(with_reducible refine(s_cntV p i c 4 n 4 rfl HC.out H.out).mono ?_);rintro e_ wn ⟨rfl,h⟩;replace H:=Lib.hid h;clear h);go_loopw [3,6] (fun lv iv wr=>∃(k:Nat) (i2:InS) (acc:List Int),k≤n∧iv=.int .i64 k∧Hid (acc.length=k)∧Hid (InS.partsN (n - k) acc i2=(l,j))∧St W0 wr K (.row lv 3 1 acc.length (acc.flatMap fun x=>[.int .i64 x])::.inp p i2::L)) (fun _ iv _=>n - (intOf iv).toNat)
 case atStart=>exact⟨0,c,[],Nat.zero_le _,rfl,Lib.hid rfl,Lib.hid HX.out,H.out.nilRow 3 1⟩
 case round=>
  obtain⟨k,i2,acc,hk,rfl,HAL,HP,hst⟩:=hrel;clear H;have H:=Lib.hid hst;clear hst
  by_cases hlt:k<n
  · obtain⟨⟨x,i3⟩,hi3⟩:∃r,i2.int 4=r:=⟨_,rfl⟩;have HI:=Lib.hid hi3
    have HP2:=Lib.hid (show InS.partsN (n - (k+1)) (acc++[x]) i3=(l,j) by
     have h1:=HP.out;rw[show n - k=(n - (k+1))+1 by omega]at h1;have h2:InS.partsN (n - (k+1)) (acc++[(i2.int 4).1]) (i2.int 4).2=(l,j):=h1;rw[hi3]at h2
     exact h2)
    have HAB:=Lib.hid (show acc.length≤2147483647 by have:=HAL.out;have:=HNL.out;omega);have hkn:(k:Int)<(n:Int):=by omega
    clear hi3
    go_wp2_with (first
  |(go_at_call 66;(with_reducible refine(s_intV p i2 i3 x 4 HI.out H.out.p1).mono ?_);rintro e_ wn ⟨rfl,h⟩;have h:=h.p1;replace H:=Lib.hid h;clear h)
  |(at_builtin;refine wpl_app1_st rfl _ _ 90 rfl 3 Tryz.underlying90 elem_int _ _ _ rfl H.out [.int .i64 x] 3 rfl rfl (by simp[Value.oneCell']) zq34 (by have:=HAB.out;omega) ?_;intro v' w' h;replace H:=Lib.hid h;clear h))
    go_roundw
    case rel=>exact⟨k+1,i3,acc++[x],hlt,by go_num,Lib.hid (by rw[List.length_append,HAL.out];rfl),HP2,by rw[List.length_append,List.flatMap_append];exact H.out⟩
    case measure=>first|(simp[intOf];done)|(simp[intOf];omega)
  · obtain rfl:k=n:=by omega
    have hp:=HP.out;rw[Nat.sub_self]at hp;have hp:(acc,i2)=(l,j):=hp;simp only[Prod.mk.injEq]at hp;obtain⟨rfl,rfl⟩:=hp;go_wp2;go_ret;exact⟨_,rfl,H.out.freezeRow (R:=RI) (fun x _=>⟨rfl,rfl⟩)⟩

set_option maxHeartbeats 2000000 in
set_option maxRecDepth 100000 in
theorem val_topics (p:Nat) (i j:InS) (l:List TopS) (hx:i.tops=(l,j)){W0 w:World}{K:Know}{L:List Res}(h:St W0 w K (.inp p i::L)):
  Calls Tryz.prog 145 #[inPtr p] w fun en w'=>∃(v:Value) (lr:List (TopS×Value)),en=.returned v∧lr.map (·.1)=l∧St W0 w' (K.and (Know.tops v lr)) (.inp p j::L):=by
 obtain⟨⟨n,c⟩,hc⟩:∃r,i.cnt 6=r:=⟨_,rfl⟩;have hnl:=(cnt_nat i 6).2;rw[hc]at hnl;have hx2:InS.topsN n [] c=(l,j):=by rw[←hx];unfold InS.tops;rw[hc]
 have HC:=Lib.hid hc;have HX:=Lib.hid hx2;have HNL:=Lib.hid hnl;have H:=Lib.hid h;have hni:(n:Int)≤2147483647:=by simp only at hnl;omega
 clear h hx hc hx2 hnl;go_enter Tryz.func145,Tryz.ntmps145;go_wp2_with (go_at_call 174;(with_reducible refine(s_cntV p i c 6 n 6 rfl HC.out H.out).mono ?_);rintro e_ wn ⟨rfl,h⟩;replace H:=Lib.hid h;clear h);go_loopw [3,4,7] (fun lv _ iv wr=>∃(k:Nat) (i2:InS) (acc:List (TopS×Value)) (K2:Know),k≤n∧iv=.int .i64 k∧Hid (acc.length=k)∧Hid (InS.topsN (n - k) (acc.map (·.1)) i2=(l,j))∧Hid (K2.has K)∧Hid (∀x∈acc,K2.has (Know.flat RI x.2 1 x.1.parts))∧St W0 wr K2 (.row lv 173 2 acc.length (acc.flatMap tcells)::.inp p i2::L)) (fun _ _ iv _=>n - (intOf iv).toNat)
 case atStart=>exact⟨0,c,[],K,Nat.zero_le _,rfl,Lib.hid rfl,Lib.hid HX.out,Lib.hid (Know.has_refl _),Lib.hid (fun x hx=>by cases hx),H.out.nilRow 173 2⟩
 case round=>
  obtain⟨k,i2,acc,K2,hk,rfl,HAL,HP,HKK,HALL,hst⟩:=hrel;clear H;have H:=Lib.hid hst;clear hst
  by_cases hlt:k<n
  · obtain⟨⟨nm,i3⟩,hi3⟩:∃r,i2.text=r:=⟨_,rfl⟩;obtain⟨⟨ps,i4⟩,hi4⟩:∃r,i3.parts=r:=⟨_,rfl⟩;obtain⟨er,her⟩:∃er,i4.err=er:=⟨_,rfl⟩;have HT:=Lib.hid hi3;have HPS:=Lib.hid hi4;have HER:=Lib.hid her
    have hstep:(if er=0 then InS.topsN (n - (k+1)) (acc.map (·.1)++[⟨nm,ps⟩]) i4 else([],i4))=(l,j):=by
      have h1:=HP.out;rw[show n - k=(n - (k+1))+1 by omega]at h1;have h2:(if i2.text.2.parts.2.err=0 then InS.topsN (n - (k+1)) (acc.map (·.1)++[⟨i2.text.1,i2.text.2.parts.1⟩]) i2.text.2.parts.2 else([],i2.text.2.parts.2))=(l,j):=h1;rw[hi3]at h2;simp only at h2;rw[hi4]at h2;simp only at h2;rw[her]at h2;exact h2
    have HAB:=Lib.hid (show acc.length≤2147483647 by have:=HAL.out;have:=HNL.out;omega);have hkn:(k:Int)<(n:Int):=by omega
    clear hi3 hi4 her
    by_cases he0:er=0
    · as_aux_lemma=>
      rw[if_pos he0]at hstep;have HP2:=Lib.hid hstep;subst he0;clear hstep
      go_wp2_with (first
  |(go_at_call 87;(with_reducible refine(blob_textV p i2 i3 nm HT.out H.out.p1).mono ?_);rintro e_ wn ⟨rfl,h⟩;replace H:=Lib.hid h;clear h)
  |(go_at_call 203;(with_reducible refine(val_parts p i3 i4 ps HPS.out H.out).mono ?_);rintro e_ wn ⟨pv,rfl,h⟩;obtain⟨qx,capx,hpv⟩:=flat_form (Know.has_right (Know.has_refl _)) h;subst hpv;have h:=h.p1;replace H:=Lib.hid h;clear h)
  |(at_builtin;refine wpl_app1_st rfl _ _ 28 rfl 173 Tryz.underlying28 elem_top _ _ _ rfl H.out [.string (bb nm),.slice qx ps.length capx] 173 rfl rfl (by simp[Value.oneCell']) zq34 (by have:=HAB.out;omega) ?_;intro v' w' h;have h:=h.p1;replace H:=Lib.hid h;clear h)
  |(go_at_call 22;(with_reducible refine(s_errV p i4 0 HER.out H.out).mono ?_);rintro e_ wn ⟨rfl,h⟩;have h:=h.p1;replace H:=Lib.hid h;clear h))
      go_roundw
      case rel=>exact⟨k+1,i4,acc++[((⟨nm,ps⟩:TopS),.slice qx ps.length capx)],K2.and (Know.flat RI (.slice qx ps.length capx) 1 ps),hlt,by go_num,Lib.hid (by rw[List.length_append,HAL.out];rfl),Lib.hid (by rw[List.map_append];exact HP2.out),Lib.hid (Know.has_trans (Know.has_left (Know.has_refl _)) HKK.out),Lib.hid (fun x hx=>by
       rcases List.mem_append.1 hx with hx|hx
       · exact Know.has_left (HALL.out x hx)
       · rw[List.mem_singleton.1 hx];exact Know.has_right (Know.has_refl _)),by rw[List.length_append,List.flatMap_append];exact H.out⟩
      case measure=>first|(simp[intOf];done)|(simp[intOf];omega)
    · as_aux_lemma=>
      rw[if_neg he0]at hstep;simp only[Prod.mk.injEq]at hstep;obtain⟨rfl,rfl⟩:=hstep;have gz:(er==0)=false:=by rw[beq_eq_false_iff_ne];exact he0
      have gz3:(er !=0)=true:=by simp[bne,gz]
      clear he0
      go_wp2_with (first
  |(go_at_call 87;(with_reducible refine(blob_textV p i2 i3 nm HT.out H.out.p1).mono ?_);rintro e_ wn ⟨rfl,h⟩;replace H:=Lib.hid h;clear h)
  |(go_at_call 203;(with_reducible refine(val_parts p i3 _ ps HPS.out H.out).mono ?_);rintro e_ wn ⟨pv,rfl,h⟩;obtain⟨qx,capx,hpv⟩:=flat_form (Know.has_right (Know.has_refl _)) h;subst hpv;have h:=h.p1;replace H:=Lib.hid h;clear h)
  |(at_builtin;refine wpl_app1_st rfl _ _ 28 rfl 173 Tryz.underlying28 elem_top _ _ _ rfl H.out [.string (bb nm),.slice qx ps.length capx] 173 rfl rfl (by simp[Value.oneCell']) zq34 (by have:=HAB.out;omega) ?_;intro v' w' h;have h:=h.p1;replace H:=Lib.hid h;clear h)
  |(go_at_call 22;(with_reducible refine(s_errV p _ er HER.out H.out).mono ?_);rintro e_ wn ⟨rfl,h⟩;replace H:=Lib.hid h;clear h))
      go_ret;exact⟨_,[],rfl,rfl,(H.out.p1.drop).know (Know.has_trans (Know.has_left HKK.out) (tops_nil K))⟩
  · obtain rfl:k=n:=by omega
    have hp:=HP.out;rw[Nat.sub_self]at hp;have hp:(acc.map (·.1),i2)=(l,j):=hp;simp only[Prod.mk.injEq]at hp;obtain⟨rfl,rfl⟩:=hp;go_wp2;go_ret;have hf:=H.out.freezeRow (R:=RTop) (fun x _=>⟨rfl,rfl⟩);have hf2:=hf.know (K':=K.and (Know.tops _ acc)) (fun w F hh=>⟨HKK.out _ _ hh.1,hh.2,fun y hy=>HALL.out y hy _ _ hh.1⟩)
    first|exact⟨_,acc,rfl,rfl,hf2⟩|exact⟨_,rfl,acc,rfl,hf2⟩
set_option maxHeartbeats 2000000 in
set_option maxRecDepth 100000 in
theorem val_fields (b:Nat) (i i1 i2 i3 i4 i5 i6 i7:InS) (p e t s u st:Int) (l:List TopS) (h1:i.int 8=(p,i1)) (h2:i1.int 2=(e,i2)) (h3:i2.int 4=(t,i3)) (h4:i3.int 1=(s,i4)) (h5:i4.tops=(l,i5)) (h6:i5.int 8=(u,i6)) (h7:i6.int 8=(st,i7)){W0 w:World}{K:Know}{L:List Res}(h:St W0 w K (.inp b i::L)):
  Calls Tryz.prog 90 #[inPtr b] w fun en w'=>∃(qt:Option Addr) (capt:Nat) (lr:List (TopS×Value)),en=.returned (.agg #[.int .i64 p,.int .i64 e,.int .i64 t,.int .i64 s,.slice qt lr.length capt,.int .i64 u,.int .i64 st])∧lr.map (·.1)=l∧St W0 w' (K.and (Know.tops (.slice qt lr.length capt) lr)) (.inp b i7::L):=by
 obtain⟨rb,hrb⟩:∃b,w.heap.size=b:=⟨_,rfl⟩;obtain⟨vb,hvb⟩:∃b,rb+1=b:=⟨_,rfl⟩;have g1:=(h.allocRaw #[.int .i64 0,.int .i64 0,.int .i64 0,.int .i64 0,.slice none 0 0,.int .i64 0,.int .i64 0] 107).allocRaw #[.int .i64 0,.int .i64 0,.int .i64 0,.int .i64 0,.slice none 0 0,.int .i64 0,.int .i64 0] 107;simp only[World.size_alloc,hrb,hvb]at g1;obtain⟨i0,hi0⟩:∃i0,i=i0:=⟨_,rfl⟩;subst hi0;have H:=Lib.hid g1.p2;have H1:=Lib.hid h1;have H2:=Lib.hid h2;have H3:=Lib.hid h3;have H4:=Lib.hid h4;have H5:=Lib.hid h5;have H6:=Lib.hid h6;have H7:=Lib.hid h7;clear h g1 h1 h2 h3 h4 h5 h6 h7;go_enter Tryz.func90,Tryz.ntmps90
 go_wp2_with (first
  |(go_at_call 66;(with_reducible refine(s_intV b i i1 p 8 H1.out H.out).mono ?_);rintro e_ wn ⟨rfl,h⟩;have f0:=h.p1.rawFree 0;have g0:=h.p1.rawCell 0;simp at g0;have h:=(show St W0 (wn.setCell ⟨vb,0,none⟩ (.int .i64 p)) K (.inp b i1::.raw vb #[.int .i64 p,.int .i64 0,.int .i64 0,.int .i64 0,.slice none 0 0,.int .i64 0,.int .i64 0] 107::.raw rb #[.int .i64 0,.int .i64 0,.int .i64 0,.int .i64 0,.slice none 0 0,.int .i64 0,.int .i64 0] 107::L)from(h.p1.rawSet 0 (.int .i64 p)).p1);replace H:=Lib.hid h;clear h)
  |(go_at_call 66;(with_reducible refine(s_intV b i1 i2 e 2 H2.out H.out).mono ?_);rintro e_ wn ⟨rfl,h⟩;have f1:=h.p1.rawFree 1;have g1:=h.p1.rawCell 1;simp at g1;have h:=(show St W0 (wn.setCell ⟨vb,1,none⟩ (.int .i64 e)) K (.inp b i2::.raw vb #[.int .i64 p,.int .i64 e,.int .i64 0,.int .i64 0,.slice none 0 0,.int .i64 0,.int .i64 0] 107::.raw rb #[.int .i64 0,.int .i64 0,.int .i64 0,.int .i64 0,.slice none 0 0,.int .i64 0,.int .i64 0] 107::L)from(h.p1.rawSet 1 (.int .i64 e)).p1);replace H:=Lib.hid h;clear h)
  |(go_at_call 66;(with_reducible refine(s_intV b i2 i3 t 4 H3.out H.out).mono ?_);rintro e_ wn ⟨rfl,h⟩;have f2:=h.p1.rawFree 2;have g2:=h.p1.rawCell 2;simp at g2;have h:=(show St W0 (wn.setCell ⟨vb,2,none⟩ (.int .i64 t)) K (.inp b i3::.raw vb #[.int .i64 p,.int .i64 e,.int .i64 t,.int .i64 0,.slice none 0 0,.int .i64 0,.int .i64 0] 107::.raw rb #[.int .i64 0,.int .i64 0,.int .i64 0,.int .i64 0,.slice none 0 0,.int .i64 0,.int .i64 0] 107::L)from(h.p1.rawSet 2 (.int .i64 t)).p1);replace H:=Lib.hid h;clear h)
  |(go_at_call 66;(with_reducible refine(s_intV b i3 i4 s 1 H4.out H.out).mono ?_);rintro e_ wn ⟨rfl,h⟩;have f3:=h.p1.rawFree 3;have g3:=h.p1.rawCell 3;simp at g3;have h:=(show St W0 (wn.setCell ⟨vb,3,none⟩ (.int .i64 s)) K (.inp b i4::.raw vb #[.int .i64 p,.int .i64 e,.int .i64 t,.int .i64 s,.slice none 0 0,.int .i64 0,.int .i64 0] 107::.raw rb #[.int .i64 0,.int .i64 0,.int .i64 0,.int .i64 0,.slice none 0 0,.int .i64 0,.int .i64 0] 107::L)from(h.p1.rawSet 3 (.int .i64 s)).p1);replace H:=Lib.hid h;clear h)
  |(go_at_call 145;(with_reducible refine(val_topics b i4 i5 l H5.out H.out).mono ?_);rintro e_ wn ⟨tv,lr,rfl,hlr,h⟩;obtain⟨qt,capt,htv⟩:=tops_form (Know.has_right (Know.has_refl _)) h;subst htv;have HLR:=Lib.hid hlr;clear hlr;have f4:=h.p1.rawFree 4;have g4:=h.p1.rawCell 4;simp at g4;have h:=(show St W0 (wn.setCell ⟨vb,4,none⟩ (.slice qt lr.length capt)) (K.and (Know.tops (.slice qt lr.length capt) lr)) (.inp b i5::.raw vb #[.int .i64 p,.int .i64 e,.int .i64 t,.int .i64 s,.slice qt lr.length capt,.int .i64 0,.int .i64 0] 107::.raw rb #[.int .i64 0,.int .i64 0,.int .i64 0,.int .i64 0,.slice none 0 0,.int .i64 0,.int .i64 0] 107::L)from(h.p1.rawSet 4 (.slice qt lr.length capt)).p1);replace H:=Lib.hid h;clear h)
  |(go_at_call 66;(with_reducible refine(s_intV b i5 i6 u 8 H6.out H.out).mono ?_);rintro e_ wn ⟨rfl,h⟩;have f5:=h.p1.rawFree 5;have g5:=h.p1.rawCell 5;simp at g5;have h:=(show St W0 (wn.setCell ⟨vb,5,none⟩ (.int .i64 u)) (K.and (Know.tops (.slice qt lr.length capt) lr)) (.inp b i6::.raw vb #[.int .i64 p,.int .i64 e,.int .i64 t,.int .i64 s,.slice qt lr.length capt,.int .i64 u,.int .i64 0] 107::.raw rb #[.int .i64 0,.int .i64 0,.int .i64 0,.int .i64 0,.slice none 0 0,.int .i64 0,.int .i64 0] 107::L)from(h.p1.rawSet 5 (.int .i64 u)).p1);replace H:=Lib.hid h;clear h)
  |(go_at_call 66;(with_reducible refine(s_intV b i6 i7 st 8 H7.out H.out).mono ?_);rintro e_ wn ⟨rfl,h⟩;have f6:=h.p1.rawFree 6;have g6:=h.p1.rawCell 6;simp at g6;have h:=(show St W0 (wn.setCell ⟨vb,6,none⟩ (.int .i64 st)) (K.and (Know.tops (.slice qt lr.length capt) lr)) (.inp b i7::.raw vb #[.int .i64 p,.int .i64 e,.int .i64 t,.int .i64 s,.slice qt lr.length capt,.int .i64 u,.int .i64 st] 107::.raw rb #[.int .i64 0,.int .i64 0,.int .i64 0,.int .i64 0,.slice none 0 0,.int .i64 0,.int .i64 0] 107::L)from(h.p1.rawSet 6 (.int .i64 st)).p1);have c0:=h.p1.rawCell 0;have c1:=h.p1.rawCell 1;have c2:=h.p1.rawCell 2;have c3:=h.p1.rawCell 3;have c4:=h.p1.rawCell 4;have c5:=h.p1.rawCell 5;have c6:=h.p1.rawCell 6;have d0:=h.p2.rawCell 0;have r0:=h.p2.rawFree 0;have d1:=h.p2.rawCell 1;have r1:=h.p2.rawFree 1;have d2:=h.p2.rawCell 2;have r2:=h.p2.rawFree 2;have d3:=h.p2.rawCell 3;have r3:=h.p2.rawFree 3;have d4:=h.p2.rawCell 4;have r4:=h.p2.rawFree 4;have d5:=h.p2.rawCell 5;have r5:=h.p2.rawFree 5;have d6:=h.p2.rawCell 6;have r6:=h.p2.rawFree 6;simp at c0 c1 c2 c3 c4 c5 c6 d0 d1 d2 d3 d4 d5 d6;replace H:=Lib.hid h;clear h))
 have hz:St W0 _ _ (.raw rb #[.int .i64 p,.int .i64 e,.int .i64 t,.int .i64 s,.slice qt lr.length capt,.int .i64 u,.int .i64 st] 107::.inp b i7::.raw vb #[.int .i64 p,.int .i64 e,.int .i64 t,.int .i64 s,.slice qt lr.length capt,.int .i64 u,.int .i64 st] 107::L):=(((((((H.out.p2).rawSet 0 _).rawSet 1 _).rawSet 2 _).rawSet 3 _).rawSet 4 _).rawSet 5 _).rawSet 6 _;refine bodyPost_ret (rc_cell_only rfl _ _ rb [.int .i64 p,.int .i64 e,.int .i64 t,.int .i64 s,.slice qt lr.length capt,.int .i64 u,.int .i64 st] _ rfl (rc_range hz) Tryz.underlying107 rfl (by kernel_rfl)) rfl ?_;exact⟨qt,capt,lr,rfl,HLR.out,hz.drop.p1.drop⟩
theorem St.sets7 {W0 w:World}{K:Know}{L:List Res}{b:Nat}{T:TypeId}{a0 a1 a2 a3 a4 a5 a6:Value}(v0 v1 v2 v3 v4 v5 v6:Value) (h:St W0 w K (.raw b #[a0,a1,a2,a3,a4,a5,a6] T::L)):St W0 (((((((w.setCell ⟨b,0,none⟩ v0).setCell ⟨b,1,none⟩ v1).setCell ⟨b,2,none⟩ v2).setCell ⟨b,3,none⟩ v3).setCell ⟨b,4,none⟩ v4).setCell ⟨b,5,none⟩ v5).setCell ⟨b,6,none⟩ v6) K (.raw b #[v0,v1,v2,v3,v4,v5,v6] T::L):=by
 have h:St W0 _ K (.raw b #[v0,a1,a2,a3,a4,a5,a6] T::L):=h.rawSet 0 v0;have h:St W0 _ K (.raw b #[v0,v1,a2,a3,a4,a5,a6] T::L):=h.rawSet 1 v1;have h:St W0 _ K (.raw b #[v0,v1,v2,a3,a4,a5,a6] T::L):=h.rawSet 2 v2;have h:St W0 _ K (.raw b #[v0,v1,v2,v3,a4,a5,a6] T::L):=h.rawSet 3 v3;have h:St W0 _ K (.raw b #[v0,v1,v2,v3,v4,a5,a6] T::L):=h.rawSet 4 v4;have h:St W0 _ K (.raw b #[v0,v1,v2,v3,v4,v5,a6] T::L):=h.rawSet 5 v5;have h:St W0 _ K (.raw b #[v0,v1,v2,v3,v4,v5,v6] T::L):=h.rawSet 6 v6;exact h
theorem s_failV (p:Nat) (i j:InS) (e:Int) (hx:i.fail e=j){W0 w:World}{K:Know}{L:List Res}(h:St W0 w K (.inp p i::L)):
  Calls Tryz.prog 70 #[inPtr p,.int .i64 e] w fun en w'=>en=.returned (.tuple #[])∧St W0 w' K (.inp p j::L):=by
 subst hx;exact s_fail p i e h
theorem s_closeV (p:Nat) (i:InS) (e:Int) (hx:i.close.err=e){W0 w:World}{K:Know}{L:List Res}(h:St W0 w K (.inp p i::L)):
  Calls Tryz.prog 25 #[inPtr p] w fun en w'=>en=.returned (.int .i64 e)∧St W0 w' K (.inp p i.close::L):=by
 subst hx;exact s_close p i h
set_option maxHeartbeats 12000000 in
set_option maxRecDepth 100000 in
theorem val_decode_bad (S:Bs) (hsl:S.length≤1000000) (v:ValS) (E:Int) (hv:valDec S=(v,E)) (h0:E≠0){W0 w:World}{K:Know}{L:List Res}(h:St W0 w K L):
   Calls Tryz.prog 42 #[.string (bb S)] w fun en w'=>en=.returned (.tuple #[.agg #[.int .i64 0,.int .i64 0,.int .i64 0,.int .i64 0,.slice none 0 0,.int .i64 0,.int .i64 0],.int .i64 E])∧St W0 w' K L:=by
 obtain⟨rb,hrb⟩:∃b,w.heap.size=b:=⟨_,rfl⟩;have g1:=h.allocRaw #[.int .i64 0,.int .i64 0,.int .i64 0,.int .i64 0,.slice none 0 0,.int .i64 0,.int .i64 0] 107;rw[hrb]at g1;have H:=Lib.hid g1;have HSL:=Lib.hid (show S.length≤140737488355328 by omega);obtain⟨⟨a,j0⟩,ha⟩:∃r,(⟨S,0,0⟩:InS).int 2=r:=⟨_,rfl⟩;have HA:=Lib.hid ha;have hat:=decI_at S;obtain⟨j,hj⟩:∃j,decI S=j:=⟨_,rfl⟩;have hjj:j=if a=0 then j0 else j0.fail 7:=by rw[←hj];unfold decI;rw[ha]
 obtain⟨⟨p,i1⟩,h1⟩:∃r,j.int 8=r:=⟨_,rfl⟩;obtain⟨⟨e,i2⟩,h2⟩:∃r,i1.int 2=r:=⟨_,rfl⟩;obtain⟨⟨t,i3⟩,h3⟩:∃r,i2.int 4=r:=⟨_,rfl⟩;obtain⟨⟨s,i4⟩,h4⟩:∃r,i3.int 1=r:=⟨_,rfl⟩;obtain⟨⟨l,i5⟩,h5⟩:∃r,i4.tops=r:=⟨_,rfl⟩;obtain⟨⟨u,i6⟩,h6⟩:∃r,i5.int 8=r:=⟨_,rfl⟩;obtain⟨⟨st,i7⟩,h7⟩:∃r,i6.int 8=r:=⟨_,rfl⟩;have hF:=valF_eq h1 h2 h3 h4 h5 h6 h7;rw[hj]at hat;have hfl:=valF_few hat hsl;rw[hF]at hfl;have H1:=Lib.hid h1;have H2:=Lib.hid h2;have H3:=Lib.hid h3;have H4:=Lib.hid h4;have H5:=Lib.hid h5;have H6:=Lib.hid h6;have H7:=Lib.hid h7;have HFL:=Lib.hid (show FewL l from hfl);obtain⟨ec,hec⟩:∃ec,i7.close.err=ec:=⟨_,rfl⟩;have HEC:=Lib.hid hec;have hde:decE S=ec:=by unfold decE;rw[hj,hF];exact hec
 have hb:=valDec_bad hv h0;rw[hde,hj,hF]at hb;have gE:(E==0)=false:=by rw[beq_eq_false_iff_ne];exact h0
 have gE2:(E !=0)=true:=by simp[bne,gE]
 have hdz:=fun(hz:ec=0)=>decE_zero (s:=S) (by rw[hde];exact hz)
 rw[ha]at hdz
 rcases hb with hb|⟨hb1,hb2⟩
 · subst hb
   by_cases ha0:a=0
   · as_aux_lemma=>
     rw[if_pos ha0]at hjj;subst hjj;subst ha0;clear h g1 ha hat hj h1 h2 h3 h4 h5 h6 h7 hF hfl hec hde hdz hv hsl h0;go_enter Tryz.func42,Tryz.ntmps42
     go_wp2_with (first
   |(go_at_call 19;(with_reducible refine(s_new S HSL.out H.out).mono ?_);rintro e_ wn ⟨bi,rfl,h⟩;replace H:=Lib.hid h;clear h)
   |(go_at_call 66;(with_reducible refine(s_intV bi _ _ _ 2 HA.out H.out).mono ?_);rintro e_ wn ⟨rfl,h⟩;replace H:=Lib.hid h;clear h)
   |(go_at_call 90;(with_reducible refine(val_fields bi _ _ _ _ _ _ _ _ p e t s u st l H1.out H2.out H3.out H4.out H5.out H6.out H7.out H.out).mono ?_);rintro e_ wn ⟨qt,capt,lr,rfl,hlr,h⟩;obtain⟨vb,hvb⟩:∃b,wn.heap.size=b:=⟨_,rfl⟩;have h:=h.allocRaw #[.int .i64 p,.int .i64 e,.int .i64 t,.int .i64 s,.slice qt lr.length capt,.int .i64 u,.int .i64 st] 107;rw[hvb]at h;have HLR:=Lib.hid hlr;clear hlr;replace H:=Lib.hid h;clear h)
   |(go_at_call 25;(with_reducible refine(s_closeV bi _ _ HEC.out H.out.p1).mono ?_);rintro e_ wn ⟨rfl,h⟩;have c0:=h.p1.rawCell 0;have c1:=h.p1.rawCell 1;have c2:=h.p1.rawCell 2;have c3:=h.p1.rawCell 3;have c4:=h.p1.rawCell 4;have c5:=h.p1.rawCell 5;have c6:=h.p1.rawCell 6;simp at c0 c1 c2 c3 c4 c5 c6;have d0:=h.p2.rawCell 0;have r0:=h.p2.rawFree 0;have d1:=h.p2.rawCell 1;have r1:=h.p2.rawFree 1;have d2:=h.p2.rawCell 2;have r2:=h.p2.rawFree 2;have d3:=h.p2.rawCell 3;have r3:=h.p2.rawFree 3;have d4:=h.p2.rawCell 4;have r4:=h.p2.rawFree 4;have d5:=h.p2.rawCell 5;have r5:=h.p2.rawFree 5;have d6:=h.p2.rawCell 6;have r6:=h.p2.rawFree 6;simp at d0 d1 d2 d3 d4 d5 d6;replace H:=Lib.hid h;clear h))
     have hz:St W0 _ _ (.raw rb #[.int .i64 0,.int .i64 0,.int .i64 0,.int .i64 0,.slice none 0 0,.int .i64 0,.int .i64 0] 107::_):=St.sets7 _ _ _ _ _ _ _ (H.out.p2);refine bodyPost_ret (rc_cell_tmp rfl _ _ rb [.int .i64 0,.int .i64 0,.int .i64 0,.int .i64 0,.slice none 0 0,.int .i64 0,.int .i64 0] _ rfl (rc_range hz) Tryz.underlying107 rfl (by kernel_rfl)) rfl ?_;exact⟨rfl,(hz.drop.drop.drop).know (Know.has_left (Know.has_refl _))⟩
   · as_aux_lemma=>
     rw[if_neg ha0]at hjj;have HJ:=Lib.hid hjj.symm;have ga:(a==0)=false:=by rw[beq_eq_false_iff_ne];exact ha0
     have ga2:(a !=0)=true:=by simp[bne,ga]
     clear h g1 ha hat hj h1 h2 h3 h4 h5 h6 h7 hF hfl hec hde hdz hv hsl h0 hjj ha0;go_enter Tryz.func42,Tryz.ntmps42
     go_wp2_with (first
   |(go_at_call 19;(with_reducible refine(s_new S HSL.out H.out).mono ?_);rintro e_ wn ⟨bi,rfl,h⟩;replace H:=Lib.hid h;clear h)
   |(go_at_call 66;(with_reducible refine(s_intV bi _ _ _ 2 HA.out H.out).mono ?_);rintro e_ wn ⟨rfl,h⟩;replace H:=Lib.hid h;clear h)
   |(go_at_call 70;(with_reducible refine(s_failV bi _ _ 7 HJ.out H.out).mono ?_);rintro e_ wn ⟨rfl,h⟩;replace H:=Lib.hid h;clear h)
   |(go_at_call 90;(with_reducible refine(val_fields bi _ _ _ _ _ _ _ _ p e t s u st l H1.out H2.out H3.out H4.out H5.out H6.out H7.out H.out).mono ?_);rintro e_ wn ⟨qt,capt,lr,rfl,hlr,h⟩;obtain⟨vb,hvb⟩:∃b,wn.heap.size=b:=⟨_,rfl⟩;have h:=h.allocRaw #[.int .i64 p,.int .i64 e,.int .i64 t,.int .i64 s,.slice qt lr.length capt,.int .i64 u,.int .i64 st] 107;rw[hvb]at h;have HLR:=Lib.hid hlr;clear hlr;replace H:=Lib.hid h;clear h)
   |(go_at_call 25;(with_reducible refine(s_closeV bi _ _ HEC.out H.out.p1).mono ?_);rintro e_ wn ⟨rfl,h⟩;have c0:=h.p1.rawCell 0;have c1:=h.p1.rawCell 1;have c2:=h.p1.rawCell 2;have c3:=h.p1.rawCell 3;have c4:=h.p1.rawCell 4;have c5:=h.p1.rawCell 5;have c6:=h.p1.rawCell 6;simp at c0 c1 c2 c3 c4 c5 c6;have d0:=h.p2.rawCell 0;have r0:=h.p2.rawFree 0;have d1:=h.p2.rawCell 1;have r1:=h.p2.rawFree 1;have d2:=h.p2.rawCell 2;have r2:=h.p2.rawFree 2;have d3:=h.p2.rawCell 3;have r3:=h.p2.rawFree 3;have d4:=h.p2.rawCell 4;have r4:=h.p2.rawFree 4;have d5:=h.p2.rawCell 5;have r5:=h.p2.rawFree 5;have d6:=h.p2.rawCell 6;have r6:=h.p2.rawFree 6;simp at d0 d1 d2 d3 d4 d5 d6;replace H:=Lib.hid h;clear h))
     have hz:St W0 _ _ (.raw rb #[.int .i64 0,.int .i64 0,.int .i64 0,.int .i64 0,.slice none 0 0,.int .i64 0,.int .i64 0] 107::_):=St.sets7 _ _ _ _ _ _ _ (H.out.p2);refine bodyPost_ret (rc_cell_tmp rfl _ _ rb [.int .i64 0,.int .i64 0,.int .i64 0,.int .i64 0,.slice none 0 0,.int .i64 0,.int .i64 0] _ rfl (rc_range hz) Tryz.underlying107 rfl (by kernel_rfl)) rfl ?_;exact⟨rfl,(hz.drop.drop.drop).know (Know.has_left (Know.has_refl _))⟩
 · as_aux_lemma=>
   have ha0:a=0:=hdz hb1;rw[if_pos ha0]at hjj;subst hjj;subst ha0;subst hb1;have HE:=Lib.hid (show ValS.err ⟨p,e,t,s,l,u,st⟩=E from hb2);clear h g1 ha hat hj h1 h2 h3 h4 h5 h6 h7 hF hfl hec hde hdz hv hsl h0 hb2;go_enter Tryz.func42,Tryz.ntmps42
   go_wp2_with (first
   |(go_at_call 19;(with_reducible refine(s_new S HSL.out H.out).mono ?_);rintro e_ wn ⟨bi,rfl,h⟩;replace H:=Lib.hid h;clear h)
   |(go_at_call 66;(with_reducible refine(s_intV bi _ _ _ 2 HA.out H.out).mono ?_);rintro e_ wn ⟨rfl,h⟩;replace H:=Lib.hid h;clear h)
   |(go_at_call 90;(with_reducible refine(val_fields bi _ _ _ _ _ _ _ _ p e t s u st l H1.out H2.out H3.out H4.out H5.out H6.out H7.out H.out).mono ?_);rintro e_ wn ⟨qt,capt,lr,rfl,hlr,h⟩;obtain⟨vb,hvb⟩:∃b,wn.heap.size=b:=⟨_,rfl⟩;have h:=h.allocRaw #[.int .i64 p,.int .i64 e,.int .i64 t,.int .i64 s,.slice qt lr.length capt,.int .i64 u,.int .i64 st] 107;rw[hvb]at h;have HLR:=Lib.hid hlr;clear hlr;replace H:=Lib.hid h;clear h)
   |(go_at_call 25;(with_reducible refine(s_closeV bi _ _ HEC.out H.out.p1).mono ?_);rintro e_ wn ⟨rfl,h⟩;have c0:=h.p1.rawCell 0;have c1:=h.p1.rawCell 1;have c2:=h.p1.rawCell 2;have c3:=h.p1.rawCell 3;have c4:=h.p1.rawCell 4;have c5:=h.p1.rawCell 5;have c6:=h.p1.rawCell 6;simp at c0 c1 c2 c3 c4 c5 c6;have d0:=h.p2.rawCell 0;have r0:=h.p2.rawFree 0;have d1:=h.p2.rawCell 1;have r1:=h.p2.rawFree 1;have d2:=h.p2.rawCell 2;have r2:=h.p2.rawFree 2;have d3:=h.p2.rawCell 3;have r3:=h.p2.rawFree 3;have d4:=h.p2.rawCell 4;have r4:=h.p2.rawFree 4;have d5:=h.p2.rawCell 5;have r5:=h.p2.rawFree 5;have d6:=h.p2.rawCell 6;have r6:=h.p2.rawFree 6;simp at d0 d1 d2 d3 d4 d5 d6;replace H:=Lib.hid h;clear h)
   |(go_at_call 91;(with_reducible refine(val_checkV p e t s u st lr _ _ E (by rw[HLR.out];exact HE.out) (fewT_of (by rw[HLR.out];exact HFL.out)) (Know.has_right (Know.has_refl _)) H.out).mono ?_);rintro e_ wn ⟨rfl,h⟩;have c0:=h.p1.rawCell 0;have c1:=h.p1.rawCell 1;have c2:=h.p1.rawCell 2;have c3:=h.p1.rawCell 3;have c4:=h.p1.rawCell 4;have c5:=h.p1.rawCell 5;have c6:=h.p1.rawCell 6;simp at c0 c1 c2 c3 c4 c5 c6;have d0:=h.p2.rawCell 0;have r0:=h.p2.rawFree 0;have d1:=h.p2.rawCell 1;have r1:=h.p2.rawFree 1;have d2:=h.p2.rawCell 2;have r2:=h.p2.rawFree 2;have d3:=h.p2.rawCell 3;have r3:=h.p2.rawFree 3;have d4:=h.p2.rawCell 4;have r4:=h.p2.rawFree 4;have d5:=h.p2.rawCell 5;have r5:=h.p2.rawFree 5;have d6:=h.p2.rawCell 6;have r6:=h.p2.rawFree 6;simp at d0 d1 d2 d3 d4 d5 d6;replace H:=Lib.hid h;clear h))
   have hz:St W0 _ _ (.raw rb #[.int .i64 0,.int .i64 0,.int .i64 0,.int .i64 0,.slice none 0 0,.int .i64 0,.int .i64 0] 107::_):=St.sets7 _ _ _ _ _ _ _ (H.out.p2);refine bodyPost_ret (rc_cell_tmp rfl _ _ rb [.int .i64 0,.int .i64 0,.int .i64 0,.int .i64 0,.slice none 0 0,.int .i64 0,.int .i64 0] _ rfl (rc_range hz) Tryz.underlying107 rfl (by kernel_rfl)) rfl ?_;exact⟨rfl,(hz.drop.drop.drop).know (Know.has_left (Know.has_refl _))⟩
set_option maxHeartbeats 12000000 in
set_option maxRecDepth 100000 in
theorem val_decode_ok (S:Bs) (hsl:S.length≤1000000) (v:ValS) (hv:valDec S=(v,0)){W0 w:World}{K:Know}{L:List Res}(h:St W0 w K L):
  Calls Tryz.prog 42 #[.string (bb S)] w fun en w'=>∃(qt:Option Addr) (capt:Nat) (lr:List (TopS×Value)),en=.returned (.tuple #[.agg #[.int .i64 v.prod,.int .i64 v.epoch,.int .i64 v.timeout,.int .i64 v.state,.slice qt lr.length capt,.int .i64 v.upd,.int .i64 v.started],.int .i64 0])∧lr.map (·.1)=v.tops∧St W0 w' (K.and (Know.tops (.slice qt lr.length capt) lr)) L:=by
 obtain⟨rb,hrb⟩:∃b,w.heap.size=b:=⟨_,rfl⟩;have g1:=h.allocRaw #[.int .i64 0,.int .i64 0,.int .i64 0,.int .i64 0,.slice none 0 0,.int .i64 0,.int .i64 0] 107;rw[hrb]at g1;have H:=Lib.hid g1;have HSL:=Lib.hid (show S.length≤140737488355328 by omega);obtain⟨⟨a,j0⟩,ha⟩:∃r,(⟨S,0,0⟩:InS).int 2=r:=⟨_,rfl⟩;have HA:=Lib.hid ha;have hat:=decI_at S;obtain⟨j,hj⟩:∃j,decI S=j:=⟨_,rfl⟩;have hjj:j=if a=0 then j0 else j0.fail 7:=by rw[←hj];unfold decI;rw[ha]
 obtain⟨⟨p,i1⟩,h1⟩:∃r,j.int 8=r:=⟨_,rfl⟩;obtain⟨⟨e,i2⟩,h2⟩:∃r,i1.int 2=r:=⟨_,rfl⟩;obtain⟨⟨t,i3⟩,h3⟩:∃r,i2.int 4=r:=⟨_,rfl⟩;obtain⟨⟨s,i4⟩,h4⟩:∃r,i3.int 1=r:=⟨_,rfl⟩;obtain⟨⟨l,i5⟩,h5⟩:∃r,i4.tops=r:=⟨_,rfl⟩;obtain⟨⟨u,i6⟩,h6⟩:∃r,i5.int 8=r:=⟨_,rfl⟩;obtain⟨⟨st,i7⟩,h7⟩:∃r,i6.int 8=r:=⟨_,rfl⟩;have hF:=valF_eq h1 h2 h3 h4 h5 h6 h7;rw[hj]at hat;have hfl:=valF_few hat hsl;rw[hF]at hfl;have H1:=Lib.hid h1;have H2:=Lib.hid h2;have H3:=Lib.hid h3;have H4:=Lib.hid h4;have H5:=Lib.hid h5;have H6:=Lib.hid h6;have H7:=Lib.hid h7;have HFL:=Lib.hid (show FewL l from hfl);obtain⟨ec,hec⟩:∃ec,i7.close.err=ec:=⟨_,rfl⟩;have HEC:=Lib.hid hec;have hde:decE S=ec:=by unfold decE;rw[hj,hF];exact hec
 obtain⟨hb1,hb2,hb3⟩:=valDec_ok hv (.inr trivial);rw[hde]at hb1;rw[hj,hF]at hb2;have hdz:=decE_zero (s:=S) (by rw[hde];exact hb1);rw[ha]at hdz;have ha0:a=0:=hdz;rw[if_pos ha0]at hjj;have hb2:(⟨p,e,t,s,l,u,st⟩:ValS)=v:=hb2;subst hb2;subst hjj;subst ha0;subst hb1;have HE:=Lib.hid hb3;clear h g1 ha hat hj h1 h2 h3 h4 h5 h6 h7 hF hfl hec hde hdz hv hsl hb3;go_enter Tryz.func42,Tryz.ntmps42
 go_wp2_with (first
  |(go_at_call 19;(with_reducible refine(s_new S HSL.out H.out).mono ?_);rintro e_ wn ⟨bi,rfl,h⟩;replace H:=Lib.hid h;clear h)
  |(go_at_call 66;(with_reducible refine(s_intV bi _ _ _ 2 HA.out H.out).mono ?_);rintro e_ wn ⟨rfl,h⟩;replace H:=Lib.hid h;clear h)
  |(go_at_call 90;(with_reducible refine(val_fields bi _ _ _ _ _ _ _ _ p e t s u st l H1.out H2.out H3.out H4.out H5.out H6.out H7.out H.out).mono ?_);rintro e_ wn ⟨qt,capt,lr,rfl,hlr,h⟩;obtain⟨vb,hvb⟩:∃b,wn.heap.size=b:=⟨_,rfl⟩;have h:=h.allocRaw #[.int .i64 p,.int .i64 e,.int .i64 t,.int .i64 s,.slice qt lr.length capt,.int .i64 u,.int .i64 st] 107;rw[hvb]at h;have HLR:=Lib.hid hlr;clear hlr;replace H:=Lib.hid h;clear h)
  |(go_at_call 25;(with_reducible refine(s_closeV bi _ _ HEC.out H.out.p1).mono ?_);rintro e_ wn ⟨rfl,h⟩;have c0:=h.p1.rawCell 0;have c1:=h.p1.rawCell 1;have c2:=h.p1.rawCell 2;have c3:=h.p1.rawCell 3;have c4:=h.p1.rawCell 4;have c5:=h.p1.rawCell 5;have c6:=h.p1.rawCell 6;simp at c0 c1 c2 c3 c4 c5 c6;have d0:=h.p2.rawCell 0;have r0:=h.p2.rawFree 0;have d1:=h.p2.rawCell 1;have r1:=h.p2.rawFree 1;have d2:=h.p2.rawCell 2;have r2:=h.p2.rawFree 2;have d3:=h.p2.rawCell 3;have r3:=h.p2.rawFree 3;have d4:=h.p2.rawCell 4;have r4:=h.p2.rawFree 4;have d5:=h.p2.rawCell 5;have r5:=h.p2.rawFree 5;have d6:=h.p2.rawCell 6;have r6:=h.p2.rawFree 6;simp at d0 d1 d2 d3 d4 d5 d6;replace H:=Lib.hid h;clear h)
  |(go_at_call 91;(with_reducible refine(val_checkV p e t s u st lr _ _ 0 (by rw[HLR.out];exact HE.out) (fewT_of (by rw[HLR.out];exact HFL.out)) (Know.has_right (Know.has_refl _)) H.out).mono ?_);rintro e_ wn ⟨rfl,h⟩;have c0:=h.p1.rawCell 0;have c1:=h.p1.rawCell 1;have c2:=h.p1.rawCell 2;have c3:=h.p1.rawCell 3;have c4:=h.p1.rawCell 4;have c5:=h.p1.rawCell 5;have c6:=h.p1.rawCell 6;simp at c0 c1 c2 c3 c4 c5 c6;have d0:=h.p2.rawCell 0;have r0:=h.p2.rawFree 0;have d1:=h.p2.rawCell 1;have r1:=h.p2.rawFree 1;have d2:=h.p2.rawCell 2;have r2:=h.p2.rawFree 2;have d3:=h.p2.rawCell 3;have r3:=h.p2.rawFree 3;have d4:=h.p2.rawCell 4;have r4:=h.p2.rawFree 4;have d5:=h.p2.rawCell 5;have r5:=h.p2.rawFree 5;have d6:=h.p2.rawCell 6;have r6:=h.p2.rawFree 6;simp at d0 d1 d2 d3 d4 d5 d6;replace H:=Lib.hid h;clear h))
 have hz:St W0 _ _ (.raw rb #[.int .i64 p,.int .i64 e,.int .i64 t,.int .i64 s,.slice qt lr.length capt,.int .i64 u,.int .i64 st] 107::_):=St.sets7 _ _ _ _ _ _ _ (H.out.p2);refine bodyPost_ret (rc_cell_tmp rfl _ _ rb [.int .i64 p,.int .i64 e,.int .i64 t,.int .i64 s,.slice qt lr.length capt,.int .i64 u,.int .i64 st] _ rfl (rc_range hz) Tryz.underlying107 rfl (by kernel_rfl)) rfl ?_;exact⟨qt,capt,lr,rfl,HLR.out,hz.drop.drop.drop⟩
set_option maxHeartbeats 1000000 in
set_option maxRecDepth 100000 in
theorem txn_who (p e:Int) (r:Bool) (hr:who p e=r){W0 w:World}{K:Know}{L:List Res}(h:St W0 w K L):
    Calls Tryz.prog 241 #[.int .i64 p,.int .i64 e] w fun en w'=>en=.returned (.bool r)∧St W0 w' K L:=by
  have H:=Lib.hid h;clear h
  cases r with
  |true=>
    obtain⟨h1,h2,h3⟩:=who_t hr;clear hr

    go_enter Tryz.func241,Tryz.ntmps241;go_wp2;go_ret;exact⟨rfl,H.out⟩
  |false=>
    by_cases h1:p<0
    · have g1:¬(0≤p):=by omega
      clear hr

      go_enter Tryz.func241,Tryz.ntmps241;go_wp2;go_ret;exact⟨rfl,H.out⟩
    · have g1:0≤p:=by omega
      by_cases h2:e<0
      · have g2:¬(0≤e):=by omega
        clear hr

        go_enter Tryz.func241,Tryz.ntmps241;go_wp2;go_ret;exact⟨rfl,H.out⟩
      · have g2:0≤e:=by omega
        have g3:¬(e≤32767):=by rcases who_f hr with h|h|h<;>omega
        clear hr

        go_enter Tryz.func241,Tryz.ntmps241;go_wp2;go_ret;exact⟨rfl,H.out⟩

set_option maxHeartbeats 1000000 in
set_option maxRecDepth 100000 in
theorem txn_rise (l:List (TopS×Value)) (q:Option Addr) (cap:Nat) (E:Int) (hE:riseE (l.map (·.1))=E) (hf:FewT l){W0 w:World}{K:Know}{L:List Res}(hk:K.has (Know.tops (.slice q l.length cap) l)) (h:St W0 w K L):
  Calls Tryz.prog 211 #[.slice q l.length cap] w fun en w'=>en=.returned (.int .i64 E)∧St W0 w' K L:=by
 have H:=Lib.hid h;have HE:=Lib.hid ((riseE_eq _).trans hE);have HF:=Lib.hid hf;have HK:=Lib.hid hk;clear h hE hf hk;go_enter Tryz.func211,Tryz.ntmps211;go_wp2_with (go_at_call 91;(with_reducible refine(val_checkV 0 0 0 1 0 0 l _ _ _ HE.out HF.out HK.out H.out).mono ?_);rintro e_ wn ⟨rfl,h⟩;replace H:=Lib.hid h;clear h);go_ret;exact⟨rfl,H.out⟩
set_option maxHeartbeats 1000000 in
set_option maxRecDepth 100000 in
theorem s_bool (b:Nat) (i j:InS) (c:Bool) (hx:i.boolP=(c,j)){W0 w:World}{K:Know}{L:List Res}(h:St W0 w K (.inp b i::L)):
   Calls Tryz.prog 178 #[inPtr b] w fun en w'=>en=.returned (.bool c)∧St W0 w' K (.inp b j::L):=by
 have H:=Lib.hid h;clear h;obtain⟨⟨n,k⟩,hn⟩:∃r,i.int 1=r:=⟨_,rfl⟩;have HN:=Lib.hid hn;unfold InS.boolP at hx;rw[hn]at hx;simp only[Prod.mk.injEq]at hx;obtain⟨hc,hj⟩:=hx;clear hn
 by_cases h0:n=0
 · rw[if_neg (by omega)]at hj;subst h0 hj hc;go_enter Tryz.func178,Tryz.ntmps178;go_wp2_with (go_at_call 66;(with_reducible refine(s_intV b _ _ _ 1 HN.out H.out).mono ?_);rintro e_ wn ⟨rfl,h⟩;replace H:=Lib.hid h;clear h);go_ret;exact⟨rfl,H.out⟩
 · by_cases h1:n=1
   · rw[if_neg (by omega)]at hj;subst h1 hj hc;go_enter Tryz.func178,Tryz.ntmps178;go_wp2_with (go_at_call 66;(with_reducible refine(s_intV b _ _ _ 1 HN.out H.out).mono ?_);rintro e_ wn ⟨rfl,h⟩;replace H:=Lib.hid h;clear h);go_ret;exact⟨rfl,H.out⟩
   · rw[if_pos ⟨h0,h1⟩]at hj;have g0:(n==0)=false:=by rw[beq_eq_false_iff_ne];exact h0
     have g00:(n !=0)=true:=by simp[bne,g0]
     have g1:(n==1)=false:=by rw[beq_eq_false_iff_ne];exact h1
     have g11:(n !=1)=true:=by simp[bne,g1]
     rw[g1]at hc;subst hc;have HJ:=Lib.hid hj;clear hj h0 h1;go_enter Tryz.func178,Tryz.ntmps178
     go_wp2_with (first
   |(go_at_call 66;(with_reducible refine(s_intV b _ _ _ 1 HN.out H.out).mono ?_);rintro e_ wn ⟨rfl,h⟩;replace H:=Lib.hid h;clear h)
   |(go_at_call 70;(with_reducible refine(s_failV b _ _ 11 HJ.out H.out).mono ?_);rintro e_ wn ⟨rfl,h⟩;replace H:=Lib.hid h;clear h))
     go_ret;exact⟨rfl,H.out⟩
theorem so_byteV (b:Nat) (e e2:Bs) (c:UInt8) (n:Int) (hn:n=c.toNat) (he:e++[c]=e2) (hl:e.length≤100000000000000){W0 w:World}{K:Know}{L:List Res}(h:St W0 w K (.out b ⟨e,0⟩::L)):
  Calls Tryz.prog 103 #[outPtr b,.int .u8 n] w fun en w'=>en=.returned (.tuple #[])∧St W0 w' K (.out b ⟨e2,0⟩::L):=by
 subst he hn;exact so_byte b ⟨e,0⟩ c h zq30
set_option maxHeartbeats 1000000 in
set_option maxRecDepth 100000 in
theorem txn_putBool (b:Nat) (e e2:Bs) (c:Bool) (he:e++encO c=e2) (hl:e.length≤100000000000000){W0 w:World}{K:Know}{L:List Res}(h:St W0 w K (.out b ⟨e,0⟩::L)):
  Calls Tryz.prog 160 #[outPtr b,.bool c] w fun en w'=>en=.returned (.tuple #[])∧St W0 w' K (.out b ⟨e2,0⟩::L):=by
 have H:=Lib.hid h;have HE:=Lib.hid he;have HL:=Lib.hid hl;clear h he hl
 cases c with
 |true=>
  have HE2:Hid (e++[1]=e2):=Lib.hid HE.out;have HN2:=Lib.hid (show(1:Int)=((1:UInt8).toNat:Int) by decide);go_enter Tryz.func160,Tryz.ntmps160;go_wp2_with (go_at_call 103;(with_reducible refine(so_byteV b e e2 1 1 HN2.out HE2.out HL.out H.out).mono ?_);rintro e_ wn ⟨rfl,h⟩;replace H:=Lib.hid h;clear h);go_end0;exact⟨rfl,H.out⟩
 |false=>
  have HE2:Hid (e++[0]=e2):=Lib.hid HE.out;have HN2:=Lib.hid (show(0:Int)=((0:UInt8).toNat:Int) by decide);go_enter Tryz.func160,Tryz.ntmps160;go_wp2_with (go_at_call 103;(with_reducible refine(so_byteV b e e2 0 0 HN2.out HE2.out HL.out H.out).mono ?_);rintro e_ wn ⟨rfl,h⟩;replace H:=Lib.hid h;clear h);go_end0;exact⟨rfl,H.out⟩
set_option maxHeartbeats 1000000 in
set_option maxRecDepth 100000 in
theorem txn_checkWriter (id:Bs) (p e:Int) (r:Int) (hr:chkW id p e=r) (hl:id.length≤140737488355328){W0 w:World}{K:Know}{L:List Res}(h:St W0 w K L):
  Calls Tryz.prog 210 #[.string (bb id),.int .i64 p,.int .i64 e] w fun en w'=>en=.returned (.int .i64 r)∧St W0 w' K L:=by
 have H:=Lib.hid h;have HL:=Lib.hid hl;unfold chkW at hr;obtain⟨a,ha⟩:∃a,keyRight id=a:=⟨_,rfl⟩;obtain⟨c,hc⟩:∃c,who p e=c:=⟨_,rfl⟩;have HA:=Lib.hid ha;have HC:=Lib.hid hc;rw[ha,hc]at hr;clear h hl ha hc
 cases a with
 |false=>
  obtain rfl:(4:Int)=r:=hr;go_enter Tryz.func210,Tryz.ntmps210;go_wp2_with (go_at_call 88;(with_reducible refine(key_right' id _ HL.out HA.out H.out).mono ?_);rintro e_ wn ⟨rfl,h⟩;replace H:=Lib.hid h;clear h);go_ret;exact⟨rfl,H.out⟩
 |true=>
  cases c with
  |false=>
   obtain rfl:(11:Int)=r:=hr;go_enter Tryz.func210,Tryz.ntmps210
   go_wp2_with (first
  |(go_at_call 88;(with_reducible refine(key_right' id _ HL.out HA.out H.out).mono ?_);rintro e_ wn ⟨rfl,h⟩;replace H:=Lib.hid h;clear h)
  |(go_at_call 241;(with_reducible refine(txn_who p e _ HC.out H.out).mono ?_);rintro e_ wn ⟨rfl,h⟩;replace H:=Lib.hid h;clear h))
   go_ret;exact⟨rfl,H.out⟩
  |true=>
   obtain rfl:(0:Int)=r:=hr;go_enter Tryz.func210,Tryz.ntmps210
   go_wp2_with (first
  |(go_at_call 88;(with_reducible refine(key_right' id _ HL.out HA.out H.out).mono ?_);rintro e_ wn ⟨rfl,h⟩;replace H:=Lib.hid h;clear h)
  |(go_at_call 241;(with_reducible refine(txn_who p e _ HC.out H.out).mono ?_);rintro e_ wn ⟨rfl,h⟩;replace H:=Lib.hid h;clear h))
   go_ret;exact⟨rfl,H.out⟩
set_option maxHeartbeats 1000000 in
set_option maxRecDepth 100000 in
theorem end_check (id:Bs) (p e:Int) (c:Bool) (r:Int) (hr:chkW id p e=r) (hl:id.length≤140737488355328){W0 w:World}{K:Know}{L:List Res}(h:St W0 w K L):
  Calls Tryz.prog 159 #[.agg #[.string (bb id),.int .i64 p,.int .i64 e,.bool c]] w fun en w'=>en=.returned (.int .i64 r)∧St W0 w' K L:=by
 have h0:=h.allocRaw #[.string (bb id),.int .i64 p,.int .i64 e,.bool c] 32;have H:=Lib.hid h0;have HR:=Lib.hid hr;have HL:=Lib.hid hl;clear h h0 hr hl;go_enter Tryz.func159,Tryz.ntmps159;go_wp2_with (go_at_call 210;(with_reducible refine(txn_checkWriter id p e _ HR.out HL.out H.out).mono ?_);rintro e_ wn ⟨rfl,h⟩;replace H:=Lib.hid h;clear h);go_ret;exact⟨rfl,H.out.drop⟩
theorem so_failT (p:Nat) (o o2:OutS) (e:Int) (hx:o.fail e=o2){W0 w:World}{K:Know}{L:List Res}(h:St W0 w K (.out p o::L)):
  Calls Tryz.prog 95 #[outPtr p,.int .i64 e] w fun en w'=>en=.returned (.tuple #[])∧St W0 w' K (.out p o2::L):=by
 subst hx;exact so_fail p o e h
set_option maxHeartbeats 1000000 in
set_option maxRecDepth 100000 in
theorem may_end (b:Nat) (o o2:OutS) (id:Bs) (p e:Int) (c:Bool) (r:Int) (t:Bool) (hr:chkW id p e=r) (ht:(r==0)=t) (ho:(if r=0 then o else o.fail r)=o2) (hl:id.length≤140737488355328){W0 w:World}{K:Know}{L:List Res}(h:St W0 w K (.out b o::L)):
   Calls Tryz.prog 154 #[outPtr b,.func (.func 159) #[.agg #[.string (bb id),.int .i64 p,.int .i64 e,.bool c]] #[]] w fun en w'=>en=.returned (.bool t)∧St W0 w' K (.out b o2::L):=by
 have H:=Lib.hid h;have HR:=Lib.hid hr;have HL:=Lib.hid hl;clear h hr hl
 by_cases h0:r=0
 · rw[if_pos h0]at ho;subst ho h0;obtain rfl:true=t:=ht;go_enter Tryz.func154,Tryz.ntmps154;go_wp2_with (go_at_call 159;go_loud ((with_reducible refine(end_check id p e c _ HR.out HL.out H.out).mono ?_));rintro e_ wn ⟨rfl,h⟩;replace H:=Lib.hid h;clear h);go_ret;exact⟨rfl,H.out⟩
 · rw[if_neg h0]at ho;have HO:=Lib.hid ho;have g0:(r==0)=false:=by rw[beq_eq_false_iff_ne];exact h0
   have g00:(r !=0)=true:=by simp[bne,g0]
   rw[g0]at ht;subst ht;clear ho h0;go_enter Tryz.func154,Tryz.ntmps154
   go_wp2_with (first
   |(go_at_call 159;(with_reducible refine(end_check id p e c _ HR.out HL.out H.out).mono ?_);rintro e_ wn ⟨rfl,h⟩;replace H:=Lib.hid h;clear h)
   |(go_at_call 95;(with_reducible refine(so_failT b _ _ _ HO.out H.out).mono ?_);rintro e_ wn ⟨rfl,h⟩;replace H:=Lib.hid h;clear h))
   go_ret;exact⟨rfl,H.out⟩
theorem chkW_ok {id:Bs}{p e:Int}(h:chkW id p e=0):keyRight id=true∧who p e=true:=by
 unfold chkW at h
 by_cases h1:keyRight id=false
 · rw[if_pos h1]at h;cases h
 · rw[if_neg h1]at h
   by_cases h2:who p e=false
   · rw[if_pos h2]at h;cases h
   · exact⟨by simpa using h1,by simpa using h2⟩
set_option maxHeartbeats 1000000 in
set_option maxRecDepth 100000 in
theorem txn_putWriter (b:Nat) (o o1 o2:Bs) (p e:Int) (h1:o++beBytes p (8:Int).toNat=o1) (h2:o1++beBytes e (2:Int).toNat=o2) (hf8:fits p 8) (hf2:fits e 2) (hl:o.length≤100000000){W0 w:World}{K:Know}{L:List Res}(h:St W0 w K (.out b ⟨o,0⟩::L)):
  Calls Tryz.prog 157 #[outPtr b,.int .i64 p,.int .i64 e] w fun en w'=>en=.returned (.tuple #[])∧St W0 w' K (.out b ⟨o2,0⟩::L):=by
 have H:=Lib.hid h;have H1:=Lib.hid h1;have H2:=Lib.hid h2;have HF8:=Lib.hid hf8;have HF2:=Lib.hid hf2;have HL:=Lib.hid (show o.length≤100000000000000 by omega);have HL2:=Lib.hid (show o1.length≤100000000000000 by rw[←h1,List.length_append,beBytes_length];have:(8:Int).toNat=8:=rfl;omega);clear h h1 h2 hf8 hf2 hl;go_enter Tryz.func157,Tryz.ntmps157
 go_wp2_with (first
  |(go_at_call 50;(with_reducible refine(so_intV b o o1 p 8 H1.out HF8.out HL.out H.out).mono ?_);rintro e_ wn ⟨rfl,h⟩;replace H:=Lib.hid h;clear h)
  |(go_at_call 50;(with_reducible refine(so_intV b o1 o2 e 2 H2.out HF2.out HL2.out H.out).mono ?_);rintro e_ wn ⟨rfl,h⟩;replace H:=Lib.hid h;clear h))
 go_end0;exact⟨rfl,H.out⟩
set_option maxHeartbeats 2000000 in
set_option maxRecDepth 100000 in
theorem end_write_ok (b:Nat) (o o1 o2 o3 o4:Bs) (id:Bs) (p e:Int) (c:Bool) (h1:o++encF 2 ⟨false,id⟩=o1) (h2:o1++beBytes p (8:Int).toNat=o2) (h3:o2++beBytes e (2:Int).toNat=o3) (h4:o3++encO c=o4) (hk:chkW id p e=0) (hil:id.length≤32767) (hp:p<9223372036854775808) (hl:o.length≤1000000){W0 w:World}{K:Know}{L:List Res}(h:St W0 w K (.out b ⟨o,0⟩::L)):
  Calls Tryz.prog 100 #[.agg #[.string (bb id),.int .i64 p,.int .i64 e,.bool c],outPtr b] w fun en w'=>en=.returned (.tuple #[])∧St W0 w' K (.out b ⟨o4,0⟩::L):=by
 have hw:=who_t (chkW_ok hk).2;have h0:=h.allocRaw #[.string (bb id),.int .i64 p,.int .i64 e,.bool c] 32;have H:=Lib.hid h0;have H1:=Lib.hid h1;have H2:=Lib.hid h2;have H3:=Lib.hid h3;have H4:=Lib.hid h4;have HK:=Lib.hid hk;have HIL:=Lib.hid hil;have HIL2:=Lib.hid (show id.length≤140737488355328 by omega);have HF8:=Lib.hid (vfits8 p (by omega));have HF2:=Lib.hid (vfits2 e (by omega));have hl1:o1.length=o.length+(id.length+2):=by rw[←h1,List.length_append];unfold encF;rw[List.length_append,beBytes_length];simp only;omega
 have hl2:o2.length=o1.length+8:=by rw[←h2,List.length_append,beBytes_length];rfl
 have hl3:o3.length=o2.length+2:=by rw[←h3,List.length_append,beBytes_length];rfl
 have HL:=Lib.hid (show o.length≤100000000000000 by omega);have HL1:=Lib.hid (show o1.length≤100000000 by omega);have HL3:=Lib.hid (show o3.length≤100000000000000 by omega);have HT:=Lib.hid (show((0:Int)==0)=true by rfl);have HO:=Lib.hid (show(if (0:Int)=0 then(⟨o,0⟩:OutS)else(⟨o,0⟩:OutS).fail 0)=⟨o,0⟩ by rfl);clear h h0 h1 h2 h3 h4 hk hil hp hl hl1 hl2 hl3 hw;go_enter Tryz.func100,Tryz.ntmps100
 go_wp2_with (first
  |(go_at_call 154;(with_reducible refine(may_end b _ _ id p e c _ _ HK.out HT.out HO.out HIL2.out H.out.p1).mono ?_);rintro e_ wn ⟨rfl,h⟩;have d0:=h.p1.rawCell 0;have d1:=h.p1.rawCell 1;have d2:=h.p1.rawCell 2;have d3:=h.p1.rawCell 3;simp at d0 d1 d2 d3;replace H:=Lib.hid h;clear h)
  |(go_at_call 89;(with_reducible refine(blob_putTextV b o o1 id H1.out HIL.out HL.out H.out).mono ?_);rintro e_ wn ⟨rfl,h⟩;have d0:=h.p1.rawCell 0;have d1:=h.p1.rawCell 1;have d2:=h.p1.rawCell 2;have d3:=h.p1.rawCell 3;simp at d0 d1 d2 d3;replace H:=Lib.hid h;clear h)
  |(go_at_call 157;(with_reducible refine(txn_putWriter b o1 o2 o3 p e H2.out H3.out HF8.out HF2.out HL1.out H.out).mono ?_);rintro e_ wn ⟨rfl,h⟩;have d0:=h.p1.rawCell 0;have d1:=h.p1.rawCell 1;have d2:=h.p1.rawCell 2;have d3:=h.p1.rawCell 3;simp at d0 d1 d2 d3;replace H:=Lib.hid h;clear h)
  |(go_at_call 160;(with_reducible refine(txn_putBool b o3 o4 c H4.out HL3.out H.out).mono ?_);rintro e_ wn ⟨rfl,h⟩;replace H:=Lib.hid h;clear h))
 go_end0;exact⟨rfl,H.out.p1.drop⟩
set_option maxHeartbeats 1000000 in
set_option maxRecDepth 100000 in
theorem txn_readWriter (b:Nat) (i i1 i2:InS) (p e:Int) (h1:i.int 8=(p,i1)) (h2:i1.int 2=(e,i2)){W0 w:World}{K:Know}{L:List Res}(h:St W0 w K (.inp b i::L)):
  Calls Tryz.prog 176 #[inPtr b] w fun en w'=>en=.returned (.tuple #[.int .i64 p,.int .i64 e])∧St W0 w' K (.inp b i2::L):=by
 have H:=Lib.hid h;have H1:=Lib.hid h1;have H2:=Lib.hid h2;clear h h1 h2;go_enter Tryz.func176,Tryz.ntmps176
 go_wp2_with (first
  |(go_at_call 66;(with_reducible refine(s_intV b _ _ _ 8 H1.out H.out).mono ?_);rintro e_ wn ⟨rfl,h⟩;replace H:=Lib.hid h;clear h)
  |(go_at_call 66;(with_reducible refine(s_intV b _ _ _ 2 H2.out H.out).mono ?_);rintro e_ wn ⟨rfl,h⟩;replace H:=Lib.hid h;clear h))
 go_ret2;exact⟨rfl,H.out⟩

end Go.Proofs.YteldcbljedeeiaaGreatDoor
