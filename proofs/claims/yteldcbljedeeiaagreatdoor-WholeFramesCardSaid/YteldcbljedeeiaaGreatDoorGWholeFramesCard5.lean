/- A text. -/
import Derived.Test.YteldcbljedeeiaaGreatDoorGWholeFramesCard4
import Derived.Test.YteldcbljedeeiaaGreatDoorGWholeFramesCard2
import Derived.Deep.DeepCutAuto
import Derived.Deep.RegionHeld3
/- A text. -/
namespace Go.Proofs.YteldcbljedeeiaaGreatDoor
open Go.RowKit
set_option maxRecDepth 100000
set_option maxHeartbeats 8000000
open Go.Value renaming bool→U, string→Z, slice→V, int→I, pointer→Ja
open Go.Ending renaming returned→Y
open Go.IntKind renaming i64→O
open _root_.Go.Proofs.Tryz renaming prog→Jb
open _root_.Nat renaming zero_le→Jd, add_assoc→Jm
open _root_.List renaming take_succ_eq_append_getElem→Jf, length_cons→Jn, length_append→Jc, append_nil→Jp, length_drop→Jh, drop_drop→Jk, append_assoc→Je, flatMap_cons→Jg, getElem_mem→Ji, length_map→Jj, take→Jl, drop→Jo
set_option maxHeartbeats 8000000
set_option maxRecDepth 100000
variable {W0 w:World}{K:Know}{L:List Res}
theorem raw5{b:Nat}{a0 a1 a2 a3 a4:Value}{T:TypeId}(h:St W0 w K (.raw b #[a0,a1,a2,a3,a4] T::L)):
 w.cell? ⟨b,0,none⟩=some a0∧w.cell? ⟨b,1,none⟩=some a1∧w.cell? ⟨b,2,none⟩=some a2∧w.cell? ⟨b,3,none⟩=some a3∧w.cell? ⟨b,4,none⟩=some a4∧w.frozen? ⟨b,0,none⟩=false∧w.frozen? ⟨b,1,none⟩=false∧w.frozen? ⟨b,2,none⟩=false∧w.frozen? ⟨b,3,none⟩=false∧w.frozen? ⟨b,4,none⟩=false:=
 ⟨(h.rawCell 0).trans rfl,(h.rawCell 1).trans rfl,(h.rawCell 2).trans rfl,(h.rawCell 3).trans rfl,(h.rawCell 4).trans rfl,h.rawFree 0,h.rawFree 1,h.rawFree 2,h.rawFree 3,h.rawFree 4⟩
inductive HeadWay (a v n:Int) (u:Bool) (d:Bs):Int→Prop where
 |vers:zAy a v≠0→HeadWay a v n u d (zAy a v)
 |range:zAy a v=0→¬fits n 4→HeadWay a v n u d 11
 |wrong:zAy a v=0→fits n 4→u=true→d≠[]→HeadWay a v n u d 4
 |long:zAy a v=0→fits n 4→u=false→32767<d.length→HeadWay a v n u d 4
 |right:zAy a v=0→fits n 4→(u=true→d=[])→d.length≤32767→HeadWay a v n u d 0
theorem zTd(a v n:Int)(u:Bool)(d:Bs):HeadWay a v n u d (zAq ⟨a,v,n,⟨u,d⟩⟩):=by
 unfold zAq BlobS.right;simp only
 by_cases h1:zAy a v=0
 ·rw[if_neg (fun x=>x h1)]
  by_cases h2:fits n 4
  ·rw[if_neg (fun x=>x h2)]
   cases u with
   |true=>
    cases d with
    |nil=>exact .right h1 h2 (fun _=>rfl) sM
    |cons c t=>exact .wrong h1 h2 rfl sM
   |false=>
    by_cases h3:32767<d.length
    ·rw[if_pos (.inr h3)];exact .long h1 h2 rfl h3
    ·rw[if_neg (by simp;omega)];exact .right h1 h2 (fun h=>by cases h) oM
  ·rw[if_pos h2];exact .range h1 h2
 ·rw[if_pos h1];exact .vers h1
theorem zMZ(u:Bool)(d:Bs)(r:Bool)(hr:(⟨u,d⟩:BlobS).right=r)(h:St W0 w K L):
 Calls Jb 149 #[.agg #[U u,Z (bb d)]] w fun en w'=>en=Y (U r)∧St W0 w' K L:=by
 subst hr;exact zCG ⟨u,d⟩ h
theorem zSH(n:Int)(r:Bool)(hr:decide (fits n 4)=r)(hn: -9223372036854775808≤n∧n<9223372036854775808)(h:St W0 w K L):
 Calls Jb 102 #[I O n,I O 4] w fun en w'=>en=Y (U r)∧St W0 w' K L:=by
 subst hr;exact zSV n 4 hn h
theorem zq5{p:Prop}(h:p:=by
  go_wp2_with (first
   |(go_at_call 116;(with_reducible refine(zB7 a v _ HQ.out HK.out H.out).zM ?_);clear H;intro wn H;obtain⟨x0,x1,x2,x3,x4,y0,y1,y2,y3,y4⟩:=raw5 (b:=hb) (H.out))
   |(go_at_call 102;(with_reducible refine(zSH n true HF.out HN.out H.out).zM ?_);clear H;intro wn H;obtain⟨x0,x1,x2,x3,x4,y0,y1,y2,y3,y4⟩:=raw5 (b:=hb) (H.out))
   |(go_at_call 149;(with_reducible refine(zMZ u d _ HR.out H.out).zM ?_);clear H;intro wn H;obtain⟨x0,x1,x2,x3,x4,y0,y1,y2,y3,y4⟩:=raw5 (b:=hb) (H.out)))
  go_ret;exact⟨rfl,H.out.drop⟩):p:=h
theorem zKo(a v n:Int)(u:Bool)(d:Bs)(q:Int)(hq:zAq ⟨a,v,n,⟨u,d⟩⟩=q)(hn: -9223372036854775808≤n∧n<9223372036854775808)(hk:K.has Know.reqs)(h:St W0 w K L):
 Calls Jb 94 #[.agg #[I O a,I O v,I O n,U u,Z (bb d)]] w fun en w'=>en=Y (I O q)∧St W0 w' K L:=by
 have h1:=h.allocRaw #[I O a,I O v,I O n,U u,Z (bb d)] 25;obtain⟨hb,hhb⟩:=eX w.heap.size;rw[hhb]at h1;have HN:=hQd hn;have HK:=hQd hk;obtain⟨x0,x1,x2,x3,x4,y0,y1,y2,y3,y4⟩:=raw5 (b:=hb) (h1);have H:=hQd h1;clear h h1 hk hn;have hw:=zTd a v n u d;rw[hq]at hw;clear hq
 cases hw with
 |vers g=>
  obtain⟨q,hq⟩:=eX (zAy a v);rw[hq]at g ⊢;have HQ:=hQd hq;have gz:(q==0)=false:=by rw[beq_eq_false_iff_ne];exact g
  clear hq;go_enter Tryz.func94,Tryz.ntmps94
  go_wp2_with (first
   |(go_at_call 116;(with_reducible refine(zB7 a v _ HQ.out HK.out H.out).zM ?_);clear H;intro wn H;obtain⟨x0,x1,x2,x3,x4,y0,y1,y2,y3,y4⟩:=raw5 (b:=hb) (H.out)))
  go_ret;exact⟨rfl,H.out.drop⟩
 |range g1 g2=>
  have HQ:=hQd g1;have HF:=hQd (show decide (fits n 4)=false from decide_eq_false g2);clear g1 g2;go_enter Tryz.func94,Tryz.ntmps94
  go_wp2_with (first
   |(go_at_call 116;(with_reducible refine(zB7 a v _ HQ.out HK.out H.out).zM ?_);clear H;intro wn H;obtain⟨x0,x1,x2,x3,x4,y0,y1,y2,y3,y4⟩:=raw5 (b:=hb) (H.out))
   |(go_at_call 102;(with_reducible refine(zSH n false HF.out HN.out H.out).zM ?_);clear H;intro wn H;obtain⟨x0,x1,x2,x3,x4,y0,y1,y2,y3,y4⟩:=raw5 (b:=hb) (H.out)))
  go_ret;exact⟨rfl,H.out.drop⟩
 |wrong g1 g2 g3 g4=>
  have HQ:=hQd g1;have HF:=hQd (show decide (fits n 4)=true from decide_eq_true g2)
  have HR:=hQd (show(⟨u,d⟩:BlobS).right=false by unfold BlobS.right;rw[g3];cases d with
   |nil=>exact absurd rfl g4
   |cons c t=>rfl)
  clear g1 g2 g3 g4;go_enter Tryz.func94,Tryz.ntmps94
  exact zq5
 |long g1 g2 g3 g4=>
  have HQ:=hQd g1;have HF:=hQd (show decide (fits n 4)=true from decide_eq_true g2);have HR:=hQd (show(⟨u,d⟩:BlobS).right=true by unfold BlobS.right;rw[g3];rfl);have dl:decide ((32767:Int)<(d.length:Int))=true:=decide_eq_true oM;clear g1 g2 g3 g4;go_enter Tryz.func94,Tryz.ntmps94
  exact zq5
 |right g1 g2 g3 g4=>
  have HQ:=hQd g1;have HF:=hQd (show decide (fits n 4)=true from decide_eq_true g2)
  have HR:=hQd (show(⟨u,d⟩:BlobS).right=true by unfold BlobS.right;cases u with
   |false=>rfl
   |true=>rw[g3 rfl];rfl)
  have dl:decide ((32767:Int)<(d.length:Int))=false:=decide_eq_false oM;clear g1 g2 g3 g4;go_enter Tryz.func94,Tryz.ntmps94
  exact zq5
theorem zLT(p:Nat)(o o2:OutS)(n size:Int)(hx:o.int n size=o2)(hn: -9223372036854775808≤n∧n<9223372036854775808)(hr:o.ok 8)(h:St W0 w K (.out p o::L)):
 Calls Jb 50 #[zAc p,I O n,I O size] w fun en w'=>en=Y (.tuple #[])∧St W0 w' K (.out p o2::L):=by
 subst hx;exact zGb p o n size hn h hr
theorem zRs(p:Nat)(o o2:OutS)(e:Int)(hx:o.fail e=o2)(h:St W0 w K (.out p o::L)):
 Calls Jb 95 #[zAc p,I O e] w fun en w'=>en=Y (.tuple #[])∧St W0 w' K (.out p o2::L):=by
 subst hx;exact zDW p o e h
theorem zHG(p:Nat)(o o2:OutS)(u:Bool)(d:Bs)(hx:o.putFixed ⟨u,d⟩ 2=o2)(hr:o.ok (d.length+8))(h:St W0 w K (.out p o::L)):
 Calls Jb 96 #[zAc p,.agg #[U u,Z (bb d)],I O 2] w fun en w'=>en=Y (.tuple #[])∧St W0 w' K (.out p o2::L):=by
 subst hx;exact zBb p o ⟨u,d⟩ 2 h hr
theorem zIK(p:Nat)(o o2:OutS)(a v n:Int)(u:Bool)(d:Bs)(q:Int)(hq:zAq ⟨a,v,n,⟨u,d⟩⟩=q)(g:q≠0)(hx:o.fail q=o2)(hn: -9223372036854775808≤n∧n<9223372036854775808)(hk:K.has Know.reqs)(h:St W0 w K (.out p o::L)):
 Calls Jb 47 #[zAc p,.agg #[I O a,I O v,I O n,U u,Z (bb d)]] w fun en w'=>en=Y (.tuple #[])∧St W0 w' K (.out p o2::L):=by
 have h1:=h.allocRaw #[I O a,I O v,I O n,U u,Z (bb d)] 25;obtain⟨hb,hhb⟩:=eX w.heap.size;rw[hhb]at h1;have HN:=hQd hn;have HK:=hQd hk;have HQ:=hQd hq;have HX:=hQd hx;obtain⟨x0,x1,x2,x3,x4,y0,y1,y2,y3,y4⟩:=raw5 (b:=hb) (h1);have H:=hQd h1;have gz:(q==0)=false:=by rw[beq_eq_false_iff_ne];exact g
 clear h h1 hk hn hq hx;go_enter Tryz.func47,Tryz.ntmps47
 go_wp2_with (first
  |(go_at_call 94;(with_reducible refine(zKo a v n u d q HQ.out HN.out HK.out H.out).zM ?_);clear H;intro wn H;obtain⟨x0,x1,x2,x3,x4,y0,y1,y2,y3,y4⟩:=raw5 (b:=hb) (H.out))
  |(go_at_call 95;(with_reducible refine(zRs p o o2 q HX.out H.out.p1).zM ?_);clear H;intro wn H))
 refine bodyPost_ret (results_none rfl _ _ _) rfl ⟨rfl,H.out.p1.drop⟩
theorem zKm(p:Nat)(o1 o2 o3 o4 o5:OutS)(a v n:Int)(u:Bool)(d:Bs)(hq:zAq ⟨a,v,n,⟨u,d⟩⟩=0)(e1:o1.int a 2=o2)(e2:o2.int v 2=o3)(e3:o3.int n 4=o4)(e4:o4.putFixed ⟨u,d⟩ 2=o5)
 (ra: -9223372036854775808≤a∧a<9223372036854775808)(rv: -9223372036854775808≤v∧v<9223372036854775808)(hn: -9223372036854775808≤n∧n<9223372036854775808)(k1:o1.ok 8)(k2:o2.ok 8)(k3:o3.ok 8)(k4:o4.ok (d.length+8))(hk:K.has Know.reqs)(h:St W0 w K (.out p o1::L)):
 Calls Jb 47 #[zAc p,.agg #[I O a,I O v,I O n,U u,Z (bb d)]] w fun en w'=>en=Y (.tuple #[])∧St W0 w' K (.out p o5::L):=by
 have h1:=h.allocRaw #[I O a,I O v,I O n,U u,Z (bb d)] 25;obtain⟨hb,hhb⟩:=eX w.heap.size;rw[hhb]at h1;have HN:=hQd hn;have HK:=hQd hk;obtain⟨q,hq0⟩:=eX ((0:Int));have HQ:=hQd hq;have E1:=hQd e1;have E2:=hQd e2;have E3:=hQd e3;have E4:=hQd e4;have RA:=hQd ra;have RV:=hQd rv;have K1:=hQd k1;have K2:=hQd k2;have K3:=hQd k3;have K4:=hQd k4;obtain⟨x0,x1,x2,x3,x4,y0,y1,y2,y3,y4⟩:=raw5 (b:=hb) (h1);have H:=hQd h1;clear h h1 hk hn hq e1 e2 e3 e4 ra rv k1 k2 k3 k4 hq0 q;have t1:True:=trivial;go_enter Tryz.func47,Tryz.ntmps47
 go_wp2_with (first
  |(go_at_call 94;(with_reducible refine(zKo a v n u d _ HQ.out HN.out HK.out H.out).zM ?_);clear H;intro wn H;obtain⟨x0,x1,x2,x3,x4,y0,y1,y2,y3,y4⟩:=raw5 (b:=hb) (H.out))
  |(go_at_call 50;have _t:=t1;clear _t;(with_reducible refine(zLT p o1 o2 a 2 E1.out RA.out K1.out H.out.p1).zM ?_);clear H;intro wn H;replace H:=hQd H.out.p1;obtain⟨x0,x1,x2,x3,x4,y0,y1,y2,y3,y4⟩:=raw5 (b:=hb) (H.out);have t2:True:=trivial;clear t1)
  |(go_at_call 50;have _t:=t2;clear _t;(with_reducible refine(zLT p o2 o3 v 2 E2.out RV.out K2.out H.out.p1).zM ?_);clear H;intro wn H;replace H:=hQd H.out.p1;obtain⟨x0,x1,x2,x3,x4,y0,y1,y2,y3,y4⟩:=raw5 (b:=hb) (H.out);have t3:True:=trivial;clear t2)
  |(go_at_call 50;have _t:=t3;clear _t;(with_reducible refine(zLT p o3 o4 n 4 E3.out HN.out K3.out H.out.p1).zM ?_);clear H;intro wn H;replace H:=hQd H.out.p1;obtain⟨x0,x1,x2,x3,x4,y0,y1,y2,y3,y4⟩:=raw5 (b:=hb) (H.out);clear t3)
  |(go_at_call 96;(with_reducible refine(zHG p o4 o5 u d E4.out K4.out H.out.p1).zM ?_);clear H;intro wn H))
 refine bodyPost_end (results_none rfl _ _ _) rfl ⟨rfl,H.out.p1.drop⟩
variable {W0 w:World}{K:Know}{L:List Res}
theorem zAw{P:Program}{fn:Func}{p:Tmp}{ty:TypeId}(h:fn.results= #[.cell p ty])(tmps:Array Value)(w:World)(b:Nat)(cs:List Value)(dd:TypeDesc)
 (hp:tmps.getD p undef=Ja (some ⟨b,0,none⟩))(hc:w.rangeAt b 0 cs)(hu:P.underlying ty=some dd)(hd:dd.isRow=true)(hi:(P.info? ty).map (·.size)=some cs.length):
 (results fn tmps).run P w=.ok (.agg cs.toArray) w:=by
 have hp':tmps[p]?.getD undef=Ja (some ⟨b,0,none⟩):=by simpa using hp
 simp[results,h,hp',asAddr,run_loadVar_mid w b 0 ty cs dd hc hu hd hi]
theorem zBZ(p:Nat)(i j:InS)(n q:Int)(hx:i.int n=(q,j))(h:St W0 w K (.inp p i::L)):
 Calls Jb 66 #[zAe p,I O n] w fun en w'=>en=Y (I O q)∧St W0 w' K (.inp p j::L):=by
 have:=zCa p i n h;rw[hx]at this;exact this
theorem zPz(p:Nat)(i j:InS)(e:Int)(hx:i.fail e=j)(h:St W0 w K (.inp p i::L)):
 Calls Jb 70 #[zAe p,I O e] w fun en w'=>en=Y (.tuple #[])∧St W0 w' K (.inp p j::L):=by
 have:=zBV p i e h;rw[hx]at this;exact this
theorem zNl(p:Nat)(i:InS)(e:Int)(hx:i.err=e)(h:St W0 w K (.inp p i::L)):
 Calls Jb 22 #[zAe p] w fun en w'=>en=Y (I O e)∧St W0 w' K (.inp p i::L):=by
 have:=zHs p i h;rw[hx]at this;exact this
theorem zCZ(p:Nat)(i j:InS)(u:Bool)(d:Bs)(hx:i.fixed 2=(⟨u,d⟩,j))(h:St W0 w K (.inp p i::L)):
 Calls Jb 117 #[zAe p,I O 2] w fun en w'=>en=Y (.agg #[U u,Z (bb d)])∧St W0 w' K (.inp p j::L):=by
 have:=zDK p i 2 h;rw[hx]at this;exact this
theorem zq15{p:Prop}(h:p:=by have hz:St W0 _ K (.raw rb #[I O 0,I O 0,I O 0,U false,Z ⟨#[]⟩] 25::_):=(((((H.out.rawSet 0 _).rawSet 1 _).rawSet 2 _).rawSet 3 _).rawSet 4 _);refine bodyPost_ret (zAw rfl _ _ rb [I O 0,I O 0,I O 0,U false,Z ⟨#[]⟩] _ rfl (St.range hz) Tryz.underlying25 rfl kR) rfl ?_;exact⟨rfl,hz.drop.drop⟩):p:=h
theorem zq16{p:Prop}(h:p:=by have hz:St W0 _ K (.raw rb #[I O a,I O v,I O n,U u,Z (bb d)] 25::_):=(((((H.out.rawSet 0 _).rawSet 1 _).rawSet 2 _).rawSet 3 _).rawSet 4 _);refine bodyPost_ret (zAw rfl _ _ rb [I O a,I O v,I O n,U u,Z (bb d)] _ rfl (St.range hz) Tryz.underlying25 rfl kR) rfl ?_;exact⟨rfl,hz.drop.drop⟩):p:=h
theorem zRB(p:Nat)(i0 i1 i2 i3 i4 i5:InS)(a v n:Int)(u:Bool)(d:Bs)(e er:Int)(h0:i0.int 2=(a,i1))(h1:i1.int 2=(v,i2))(hv:zAy a v=e)(h2:(if e=0 then i2 else i2.fail e)=i3)(h3:i3.int 4=(n,i4))(h4:i4.fixed 2=(⟨u,d⟩,i5))(h5:i5.err=er)
 (y:HeadS)(hy:(if er=0 then(⟨a,v,n,⟨u,d⟩⟩:HeadS)else HeadS.z)=y)(hk:K.has Know.reqs)(h:St W0 w K (.inp p i0::L)):
 Calls Jb 68 #[zAe p] w fun en w'=>en=Y (.agg #[I O y.kind,I O y.ver,I O y.num,U y.cli.null,Z (bb y.cli.data)])∧St W0 w' K (.inp p i5::L):=by
 have g1:=h.allocRaw #[I O 0,I O 0,I O 0,U false,Z ⟨#[]⟩] 25;have g2:=g1.allocRaw #[I O 0,I O 0,I O 0,U false,Z ⟨#[]⟩] 25;obtain⟨rb,hrb⟩:=eX w.heap.size;obtain⟨hb,hhb⟩:=eX (rb+1);simp only[World.size_alloc,hrb,hhb]at g2;have E0:=hQd h0;have E1:=hQd h1;have EV:=hQd hv;have E2:=hQd h2;have E3:=hQd h3;have E4:=hQd h4;have E5:=hQd h5;have HY:=hQd hy;have HK:=hQd hk;have H:=hQd g2;have t1:True:=trivial;clear g1 g2 h h0 h1 hv h2 h3 h4 h5 hy hk
 by_cases he:e=0
 ·subst he;obtain rfl:i2=i3:=by have:=E2.out;rw[if_pos rfl]at this;exact this
  clear E2
  by_cases her:er=0
  ·subst her;obtain rfl:=HY.out;clear HY;go_enter Tryz.func68,Tryz.ntmps68
   go_wp2_with (first
    |(go_at_call 66;have _t:=t1;clear _t;(with_reducible refine(zBZ p i0 i1 2 a E0.out (show St W0 _ K (.inp p i0::.raw hb #[I O 0,I O 0,I O 0,U false,Z ⟨#[]⟩] 25::.raw rb #[I O 0,I O 0,I O 0,U false,Z ⟨#[]⟩] 25::L)from H.out.p2)).mono ?_);rintro e_ wn ⟨rfl,h⟩;have h:St W0 _ K (.raw hb #[I O 0,I O 0,I O 0,U false,Z ⟨#[]⟩] 25::.raw rb #[I O 0,I O 0,I O 0,U false,Z ⟨#[]⟩] 25::.inp p i1::L):=h.p2.p2;replace H:=hQd h;clear h;obtain⟨x0,x1,x2,x3,x4,y0,y1,y2,y3,y4⟩:=raw5 (b:=hb) (H.out);have t2:True:=trivial;clear t1)
    |(go_at_call 66;have _t:=t2;clear _t;(with_reducible refine(zBZ p i1 i2 2 v E1.out (show St W0 _ K (.inp p i1::.raw hb #[I O a,I O 0,I O 0,U false,Z ⟨#[]⟩] 25::.raw rb #[I O 0,I O 0,I O 0,U false,Z ⟨#[]⟩] 25::L)from(H.out.rawSet 0 (I O a)).p2)).mono ?_);rintro e_ wn ⟨rfl,h⟩;have h:St W0 _ K (.raw hb #[I O a,I O 0,I O 0,U false,Z ⟨#[]⟩] 25::.raw rb #[I O 0,I O 0,I O 0,U false,Z ⟨#[]⟩] 25::.inp p i2::L):=h.p2.p2;replace H:=hQd h;clear h;obtain⟨x0,x1,x2,x3,x4,y0,y1,y2,y3,y4⟩:=raw5 (b:=hb) (H.out);obtain⟨z0,z1,z2,z3,z4,_⟩:=raw5 (b:=hb) (show St W0 _ K (.raw hb #[I O a,I O v,I O 0,U false,Z ⟨#[]⟩] 25::_)from H.out.rawSet 1 (I O v));have t3:True:=trivial;clear t2)
    |(go_at_call 116;(with_reducible refine(zB7 a v 0 EV.out HK.out (show St W0 _ K (.raw hb #[I O a,I O v,I O 0,U false,Z ⟨#[]⟩] 25::.raw rb #[I O 0,I O 0,I O 0,U false,Z ⟨#[]⟩] 25::.inp p i2::L)from H.out.rawSet 1 (I O v))).zM ?_);clear H;intro wn H)
    |(go_at_call 66;have _t:=t3;clear _t;(with_reducible refine(zBZ p i2 i4 4 n E3.out (H.out.p2)).mono ?_);rintro e_ wn ⟨rfl,h⟩;have h:St W0 _ K (.raw hb #[I O a,I O v,I O 0,U false,Z ⟨#[]⟩] 25::.raw rb #[I O 0,I O 0,I O 0,U false,Z ⟨#[]⟩] 25::.inp p i4::L):=h.p2.p2;replace H:=hQd h;clear h;obtain⟨x0,x1,x2,x3,x4,y0,y1,y2,y3,y4⟩:=raw5 (b:=hb) (H.out);clear t3)
    |(go_at_call 117;(with_reducible refine(zCZ p i4 i5 u d E4.out (show St W0 _ K (.inp p i4::.raw hb #[I O a,I O v,I O n,U false,Z ⟨#[]⟩] 25::.raw rb #[I O 0,I O 0,I O 0,U false,Z ⟨#[]⟩] 25::L)from(H.out.rawSet 2 (I O n)).p2)).mono ?_);rintro e_ wn ⟨rfl,h⟩;have h:St W0 _ K (.raw hb #[I O a,I O v,I O n,U false,Z ⟨#[]⟩] 25::.raw rb #[I O 0,I O 0,I O 0,U false,Z ⟨#[]⟩] 25::.inp p i5::L):=h.p2.p2;replace H:=hQd h;clear h;obtain⟨x0,x1,x2,x3,x4,y0,y1,y2,y3,y4⟩:=raw5 (b:=hb) (H.out))
    |(go_at_call 22;(with_reducible refine(zNl p i5 0 E5.out (show St W0 _ K (.inp p i5::.raw hb #[I O a,I O v,I O n,U u,Z (bb d)] 25::.raw rb #[I O 0,I O 0,I O 0,U false,Z ⟨#[]⟩] 25::L)from((H.out.rawSet 3 (U u)).rawSet 4 (Z (bb d))).p2)).mono ?_);rintro e_ wn ⟨rfl,h⟩;have h:St W0 _ K (.raw rb #[I O 0,I O 0,I O 0,U false,Z ⟨#[]⟩] 25::.raw hb #[I O a,I O v,I O n,U u,Z (bb d)] 25::.inp p i5::L):=h.p1.p2;replace H:=hQd h;clear h;obtain⟨p0,p1,p2,p3,p4,q0,q1,q2,q3,q4⟩:=raw5 (b:=rb) (H.out);obtain⟨x0,x1,x2,x3,x4,y0,y1,y2,y3,y4⟩:=raw5 (b:=hb) (H.out.p1)))
   exact zq16
  ·have gr:(er==0)=false:=by rw[beq_eq_false_iff_ne];exact her
   obtain rfl:HeadS.z=y:=by have:=HY.out;rw[if_neg her]at this;exact this
   clear HY her;go_enter Tryz.func68,Tryz.ntmps68
   go_wp2_with (first
    |(go_at_call 66;have _t:=t1;clear _t;(with_reducible refine(zBZ p i0 i1 2 a E0.out (show St W0 _ K (.inp p i0::.raw hb #[I O 0,I O 0,I O 0,U false,Z ⟨#[]⟩] 25::.raw rb #[I O 0,I O 0,I O 0,U false,Z ⟨#[]⟩] 25::L)from H.out.p2)).mono ?_);rintro e_ wn ⟨rfl,h⟩;have h:St W0 _ K (.raw hb #[I O 0,I O 0,I O 0,U false,Z ⟨#[]⟩] 25::.raw rb #[I O 0,I O 0,I O 0,U false,Z ⟨#[]⟩] 25::.inp p i1::L):=h.p2.p2;replace H:=hQd h;clear h;obtain⟨x0,x1,x2,x3,x4,y0,y1,y2,y3,y4⟩:=raw5 (b:=hb) (H.out);have t2:True:=trivial;clear t1)
    |(go_at_call 66;have _t:=t2;clear _t;(with_reducible refine(zBZ p i1 i2 2 v E1.out (show St W0 _ K (.inp p i1::.raw hb #[I O a,I O 0,I O 0,U false,Z ⟨#[]⟩] 25::.raw rb #[I O 0,I O 0,I O 0,U false,Z ⟨#[]⟩] 25::L)from(H.out.rawSet 0 (I O a)).p2)).mono ?_);rintro e_ wn ⟨rfl,h⟩;have h:St W0 _ K (.raw hb #[I O a,I O 0,I O 0,U false,Z ⟨#[]⟩] 25::.raw rb #[I O 0,I O 0,I O 0,U false,Z ⟨#[]⟩] 25::.inp p i2::L):=h.p2.p2;replace H:=hQd h;clear h;obtain⟨x0,x1,x2,x3,x4,y0,y1,y2,y3,y4⟩:=raw5 (b:=hb) (H.out);obtain⟨z0,z1,z2,z3,z4,_⟩:=raw5 (b:=hb) (show St W0 _ K (.raw hb #[I O a,I O v,I O 0,U false,Z ⟨#[]⟩] 25::_)from H.out.rawSet 1 (I O v));have t3:True:=trivial;clear t2)
    |(go_at_call 116;(with_reducible refine(zB7 a v 0 EV.out HK.out (show St W0 _ K (.raw hb #[I O a,I O v,I O 0,U false,Z ⟨#[]⟩] 25::.raw rb #[I O 0,I O 0,I O 0,U false,Z ⟨#[]⟩] 25::.inp p i2::L)from H.out.rawSet 1 (I O v))).zM ?_);clear H;intro wn H)
    |(go_at_call 66;have _t:=t3;clear _t;(with_reducible refine(zBZ p i2 i4 4 n E3.out (H.out.p2)).mono ?_);rintro e_ wn ⟨rfl,h⟩;have h:St W0 _ K (.raw hb #[I O a,I O v,I O 0,U false,Z ⟨#[]⟩] 25::.raw rb #[I O 0,I O 0,I O 0,U false,Z ⟨#[]⟩] 25::.inp p i4::L):=h.p2.p2;replace H:=hQd h;clear h;obtain⟨x0,x1,x2,x3,x4,y0,y1,y2,y3,y4⟩:=raw5 (b:=hb) (H.out);clear t3)
    |(go_at_call 117;(with_reducible refine(zCZ p i4 i5 u d E4.out (show St W0 _ K (.inp p i4::.raw hb #[I O a,I O v,I O n,U false,Z ⟨#[]⟩] 25::.raw rb #[I O 0,I O 0,I O 0,U false,Z ⟨#[]⟩] 25::L)from(H.out.rawSet 2 (I O n)).p2)).mono ?_);rintro e_ wn ⟨rfl,h⟩;have h:St W0 _ K (.raw hb #[I O a,I O v,I O n,U false,Z ⟨#[]⟩] 25::.raw rb #[I O 0,I O 0,I O 0,U false,Z ⟨#[]⟩] 25::.inp p i5::L):=h.p2.p2;replace H:=hQd h;clear h;obtain⟨x0,x1,x2,x3,x4,y0,y1,y2,y3,y4⟩:=raw5 (b:=hb) (H.out))
    |(go_at_call 22;(with_reducible refine(zNl p i5 er E5.out (show St W0 _ K (.inp p i5::.raw hb #[I O a,I O v,I O n,U u,Z (bb d)] 25::.raw rb #[I O 0,I O 0,I O 0,U false,Z ⟨#[]⟩] 25::L)from((H.out.rawSet 3 (U u)).rawSet 4 (Z (bb d))).p2)).mono ?_);rintro e_ wn ⟨rfl,h⟩;have h:St W0 _ K (.raw rb #[I O 0,I O 0,I O 0,U false,Z ⟨#[]⟩] 25::.raw hb #[I O a,I O v,I O n,U u,Z (bb d)] 25::.inp p i5::L):=h.p1.p2;replace H:=hQd h;clear h;obtain⟨p0,p1,p2,p3,p4,q0,q1,q2,q3,q4⟩:=raw5 (b:=rb) (H.out);obtain⟨x0,x1,x2,x3,x4,y0,y1,y2,y3,y4⟩:=raw5 (b:=hb) (H.out.p1)))
   exact zq15
 ·have gz:(e==0)=false:=by rw[beq_eq_false_iff_ne];exact he
  replace E2:=hQd (show i2.fail e=i3 by have:=E2.out;rw[if_neg he]at this;exact this);clear he
  by_cases her:er=0
  ·subst her;obtain rfl:=HY.out;clear HY;go_enter Tryz.func68,Tryz.ntmps68
   go_wp2_with (first
    |(go_at_call 66;have _t:=t1;clear _t;(with_reducible refine(zBZ p i0 i1 2 a E0.out (show St W0 _ K (.inp p i0::.raw hb #[I O 0,I O 0,I O 0,U false,Z ⟨#[]⟩] 25::.raw rb #[I O 0,I O 0,I O 0,U false,Z ⟨#[]⟩] 25::L)from H.out.p2)).mono ?_);rintro e_ wn ⟨rfl,h⟩;have h:St W0 _ K (.raw hb #[I O 0,I O 0,I O 0,U false,Z ⟨#[]⟩] 25::.raw rb #[I O 0,I O 0,I O 0,U false,Z ⟨#[]⟩] 25::.inp p i1::L):=h.p2.p2;replace H:=hQd h;clear h;obtain⟨x0,x1,x2,x3,x4,y0,y1,y2,y3,y4⟩:=raw5 (b:=hb) (H.out);have t2:True:=trivial;clear t1)
    |(go_at_call 66;have _t:=t2;clear _t;(with_reducible refine(zBZ p i1 i2 2 v E1.out (show St W0 _ K (.inp p i1::.raw hb #[I O a,I O 0,I O 0,U false,Z ⟨#[]⟩] 25::.raw rb #[I O 0,I O 0,I O 0,U false,Z ⟨#[]⟩] 25::L)from(H.out.rawSet 0 (I O a)).p2)).mono ?_);rintro e_ wn ⟨rfl,h⟩;have h:St W0 _ K (.raw hb #[I O a,I O 0,I O 0,U false,Z ⟨#[]⟩] 25::.raw rb #[I O 0,I O 0,I O 0,U false,Z ⟨#[]⟩] 25::.inp p i2::L):=h.p2.p2;replace H:=hQd h;clear h;obtain⟨x0,x1,x2,x3,x4,y0,y1,y2,y3,y4⟩:=raw5 (b:=hb) (H.out);obtain⟨z0,z1,z2,z3,z4,_⟩:=raw5 (b:=hb) (show St W0 _ K (.raw hb #[I O a,I O v,I O 0,U false,Z ⟨#[]⟩] 25::_)from H.out.rawSet 1 (I O v));have t3:True:=trivial;clear t2)
    |(go_at_call 116;(with_reducible refine(zB7 a v e EV.out HK.out (show St W0 _ K (.raw hb #[I O a,I O v,I O 0,U false,Z ⟨#[]⟩] 25::.raw rb #[I O 0,I O 0,I O 0,U false,Z ⟨#[]⟩] 25::.inp p i2::L)from H.out.rawSet 1 (I O v))).zM ?_);clear H;intro wn H)
    |(go_at_call 70;(with_reducible refine(zPz p i2 i3 e E2.out (H.out.p2)).mono ?_);rintro e_ wn ⟨rfl,h⟩;have h:St W0 _ K (.raw hb #[I O a,I O v,I O 0,U false,Z ⟨#[]⟩] 25::.raw rb #[I O 0,I O 0,I O 0,U false,Z ⟨#[]⟩] 25::.inp p i3::L):=h.p2.p2;replace H:=hQd h;clear h)
    |(go_at_call 66;have _t:=t3;clear _t;(with_reducible refine(zBZ p i3 i4 4 n E3.out (H.out.p2)).mono ?_);rintro e_ wn ⟨rfl,h⟩;have h:St W0 _ K (.raw hb #[I O a,I O v,I O 0,U false,Z ⟨#[]⟩] 25::.raw rb #[I O 0,I O 0,I O 0,U false,Z ⟨#[]⟩] 25::.inp p i4::L):=h.p2.p2;replace H:=hQd h;clear h;obtain⟨x0,x1,x2,x3,x4,y0,y1,y2,y3,y4⟩:=raw5 (b:=hb) (H.out);clear t3)
    |(go_at_call 117;(with_reducible refine(zCZ p i4 i5 u d E4.out (show St W0 _ K (.inp p i4::.raw hb #[I O a,I O v,I O n,U false,Z ⟨#[]⟩] 25::.raw rb #[I O 0,I O 0,I O 0,U false,Z ⟨#[]⟩] 25::L)from(H.out.rawSet 2 (I O n)).p2)).mono ?_);rintro e_ wn ⟨rfl,h⟩;have h:St W0 _ K (.raw hb #[I O a,I O v,I O n,U false,Z ⟨#[]⟩] 25::.raw rb #[I O 0,I O 0,I O 0,U false,Z ⟨#[]⟩] 25::.inp p i5::L):=h.p2.p2;replace H:=hQd h;clear h;obtain⟨x0,x1,x2,x3,x4,y0,y1,y2,y3,y4⟩:=raw5 (b:=hb) (H.out))
    |(go_at_call 22;(with_reducible refine(zNl p i5 0 E5.out (show St W0 _ K (.inp p i5::.raw hb #[I O a,I O v,I O n,U u,Z (bb d)] 25::.raw rb #[I O 0,I O 0,I O 0,U false,Z ⟨#[]⟩] 25::L)from((H.out.rawSet 3 (U u)).rawSet 4 (Z (bb d))).p2)).mono ?_);rintro e_ wn ⟨rfl,h⟩;have h:St W0 _ K (.raw rb #[I O 0,I O 0,I O 0,U false,Z ⟨#[]⟩] 25::.raw hb #[I O a,I O v,I O n,U u,Z (bb d)] 25::.inp p i5::L):=h.p1.p2;replace H:=hQd h;clear h;obtain⟨p0,p1,p2,p3,p4,q0,q1,q2,q3,q4⟩:=raw5 (b:=rb) (H.out);obtain⟨x0,x1,x2,x3,x4,y0,y1,y2,y3,y4⟩:=raw5 (b:=hb) (H.out.p1)))
   exact zq16
  ·have gr:(er==0)=false:=by rw[beq_eq_false_iff_ne];exact her
   obtain rfl:HeadS.z=y:=by have:=HY.out;rw[if_neg her]at this;exact this
   clear HY her;go_enter Tryz.func68,Tryz.ntmps68
   go_wp2_with (first
    |(go_at_call 66;have _t:=t1;clear _t;(with_reducible refine(zBZ p i0 i1 2 a E0.out (show St W0 _ K (.inp p i0::.raw hb #[I O 0,I O 0,I O 0,U false,Z ⟨#[]⟩] 25::.raw rb #[I O 0,I O 0,I O 0,U false,Z ⟨#[]⟩] 25::L)from H.out.p2)).mono ?_);rintro e_ wn ⟨rfl,h⟩;have h:St W0 _ K (.raw hb #[I O 0,I O 0,I O 0,U false,Z ⟨#[]⟩] 25::.raw rb #[I O 0,I O 0,I O 0,U false,Z ⟨#[]⟩] 25::.inp p i1::L):=h.p2.p2;replace H:=hQd h;clear h;obtain⟨x0,x1,x2,x3,x4,y0,y1,y2,y3,y4⟩:=raw5 (b:=hb) (H.out);have t2:True:=trivial;clear t1)
    |(go_at_call 66;have _t:=t2;clear _t;(with_reducible refine(zBZ p i1 i2 2 v E1.out (show St W0 _ K (.inp p i1::.raw hb #[I O a,I O 0,I O 0,U false,Z ⟨#[]⟩] 25::.raw rb #[I O 0,I O 0,I O 0,U false,Z ⟨#[]⟩] 25::L)from(H.out.rawSet 0 (I O a)).p2)).mono ?_);rintro e_ wn ⟨rfl,h⟩;have h:St W0 _ K (.raw hb #[I O a,I O 0,I O 0,U false,Z ⟨#[]⟩] 25::.raw rb #[I O 0,I O 0,I O 0,U false,Z ⟨#[]⟩] 25::.inp p i2::L):=h.p2.p2;replace H:=hQd h;clear h;obtain⟨x0,x1,x2,x3,x4,y0,y1,y2,y3,y4⟩:=raw5 (b:=hb) (H.out);obtain⟨z0,z1,z2,z3,z4,_⟩:=raw5 (b:=hb) (show St W0 _ K (.raw hb #[I O a,I O v,I O 0,U false,Z ⟨#[]⟩] 25::_)from H.out.rawSet 1 (I O v));have t3:True:=trivial;clear t2)
    |(go_at_call 116;(with_reducible refine(zB7 a v e EV.out HK.out (show St W0 _ K (.raw hb #[I O a,I O v,I O 0,U false,Z ⟨#[]⟩] 25::.raw rb #[I O 0,I O 0,I O 0,U false,Z ⟨#[]⟩] 25::.inp p i2::L)from H.out.rawSet 1 (I O v))).zM ?_);clear H;intro wn H)
    |(go_at_call 70;(with_reducible refine(zPz p i2 i3 e E2.out (H.out.p2)).mono ?_);rintro e_ wn ⟨rfl,h⟩;have h:St W0 _ K (.raw hb #[I O a,I O v,I O 0,U false,Z ⟨#[]⟩] 25::.raw rb #[I O 0,I O 0,I O 0,U false,Z ⟨#[]⟩] 25::.inp p i3::L):=h.p2.p2;replace H:=hQd h;clear h)
    |(go_at_call 66;have _t:=t3;clear _t;(with_reducible refine(zBZ p i3 i4 4 n E3.out (H.out.p2)).mono ?_);rintro e_ wn ⟨rfl,h⟩;have h:St W0 _ K (.raw hb #[I O a,I O v,I O 0,U false,Z ⟨#[]⟩] 25::.raw rb #[I O 0,I O 0,I O 0,U false,Z ⟨#[]⟩] 25::.inp p i4::L):=h.p2.p2;replace H:=hQd h;clear h;obtain⟨x0,x1,x2,x3,x4,y0,y1,y2,y3,y4⟩:=raw5 (b:=hb) (H.out);clear t3)
    |(go_at_call 117;(with_reducible refine(zCZ p i4 i5 u d E4.out (show St W0 _ K (.inp p i4::.raw hb #[I O a,I O v,I O n,U false,Z ⟨#[]⟩] 25::.raw rb #[I O 0,I O 0,I O 0,U false,Z ⟨#[]⟩] 25::L)from(H.out.rawSet 2 (I O n)).p2)).mono ?_);rintro e_ wn ⟨rfl,h⟩;have h:St W0 _ K (.raw hb #[I O a,I O v,I O n,U false,Z ⟨#[]⟩] 25::.raw rb #[I O 0,I O 0,I O 0,U false,Z ⟨#[]⟩] 25::.inp p i5::L):=h.p2.p2;replace H:=hQd h;clear h;obtain⟨x0,x1,x2,x3,x4,y0,y1,y2,y3,y4⟩:=raw5 (b:=hb) (H.out))
    |(go_at_call 22;(with_reducible refine(zNl p i5 er E5.out (show St W0 _ K (.inp p i5::.raw hb #[I O a,I O v,I O n,U u,Z (bb d)] 25::.raw rb #[I O 0,I O 0,I O 0,U false,Z ⟨#[]⟩] 25::L)from((H.out.rawSet 3 (U u)).rawSet 4 (Z (bb d))).p2)).mono ?_);rintro e_ wn ⟨rfl,h⟩;have h:St W0 _ K (.raw rb #[I O 0,I O 0,I O 0,U false,Z ⟨#[]⟩] 25::.raw hb #[I O a,I O v,I O n,U u,Z (bb d)] 25::.inp p i5::L):=h.p1.p2;replace H:=hQd h;clear h;obtain⟨p0,p1,p2,p3,p4,q0,q1,q2,q3,q4⟩:=raw5 (b:=rb) (H.out);obtain⟨x0,x1,x2,x3,x4,y0,y1,y2,y3,y4⟩:=raw5 (b:=hb) (H.out.p1)))
   exact zq15
variable {W0 w:World}{K:Know}{L:List Res}
theorem zAU(p e t s u st:Int)(tv:Value)(r:Bool)(hr:(decide (0≤p) && (decide (0≤e) && (decide (e≤32767) && (decide (0≤t) && (decide (t≤2147483647) && (decide (0≤u) && decide (-1≤st)))))))=r)(h:St W0 w K L):
 Calls Jb 146 #[.agg #[I O p,I O e,I O t,I O s,tv,I O u,I O st]] w fun en w'=>en=Y (U r)∧St W0 w' K L:=by
 obtain⟨vb,hvb⟩:=eX w.heap.size;have h1:=h.allocRaw #[I O p,I O e,I O t,I O s,tv,I O u,I O st] 107;rw[hvb]at h1;obtain⟨c0,c1,c2,c3,c4,c5,c6⟩:=uR7 ((h1));simp at c0 c1 c2 c3 c4 c5 c6;have H:=hQd h1;clear h h1
 by_cases h0:0≤p
 ·rw[decide_eq_true h0,Bool.true_and]at hr
  by_cases h1:0≤e
  ·rw[decide_eq_true h1,Bool.true_and]at hr
   by_cases h2:e≤32767
   ·rw[decide_eq_true h2,Bool.true_and]at hr
    by_cases h3:0≤t
    ·rw[decide_eq_true h3,Bool.true_and]at hr
     by_cases h4:t≤2147483647
     ·rw[decide_eq_true h4,Bool.true_and]at hr
      by_cases h5:0≤u
      ·rw[decide_eq_true h5,Bool.true_and]at hr
       by_cases h6: -1≤st
       ·rw[decide_eq_true h6]at hr;subst hr;go_enter Tryz.func146,Tryz.ntmps146;go_wp2;go_ret;exact⟨rfl,H.out.drop⟩
       ·rw[decide_eq_false h6]at hr;subst hr;go_enter Tryz.func146,Tryz.ntmps146;go_wp2;go_ret;exact⟨rfl,H.out.drop⟩
      ·rw[decide_eq_false h5,Bool.false_and]at hr;subst hr;go_enter Tryz.func146,Tryz.ntmps146;go_wp2;go_ret;exact⟨rfl,H.out.drop⟩
     ·rw[decide_eq_false h4,Bool.false_and]at hr;subst hr;go_enter Tryz.func146,Tryz.ntmps146;go_wp2;go_ret;exact⟨rfl,H.out.drop⟩
    ·rw[decide_eq_false h3,Bool.false_and]at hr;subst hr;go_enter Tryz.func146,Tryz.ntmps146;go_wp2;go_ret;exact⟨rfl,H.out.drop⟩
   ·rw[decide_eq_false h2,Bool.false_and]at hr;subst hr;go_enter Tryz.func146,Tryz.ntmps146;go_wp2;go_ret;exact⟨rfl,H.out.drop⟩
  ·rw[decide_eq_false h1,Bool.false_and]at hr;subst hr;go_enter Tryz.func146,Tryz.ntmps146;go_wp2;go_ret;exact⟨rfl,H.out.drop⟩
 ·rw[decide_eq_false h0,Bool.false_and]at hr;subst hr;go_enter Tryz.func146,Tryz.ntmps146;go_wp2;go_ret;exact⟨rfl,H.out.drop⟩
theorem zB1(s:Int)(r:Bool)(hr:idle s=r)(h:St W0 w K L):
 Calls Jb 147 #[I O s] w fun en w'=>en=Y (U r)∧St W0 w' K L:=by
 have H:=hQd h;clear h;unfold idle at hr
 by_cases h1:s=1
 ·subst h1;simp at hr;subst hr;go_enter Tryz.func147,Tryz.ntmps147;go_wp2;go_ret;exact⟨rfl,H.out⟩
 ·have e1:(s==1)=false:=by rw[beq_eq_false_iff_ne];exact h1
  have n1:(s !=1)=true:=by simp[bne,e1]
  rw[e1,Bool.not_false,Bool.true_and]at hr
  by_cases h2:s=2
  ·subst h2;simp at hr;subst hr;clear e1 n1 h1;go_enter Tryz.func147,Tryz.ntmps147;go_wp2;go_ret;exact⟨rfl,H.out⟩
  ·have e2:(s==2)=false:=by rw[beq_eq_false_iff_ne];exact h2
   have n2:(s !=2)=true:=by simp[bne,e2]
   rw[e2,Bool.not_false,Bool.true_and]at hr
   by_cases h3:s=3
   ·subst h3;simp at hr;subst hr;clear e1 n1 h1 e2 n2 h2;go_enter Tryz.func147,Tryz.ntmps147;go_wp2;go_ret;exact⟨rfl,H.out⟩
   ·have e3:(s==3)=false:=by rw[beq_eq_false_iff_ne];exact h3
    have n3:(s !=3)=true:=by simp[bne,e3]
    rw[e3,Bool.not_false]at hr;subst hr;go_enter Tryz.func147,Tryz.ntmps147;go_wp2;go_ret;exact⟨rfl,H.out⟩
variable {W0 w:World}{K:Know}{L:List Res}
theorem zJY(p e t s u st:Int)(l:List (TopS×Value))(q:Option Addr)(cap:Nat)(hrg:(decide (0≤p) && (decide (0≤e) && (decide (e≤32767) && (decide (0≤t) && (decide (t≤2147483647) && (decide (0≤u) && decide (-1≤st)))))))=false)(hf:FewT l)(hk:K.has (Know.tops (V q l.length cap) l))(h:St W0 w K L):
 Calls Jb 91 #[.agg #[I O p,I O e,I O t,I O s,V q l.length cap,I O u,I O st]] w fun en w'=>en=Y (I O 11)∧St W0 w' K L:=by
 have HK:=hQd hk;have HF:=hQd hf;obtain⟨vb,hvb⟩:=eX w.heap.size;have h1:=h.allocRaw #[I O p,I O e,I O t,I O s,V q l.length cap,I O u,I O st] 107;rw[hvb]at h1;obtain⟨c0,c1,c2,c3,c4,c5,c6⟩:=uR7 ((h1));simp at c0 c1 c2 c3 c4 c5 c6;have H:=hQd h1;clear h h1 hk hf;have HRG:=hQd hrg;clear hrg;go_enter Tryz.func91,Tryz.ntmps91;go_wp2_with (go_at_call 146;(with_reducible refine(zAU _ _ _ _ _ _ _ false HRG.out H.out).mono ?_);rintro e_ wn ⟨rfl,h⟩;obtain⟨c0,c1,c2,c3,c4,c5,c6⟩:=uR7 ((h));simp at c0 c1 c2 c3 c4 c5 c6;replace H:=hQd h;clear h);go_ret;exact⟨rfl,H.out.drop⟩
theorem zq11{p:Prop}(h:p:=by go_enter Tryz.func91,Tryz.ntmps91;go_wp2_with (go_at_call 146;(with_reducible refine(zAU _ _ _ _ _ _ _ true HRG.out H.out).mono ?_);rintro e_ wn ⟨rfl,h⟩;obtain⟨c0,c1,c2,c3,c4,c5,c6⟩:=uR7 ((h));simp at c0 c1 c2 c3 c4 c5 c6;replace H:=hQd h;clear h);go_ret;exact⟨rfl,H.out.drop⟩):p:=h
theorem zJX(p e t s u st:Int)(l:List (TopS×Value))(q:Option Addr)(cap:Nat)(hrg:(decide (0≤p) && (decide (0≤e) && (decide (e≤32767) && (decide (0≤t) && (decide (t≤2147483647) && (decide (0≤u) && decide (-1≤st)))))))=true)(hs:s<0∨7≤s)(hf:FewT l)(hk:K.has (Know.tops (V q l.length cap) l))(h:St W0 w K L):
 Calls Jb 91 #[.agg #[I O p,I O e,I O t,I O s,V q l.length cap,I O u,I O st]] w fun en w'=>en=Y (I O 12)∧St W0 w' K L:=by
 have HK:=hQd hk;have HF:=hQd hf;obtain⟨vb,hvb⟩:=eX w.heap.size;have h1:=h.allocRaw #[I O p,I O e,I O t,I O s,V q l.length cap,I O u,I O st] 107;rw[hvb]at h1;obtain⟨c0,c1,c2,c3,c4,c5,c6⟩:=uR7 ((h1));simp at c0 c1 c2 c3 c4 c5 c6;have H:=hQd h1;clear h h1 hk hf;have HRG:=hQd hrg;clear hrg
 rcases hs with hs|hs
 ·as_aux_lemma=>
  exact zq11
 ·as_aux_lemma=>
  have hs0:¬s<0:=by omega
  exact zq11
variable {W0 w:World}{K:Know}{L:List Res}
theorem zDa(q:Option Addr)(cap:Nat)(r:Bool)(hr:zCN (([]:List (TopS×Value)).map (·.1))=r)(hf:FewT [])(hk:K.has (Know.tops (V q 0 cap) []))(h:St W0 w K L):
 Calls Jb 148 #[V q 0 cap] w fun en w'=>en=Y (U r)∧St W0 w' K L:=zCn [] q cap r hr hf hk h
theorem zIA(p e t s u st:Int)(q:Option Addr)(cap:Nat)(hrg:(decide (0≤p) && (decide (0≤e) && (decide (e≤32767) && (decide (0≤t) && (decide (t≤2147483647) && (decide (0≤u) && decide (-1≤st)))))))=true)(hs1:0≤s)(hs2:s<7)(hi:idle s=false)(hf:FewT [])(hk:K.has (Know.tops (V q 0 cap) []))(h:St W0 w K L):
 Calls Jb 91 #[.agg #[I O p,I O e,I O t,I O s,V q 0 cap,I O u,I O st]] w fun en w'=>en=Y (I O 10)∧St W0 w' K L:=by
 have HK:=hQd hk;have HF:=hQd hf;obtain⟨vb,hvb⟩:=eX w.heap.size;have h1:=h.allocRaw #[I O p,I O e,I O t,I O s,V q 0 cap,I O u,I O st] 107;rw[hvb]at h1;obtain⟨c0,c1,c2,c3,c4,c5,c6⟩:=uR7 ((h1));simp at c0 c1 c2 c3 c4 c5 c6;have H:=hQd h1;clear h h1 hk hf;have HRG:=hQd hrg;have HI:=hQd hi;have g1:¬s<0:=by omega
 have g2:¬7≤s:=by omega
 clear hrg hi
 go_enter Tryz.func91,Tryz.ntmps91;go_wp2_with (go_at_call 146;(with_reducible refine(zAU _ _ _ _ _ _ _ true HRG.out H.out).mono ?_);rintro e_ wn ⟨rfl,h⟩;obtain⟨c0,c1,c2,c3,c4,c5,c6⟩:=uR7 ((h));simp at c0 c1 c2 c3 c4 c5 c6;replace H:=hQd h;clear h);have hs:=H.out.drew;have HKP:=hQd (show ∀w',St W0 w' K (.raw vb #[I O p,I O e,I O t,I O s,V q 0 cap,I O u,I O st] 107::L)→(w'.cell? ⟨vb,3,none⟩=some (I O s)∧w'.cell? ⟨vb,4,none⟩=some (V q 0 cap)∧w'.cell? ⟨vb,6,none⟩=some (I O st))from fun w' hs=>⟨hs.rawCell 3,hs.rawCell 4,hs.rawCell 6⟩);refine wp_region_held_drew (S:=fun w'=>w'.cell? ⟨vb,3,none⟩=some (I O s)∧w'.cell? ⟨vb,4,none⟩=some (V q 0 cap)∧w'.cell? ⟨vb,6,none⟩=some (I O st)) kR (HKP.out _ hs) (fun _=> ?_);refine tR 0 ?_;refine tR 1 ?_;refine tR 3 ?_;refine tR 4 ?_;refine tR 5 ?_;refine tR 6 ?_;refine wR [2] (rC rfl (fun KK hK=> ?_) rN);go_simp;go_at_call 147;with_reducible refine(zB1 _ _ HI.out hs).mono ?_;rintro e wq ⟨rfl,hs⟩;refine zK hK (HKP.out _ hs) (fun _=> ?_);clear hK KK
 refine tR 7 ?_;refine tR 8 ?_;refine wpAnyH_take (i:=9) (oi:=⟨some 23,.fieldAddr 107 (.tmp 1) 3,0,_,_,some (8,false)⟩) (v:=undef) rfl kR kR kR (fun _ _ _ h=>h) (Or.inr ⟨by rfl,rfl⟩) (by assumption) ?_;simp only[Act.put,sA,sB,sC];refine wpAnyH_take (i:=10) (oi:=⟨some 24,.load 3 (.tmp 23),3,_,_,some (8,false)⟩) (v:=undef) rfl kR kR kR (fun _ _ _ h=>h) (Or.inr ⟨by rfl,rfl⟩) (by assumption) ?_;simp only[Act.put,sA,sB,sC];refine wpAnyH_take (i:=11) (oi:=⟨some 25,.binOp .eql 3 (.tmp 24) (.const (Value.int IntKind.i64 0)) 3,4,_,_,some (8,false)⟩) (v:=undef) rfl kR kR kR (fun _ _ _ h=>h) (Or.inr ⟨by rfl,rfl⟩) (by assumption) ?_;simp only[Act.put,sA,sB,sC];refine wpAnyH_take (i:=12) (oi:=⟨some 26,.fieldAddr 107 (.tmp 1) 6,0,_,_,some (8,false)⟩) (v:=undef) rfl kR kR kR (fun _ _ _ h=>h) (Or.inr ⟨by rfl,rfl⟩) (by assumption) ?_;simp only[Act.put,sA,sB,sC];refine wpAnyH_take (i:=13) (oi:=⟨some 27,.load 3 (.tmp 26),3,_,_,some (8,false)⟩) (v:=undef) rfl kR kR kR (fun _ _ _ h=>h) (Or.inr ⟨by rfl,rfl⟩) (by assumption) ?_;simp only[Act.put,sA,sB,sC];refine wpAnyH_take (i:=14) (oi:=⟨some 28,.binOp .eql 3 (.tmp 27) (.const (Value.int IntKind.i64 (-1))) 3,4,_,_,some (8,false)⟩) (v:=undef) rfl kR kR kR (fun _ _ _ h=>h) (Or.inr ⟨by rfl,rfl⟩) (by assumption) ?_;simp only[Act.put,sA,sB,sC];refine wpAnyH_take (i:=15) (oi:=⟨some 29,.binOp .neq 4 (.tmp 25) (.tmp 28) 4,4,_,_,some (8,false)⟩) (v:=undef) rfl kR kR kR (fun _ _ _ h=>h) (Or.inr ⟨by rfl,rfl⟩) (by assumption) ?_;simp only[Act.put,sA,sB,sC];refine tR 16 ?_;refine wpAnyH_done kR ?_ _;go_wp2_with fail;go_ret;exact⟨rfl,hs.drop⟩
theorem zIz(p e t s u st:Int)(l:List (TopS×Value))(q:Option Addr)(cap:Nat)(hrg:(decide (0≤p) && (decide (0≤e) && (decide (e≤32767) && (decide (0≤t) && (decide (t≤2147483647) && (decide (0≤u) && decide (-1≤st)))))))=true)(hs1:0≤s)(hs2:s<7)(hi:idle s=true)(hem:¬l=[])(hf:FewT l)(hk:K.has (Know.tops (V q l.length cap) l))(h:St W0 w K L):
 Calls Jb 91 #[.agg #[I O p,I O e,I O t,I O s,V q l.length cap,I O u,I O st]] w fun en w'=>en=Y (I O 10)∧St W0 w' K L:=by
 have HK:=hQd hk;have HF:=hQd hf;obtain⟨vb,hvb⟩:=eX w.heap.size;have h1:=h.allocRaw #[I O p,I O e,I O t,I O s,V q l.length cap,I O u,I O st] 107;rw[hvb]at h1;obtain⟨c0,c1,c2,c3,c4,c5,c6⟩:=uR7 ((h1));simp at c0 c1 c2 c3 c4 c5 c6;have H:=hQd h1;clear h h1 hk hf;have HRG:=hQd hrg;have HI:=hQd hi;have g1:¬s<0:=by omega
 have g2:¬7≤s:=by omega
 clear hrg hi;have hl0:((l.length:Int)==0)=false:=by rw[beq_eq_false_iff_ne];intro h;exact hem (List.length_eq_zero_iff.1 oM)
 go_enter Tryz.func91,Tryz.ntmps91;go_wp2_with (go_at_call 146;(with_reducible refine(zAU _ _ _ _ _ _ _ true HRG.out H.out).mono ?_);rintro e_ wn ⟨rfl,h⟩;obtain⟨c0,c1,c2,c3,c4,c5,c6⟩:=uR7 ((h));simp at c0 c1 c2 c3 c4 c5 c6;replace H:=hQd h;clear h);have hs:=H.out.drew;have HKP:=hQd (show ∀w',St W0 w' K (.raw vb #[I O p,I O e,I O t,I O s,V q l.length cap,I O u,I O st] 107::L)→(w'.cell? ⟨vb,3,none⟩=some (I O s)∧w'.cell? ⟨vb,4,none⟩=some (V q l.length cap)∧w'.cell? ⟨vb,6,none⟩=some (I O st))from fun w' hs=>⟨hs.rawCell 3,hs.rawCell 4,hs.rawCell 6⟩);refine wp_region_held_drew (S:=fun w'=>w'.cell? ⟨vb,3,none⟩=some (I O s)∧w'.cell? ⟨vb,4,none⟩=some (V q l.length cap)∧w'.cell? ⟨vb,6,none⟩=some (I O st)) kR (HKP.out _ hs) (fun _=> ?_);refine tR 0 ?_;refine tR 1 ?_;refine tR 3 ?_;refine tR 4 ?_;refine tR 5 ?_;refine tR 6 ?_;refine wR [2] (rC rfl (fun KK hK=> ?_) rN);go_simp;go_at_call 147;with_reducible refine(zB1 _ _ HI.out hs).mono ?_;rintro e wq ⟨rfl,hs⟩;refine zK hK (HKP.out _ hs) (fun _=> ?_);clear hK KK
 refine tR 7 ?_;refine tR 8 ?_;refine wpAnyH_take (i:=9) (oi:=⟨some 23,.fieldAddr 107 (.tmp 1) 3,0,_,_,some (8,false)⟩) (v:=undef) rfl kR kR kR (fun _ _ _ h=>h) (Or.inr ⟨by rfl,rfl⟩) (by assumption) ?_;simp only[Act.put,sA,sB,sC];refine wpAnyH_take (i:=10) (oi:=⟨some 24,.load 3 (.tmp 23),3,_,_,some (8,false)⟩) (v:=undef) rfl kR kR kR (fun _ _ _ h=>h) (Or.inr ⟨by rfl,rfl⟩) (by assumption) ?_;simp only[Act.put,sA,sB,sC];refine wpAnyH_take (i:=11) (oi:=⟨some 25,.binOp .eql 3 (.tmp 24) (.const (Value.int IntKind.i64 0)) 3,4,_,_,some (8,false)⟩) (v:=undef) rfl kR kR kR (fun _ _ _ h=>h) (Or.inr ⟨by rfl,rfl⟩) (by assumption) ?_;simp only[Act.put,sA,sB,sC];refine wpAnyH_take (i:=12) (oi:=⟨some 26,.fieldAddr 107 (.tmp 1) 6,0,_,_,some (8,false)⟩) (v:=undef) rfl kR kR kR (fun _ _ _ h=>h) (Or.inr ⟨by rfl,rfl⟩) (by assumption) ?_;simp only[Act.put,sA,sB,sC];refine wpAnyH_take (i:=13) (oi:=⟨some 27,.load 3 (.tmp 26),3,_,_,some (8,false)⟩) (v:=undef) rfl kR kR kR (fun _ _ _ h=>h) (Or.inr ⟨by rfl,rfl⟩) (by assumption) ?_;simp only[Act.put,sA,sB,sC];refine wpAnyH_take (i:=14) (oi:=⟨some 28,.binOp .eql 3 (.tmp 27) (.const (Value.int IntKind.i64 (-1))) 3,4,_,_,some (8,false)⟩) (v:=undef) rfl kR kR kR (fun _ _ _ h=>h) (Or.inr ⟨by rfl,rfl⟩) (by assumption) ?_;simp only[Act.put,sA,sB,sC];refine wpAnyH_take (i:=15) (oi:=⟨some 29,.binOp .neq 4 (.tmp 25) (.tmp 28) 4,4,_,_,some (8,false)⟩) (v:=undef) rfl kR kR kR (fun _ _ _ h=>h) (Or.inr ⟨by rfl,rfl⟩) (by assumption) ?_;simp only[Act.put,sA,sB,sC];refine tR 16 ?_;refine wpAnyH_done kR ?_ _;go_wp2_with fail;go_ret;exact⟨rfl,hs.drop⟩
theorem zHp(p e t s u st:Int)(q:Option Addr)(cap:Nat)(hrg:(decide (0≤p) && (decide (0≤e) && (decide (e≤32767) && (decide (0≤t) && (decide (t≤2147483647) && (decide (0≤u) && decide (-1≤st)))))))=true)(hs1:0≤s)(hs2:s<7)(hi:idle s=true)(h1:s=0)(h2:st= -1)(htr:zCN (([]:List (TopS×Value)).map (·.1))=true)(hf:FewT [])(hk:K.has (Know.tops (V q 0 cap) []))(h:St W0 w K L):
 Calls Jb 91 #[.agg #[I O p,I O e,I O t,I O s,V q 0 cap,I O u,I O st]] w fun en w'=>en=Y (I O 0)∧St W0 w' K L:=by
 have HK:=hQd hk;have HF:=hQd hf;obtain⟨vb,hvb⟩:=eX w.heap.size;have h1:=h.allocRaw #[I O p,I O e,I O t,I O s,V q 0 cap,I O u,I O st] 107;rw[hvb]at h1;obtain⟨c0,c1,c2,c3,c4,c5,c6⟩:=uR7 ((h1));simp at c0 c1 c2 c3 c4 c5 c6;have H:=hQd h1;clear h h1 hk hf;have HTR:=hQd htr;clear htr;have HRG:=hQd hrg;have HI:=hQd hi;have g1:¬s<0:=by omega
 have g2:¬7≤s:=by omega
 clear hrg hi
 subst h1;subst h2;go_enter Tryz.func91,Tryz.ntmps91;go_wp2_with (go_at_call 146;(with_reducible refine(zAU _ _ _ _ _ _ _ true HRG.out H.out).mono ?_);rintro e_ wn ⟨rfl,h⟩;obtain⟨c0,c1,c2,c3,c4,c5,c6⟩:=uR7 ((h));simp at c0 c1 c2 c3 c4 c5 c6;replace H:=hQd h;clear h);have hs:=H.out.drew;have HKP:=hQd (show ∀w',St W0 w' K (.raw vb #[I O p,I O e,I O t,I O 0,V q 0 cap,I O u,I O (-1)] 107::L)→(w'.cell? ⟨vb,3,none⟩=some (I O 0)∧w'.cell? ⟨vb,4,none⟩=some (V q 0 cap)∧w'.cell? ⟨vb,6,none⟩=some (I O (-1)))from fun w' hs=>⟨hs.rawCell 3,hs.rawCell 4,hs.rawCell 6⟩);refine wp_region_held_drew (S:=fun w'=>w'.cell? ⟨vb,3,none⟩=some (I O 0)∧w'.cell? ⟨vb,4,none⟩=some (V q 0 cap)∧w'.cell? ⟨vb,6,none⟩=some (I O (-1))) kR (HKP.out _ hs) (fun _=> ?_);refine tR 0 ?_;refine tR 1 ?_;refine tR 3 ?_;refine tR 4 ?_;refine tR 5 ?_;refine tR 6 ?_;refine wR [2] (rC rfl (fun KK hK=> ?_) rN);go_simp;go_at_call 147;with_reducible refine(zB1 _ _ HI.out hs).mono ?_;rintro e wq ⟨rfl,hs⟩;refine zK hK (HKP.out _ hs) (fun _=> ?_);clear hK KK
 refine tR 7 ?_;refine tR 8 ?_;refine tR 9 ?_;refine tR 10 ?_;refine tR 11 ?_;refine tR 12 ?_;refine tR 13 ?_;refine tR 14 ?_;refine tR 15 ?_;refine tR 16 ?_;refine wpAnyH_done kR ?_ _;clear H;have c4:=hs.rawCell 4;simp at c4;have H:=hQd hs;clear hs;go_wp2_with (go_at_call 148;(with_reducible refine(zDa _ _ true HTR.out HF.out HK.out H.out).zM ?_);clear H;intro wn H);go_ret;exact⟨rfl,H.out.drop⟩
theorem zIx(p e t s u st:Int)(q:Option Addr)(cap:Nat)(hrg:(decide (0≤p) && (decide (0≤e) && (decide (e≤32767) && (decide (0≤t) && (decide (t≤2147483647) && (decide (0≤u) && decide (-1≤st)))))))=true)(hs1:0≤s)(hs2:s<7)(hi:idle s=true)(h1:s=0)(h2:¬st= -1)(hf:FewT [])(hk:K.has (Know.tops (V q 0 cap) []))(h:St W0 w K L):
 Calls Jb 91 #[.agg #[I O p,I O e,I O t,I O s,V q 0 cap,I O u,I O st]] w fun en w'=>en=Y (I O 10)∧St W0 w' K L:=by
 have HK:=hQd hk;have HF:=hQd hf;obtain⟨vb,hvb⟩:=eX w.heap.size;have h1:=h.allocRaw #[I O p,I O e,I O t,I O s,V q 0 cap,I O u,I O st] 107;rw[hvb]at h1;obtain⟨c0,c1,c2,c3,c4,c5,c6⟩:=uR7 ((h1));simp at c0 c1 c2 c3 c4 c5 c6;have H:=hQd h1;clear h h1 hk hf;have HRG:=hQd hrg;have HI:=hQd hi;have g1:¬s<0:=by omega
 have g2:¬7≤s:=by omega
 clear hrg hi
 subst h1;have k2:(st== -1)=false:=by rw[beq_eq_false_iff_ne];exact h2
 go_enter Tryz.func91,Tryz.ntmps91;go_wp2_with (go_at_call 146;(with_reducible refine(zAU _ _ _ _ _ _ _ true HRG.out H.out).mono ?_);rintro e_ wn ⟨rfl,h⟩;obtain⟨c0,c1,c2,c3,c4,c5,c6⟩:=uR7 ((h));simp at c0 c1 c2 c3 c4 c5 c6;replace H:=hQd h;clear h);have hs:=H.out.drew;have HKP:=hQd (show ∀w',St W0 w' K (.raw vb #[I O p,I O e,I O t,I O 0,V q 0 cap,I O u,I O st] 107::L)→(w'.cell? ⟨vb,3,none⟩=some (I O 0)∧w'.cell? ⟨vb,4,none⟩=some (V q 0 cap)∧w'.cell? ⟨vb,6,none⟩=some (I O st))from fun w' hs=>⟨hs.rawCell 3,hs.rawCell 4,hs.rawCell 6⟩);refine wp_region_held_drew (S:=fun w'=>w'.cell? ⟨vb,3,none⟩=some (I O 0)∧w'.cell? ⟨vb,4,none⟩=some (V q 0 cap)∧w'.cell? ⟨vb,6,none⟩=some (I O st)) kR (HKP.out _ hs) (fun _=> ?_);refine tR 0 ?_;refine tR 1 ?_;refine tR 3 ?_;refine tR 4 ?_;refine tR 5 ?_;refine tR 6 ?_;refine wR [2] (rC rfl (fun KK hK=> ?_) rN);go_simp;go_at_call 147;with_reducible refine(zB1 _ _ HI.out hs).mono ?_;rintro e wq ⟨rfl,hs⟩;refine zK hK (HKP.out _ hs) (fun _=> ?_);clear hK KK
 refine tR 7 ?_;refine tR 8 ?_;refine tR 9 ?_;refine tR 10 ?_;refine tR 11 ?_;refine tR 12 ?_;refine tR 13 ?_;refine tR 14 ?_;refine tR 15 ?_;refine tR 16 ?_;refine wpAnyH_done kR ?_ _;go_wp2_with fail;go_ret;exact⟨rfl,hs.drop⟩
theorem zIy(p e t s u st:Int)(q:Option Addr)(cap:Nat)(hrg:(decide (0≤p) && (decide (0≤e) && (decide (e≤32767) && (decide (0≤t) && (decide (t≤2147483647) && (decide (0≤u) && decide (-1≤st)))))))=true)(hs1:0≤s)(hs2:s<7)(hi:idle s=true)(h1:¬s=0)(h2:st= -1)(hf:FewT [])(hk:K.has (Know.tops (V q 0 cap) []))(h:St W0 w K L):
 Calls Jb 91 #[.agg #[I O p,I O e,I O t,I O s,V q 0 cap,I O u,I O st]] w fun en w'=>en=Y (I O 10)∧St W0 w' K L:=by
 have HK:=hQd hk;have HF:=hQd hf;obtain⟨vb,hvb⟩:=eX w.heap.size;have h1:=h.allocRaw #[I O p,I O e,I O t,I O s,V q 0 cap,I O u,I O st] 107;rw[hvb]at h1;obtain⟨c0,c1,c2,c3,c4,c5,c6⟩:=uR7 ((h1));simp at c0 c1 c2 c3 c4 c5 c6;have H:=hQd h1;clear h h1 hk hf;have HRG:=hQd hrg;have HI:=hQd hi;have g1:¬s<0:=by omega
 have g2:¬7≤s:=by omega
 clear hrg hi
 have k1:(s==0)=false:=by rw[beq_eq_false_iff_ne];exact h1
 subst h2;go_enter Tryz.func91,Tryz.ntmps91;go_wp2_with (go_at_call 146;(with_reducible refine(zAU _ _ _ _ _ _ _ true HRG.out H.out).mono ?_);rintro e_ wn ⟨rfl,h⟩;obtain⟨c0,c1,c2,c3,c4,c5,c6⟩:=uR7 ((h));simp at c0 c1 c2 c3 c4 c5 c6;replace H:=hQd h;clear h);have hs:=H.out.drew;have HKP:=hQd (show ∀w',St W0 w' K (.raw vb #[I O p,I O e,I O t,I O s,V q 0 cap,I O u,I O (-1)] 107::L)→(w'.cell? ⟨vb,3,none⟩=some (I O s)∧w'.cell? ⟨vb,4,none⟩=some (V q 0 cap)∧w'.cell? ⟨vb,6,none⟩=some (I O (-1)))from fun w' hs=>⟨hs.rawCell 3,hs.rawCell 4,hs.rawCell 6⟩);refine wp_region_held_drew (S:=fun w'=>w'.cell? ⟨vb,3,none⟩=some (I O s)∧w'.cell? ⟨vb,4,none⟩=some (V q 0 cap)∧w'.cell? ⟨vb,6,none⟩=some (I O (-1))) kR (HKP.out _ hs) (fun _=> ?_);refine tR 0 ?_;refine tR 1 ?_;refine tR 3 ?_;refine tR 4 ?_;refine tR 5 ?_;refine tR 6 ?_;refine wR [2] (rC rfl (fun KK hK=> ?_) rN);go_simp;go_at_call 147;with_reducible refine(zB1 _ _ HI.out hs).mono ?_;rintro e wq ⟨rfl,hs⟩;refine zK hK (HKP.out _ hs) (fun _=> ?_);clear hK KK
 refine tR 7 ?_;refine tR 8 ?_;refine tR 9 ?_;refine tR 10 ?_;refine tR 11 ?_;refine tR 12 ?_;refine tR 13 ?_;refine tR 14 ?_;refine tR 15 ?_;refine tR 16 ?_;refine wpAnyH_done kR ?_ _;go_wp2_with fail;go_ret;exact⟨rfl,hs.drop⟩
theorem zHq(p e t s u st:Int)(q:Option Addr)(cap:Nat)(hrg:(decide (0≤p) && (decide (0≤e) && (decide (e≤32767) && (decide (0≤t) && (decide (t≤2147483647) && (decide (0≤u) && decide (-1≤st)))))))=true)(hs1:0≤s)(hs2:s<7)(hi:idle s=true)(h1:¬s=0)(h2:¬st= -1)(htr:zCN (([]:List (TopS×Value)).map (·.1))=true)(hf:FewT [])(hk:K.has (Know.tops (V q 0 cap) []))(h:St W0 w K L):
 Calls Jb 91 #[.agg #[I O p,I O e,I O t,I O s,V q 0 cap,I O u,I O st]] w fun en w'=>en=Y (I O 0)∧St W0 w' K L:=by
 have HK:=hQd hk;have HF:=hQd hf;obtain⟨vb,hvb⟩:=eX w.heap.size;have h1:=h.allocRaw #[I O p,I O e,I O t,I O s,V q 0 cap,I O u,I O st] 107;rw[hvb]at h1;obtain⟨c0,c1,c2,c3,c4,c5,c6⟩:=uR7 ((h1));simp at c0 c1 c2 c3 c4 c5 c6;have H:=hQd h1;clear h h1 hk hf;have HTR:=hQd htr;clear htr;have HRG:=hQd hrg;have HI:=hQd hi;have g1:¬s<0:=by omega
 have g2:¬7≤s:=by omega
 clear hrg hi
 have k1:(s==0)=false:=by rw[beq_eq_false_iff_ne];exact h1
 have k2:(st== -1)=false:=by rw[beq_eq_false_iff_ne];exact h2
 go_enter Tryz.func91,Tryz.ntmps91;go_wp2_with (go_at_call 146;(with_reducible refine(zAU _ _ _ _ _ _ _ true HRG.out H.out).mono ?_);rintro e_ wn ⟨rfl,h⟩;obtain⟨c0,c1,c2,c3,c4,c5,c6⟩:=uR7 ((h));simp at c0 c1 c2 c3 c4 c5 c6;replace H:=hQd h;clear h);have hs:=H.out.drew;have HKP:=hQd (show ∀w',St W0 w' K (.raw vb #[I O p,I O e,I O t,I O s,V q 0 cap,I O u,I O st] 107::L)→(w'.cell? ⟨vb,3,none⟩=some (I O s)∧w'.cell? ⟨vb,4,none⟩=some (V q 0 cap)∧w'.cell? ⟨vb,6,none⟩=some (I O st))from fun w' hs=>⟨hs.rawCell 3,hs.rawCell 4,hs.rawCell 6⟩);refine wp_region_held_drew (S:=fun w'=>w'.cell? ⟨vb,3,none⟩=some (I O s)∧w'.cell? ⟨vb,4,none⟩=some (V q 0 cap)∧w'.cell? ⟨vb,6,none⟩=some (I O st)) kR (HKP.out _ hs) (fun _=> ?_);refine tR 0 ?_;refine tR 1 ?_;refine tR 3 ?_;refine tR 4 ?_;refine tR 5 ?_;refine tR 6 ?_;refine wR [2] (rC rfl (fun KK hK=> ?_) rN);go_simp;go_at_call 147;with_reducible refine(zB1 _ _ HI.out hs).mono ?_;rintro e wq ⟨rfl,hs⟩;refine zK hK (HKP.out _ hs) (fun _=> ?_);clear hK KK
 refine tR 7 ?_;refine tR 8 ?_;refine tR 9 ?_;refine tR 10 ?_;refine tR 11 ?_;refine tR 12 ?_;refine tR 13 ?_;refine tR 14 ?_;refine tR 15 ?_;refine tR 16 ?_;refine wpAnyH_done kR ?_ _;clear H;have c4:=hs.rawCell 4;simp at c4;have H:=hQd hs;clear hs;go_wp2_with (go_at_call 148;(with_reducible refine(zDa _ _ true HTR.out HF.out HK.out H.out).zM ?_);clear H;intro wn H);go_ret;exact⟨rfl,H.out.drop⟩
theorem zIw(p e t s u st:Int)(l:List (TopS×Value))(q:Option Addr)(cap:Nat)(hrg:(decide (0≤p) && (decide (0≤e) && (decide (e≤32767) && (decide (0≤t) && (decide (t≤2147483647) && (decide (0≤u) && decide (-1≤st)))))))=true)(hs1:0≤s)(hs2:s<7)(hi:idle s=false)(hem:¬l=[])(h1:¬s=0)(h2:st= -1)(hf:FewT l)(hk:K.has (Know.tops (V q l.length cap) l))(h:St W0 w K L):
 Calls Jb 91 #[.agg #[I O p,I O e,I O t,I O s,V q l.length cap,I O u,I O st]] w fun en w'=>en=Y (I O 10)∧St W0 w' K L:=by
 have HK:=hQd hk;have HF:=hQd hf;obtain⟨vb,hvb⟩:=eX w.heap.size;have h1:=h.allocRaw #[I O p,I O e,I O t,I O s,V q l.length cap,I O u,I O st] 107;rw[hvb]at h1;obtain⟨c0,c1,c2,c3,c4,c5,c6⟩:=uR7 ((h1));simp at c0 c1 c2 c3 c4 c5 c6;have H:=hQd h1;clear h h1 hk hf;have HRG:=hQd hrg;have HI:=hQd hi;have g1:¬s<0:=by omega
 have g2:¬7≤s:=by omega
 clear hrg hi;have hl0:((l.length:Int)==0)=false:=by rw[beq_eq_false_iff_ne];intro h;exact hem (List.length_eq_zero_iff.1 oM)
 have k1:(s==0)=false:=by rw[beq_eq_false_iff_ne];exact h1
 subst h2;go_enter Tryz.func91,Tryz.ntmps91;go_wp2_with (go_at_call 146;(with_reducible refine(zAU _ _ _ _ _ _ _ true HRG.out H.out).mono ?_);rintro e_ wn ⟨rfl,h⟩;obtain⟨c0,c1,c2,c3,c4,c5,c6⟩:=uR7 ((h));simp at c0 c1 c2 c3 c4 c5 c6;replace H:=hQd h;clear h);have hs:=H.out.drew;have HKP:=hQd (show ∀w',St W0 w' K (.raw vb #[I O p,I O e,I O t,I O s,V q l.length cap,I O u,I O (-1)] 107::L)→(w'.cell? ⟨vb,3,none⟩=some (I O s)∧w'.cell? ⟨vb,4,none⟩=some (V q l.length cap)∧w'.cell? ⟨vb,6,none⟩=some (I O (-1)))from fun w' hs=>⟨hs.rawCell 3,hs.rawCell 4,hs.rawCell 6⟩);refine wp_region_held_drew (S:=fun w'=>w'.cell? ⟨vb,3,none⟩=some (I O s)∧w'.cell? ⟨vb,4,none⟩=some (V q l.length cap)∧w'.cell? ⟨vb,6,none⟩=some (I O (-1))) kR (HKP.out _ hs) (fun _=> ?_);refine tR 0 ?_;refine tR 1 ?_;refine tR 3 ?_;refine tR 4 ?_;refine tR 5 ?_;refine tR 6 ?_;refine wR [2] (rC rfl (fun KK hK=> ?_) rN);go_simp;go_at_call 147;with_reducible refine(zB1 _ _ HI.out hs).mono ?_;rintro e wq ⟨rfl,hs⟩;refine zK hK (HKP.out _ hs) (fun _=> ?_);clear hK KK
 refine tR 7 ?_;refine tR 8 ?_;refine tR 9 ?_;refine tR 10 ?_;refine tR 11 ?_;refine tR 12 ?_;refine tR 13 ?_;refine tR 14 ?_;refine tR 15 ?_;refine tR 16 ?_;refine wpAnyH_done kR ?_ _;go_wp2_with fail;go_ret;exact⟨rfl,hs.drop⟩
theorem zHn(p e t s u st:Int)(l:List (TopS×Value))(q:Option Addr)(cap:Nat)(hrg:(decide (0≤p) && (decide (0≤e) && (decide (e≤32767) && (decide (0≤t) && (decide (t≤2147483647) && (decide (0≤u) && decide (-1≤st)))))))=true)(hs1:0≤s)(hs2:s<7)(hi:idle s=false)(hem:¬l=[])(h1:¬s=0)(h2:¬st= -1)(htr:zCN (l.map (·.1))=true)(hf:FewT l)(hk:K.has (Know.tops (V q l.length cap) l))(h:St W0 w K L):
 Calls Jb 91 #[.agg #[I O p,I O e,I O t,I O s,V q l.length cap,I O u,I O st]] w fun en w'=>en=Y (I O 0)∧St W0 w' K L:=by
 have HK:=hQd hk;have HF:=hQd hf;obtain⟨vb,hvb⟩:=eX w.heap.size;have h1:=h.allocRaw #[I O p,I O e,I O t,I O s,V q l.length cap,I O u,I O st] 107;rw[hvb]at h1;obtain⟨c0,c1,c2,c3,c4,c5,c6⟩:=uR7 ((h1));simp at c0 c1 c2 c3 c4 c5 c6;have H:=hQd h1;clear h h1 hk hf;have HTR:=hQd htr;clear htr;have HRG:=hQd hrg;have HI:=hQd hi;have g1:¬s<0:=by omega
 have g2:¬7≤s:=by omega
 clear hrg hi;have hl0:((l.length:Int)==0)=false:=by rw[beq_eq_false_iff_ne];intro h;exact hem (List.length_eq_zero_iff.1 oM)
 have k1:(s==0)=false:=by rw[beq_eq_false_iff_ne];exact h1
 have k2:(st== -1)=false:=by rw[beq_eq_false_iff_ne];exact h2
 go_enter Tryz.func91,Tryz.ntmps91;go_wp2_with (go_at_call 146;(with_reducible refine(zAU _ _ _ _ _ _ _ true HRG.out H.out).mono ?_);rintro e_ wn ⟨rfl,h⟩;obtain⟨c0,c1,c2,c3,c4,c5,c6⟩:=uR7 ((h));simp at c0 c1 c2 c3 c4 c5 c6;replace H:=hQd h;clear h);have hs:=H.out.drew;have HKP:=hQd (show ∀w',St W0 w' K (.raw vb #[I O p,I O e,I O t,I O s,V q l.length cap,I O u,I O st] 107::L)→(w'.cell? ⟨vb,3,none⟩=some (I O s)∧w'.cell? ⟨vb,4,none⟩=some (V q l.length cap)∧w'.cell? ⟨vb,6,none⟩=some (I O st))from fun w' hs=>⟨hs.rawCell 3,hs.rawCell 4,hs.rawCell 6⟩);refine wp_region_held_drew (S:=fun w'=>w'.cell? ⟨vb,3,none⟩=some (I O s)∧w'.cell? ⟨vb,4,none⟩=some (V q l.length cap)∧w'.cell? ⟨vb,6,none⟩=some (I O st)) kR (HKP.out _ hs) (fun _=> ?_);refine tR 0 ?_;refine tR 1 ?_;refine tR 3 ?_;refine tR 4 ?_;refine tR 5 ?_;refine tR 6 ?_;refine wR [2] (rC rfl (fun KK hK=> ?_) rN);go_simp;go_at_call 147;with_reducible refine(zB1 _ _ HI.out hs).mono ?_;rintro e wq ⟨rfl,hs⟩;refine zK hK (HKP.out _ hs) (fun _=> ?_);clear hK KK
 refine tR 7 ?_;refine tR 8 ?_;refine tR 9 ?_;refine tR 10 ?_;refine tR 11 ?_;refine tR 12 ?_;refine tR 13 ?_;refine tR 14 ?_;refine tR 15 ?_;refine tR 16 ?_;refine wpAnyH_done kR ?_ _;clear H;have c4:=hs.rawCell 4;simp at c4;have H:=hQd hs;clear hs;go_wp2_with (go_at_call 148;(with_reducible refine(zCn l _ _ true HTR.out HF.out HK.out H.out).zM ?_);clear H;intro wn H);go_ret;exact⟨rfl,H.out.drop⟩
theorem zHo(p e t s u st:Int)(l:List (TopS×Value))(q:Option Addr)(cap:Nat)(hrg:(decide (0≤p) && (decide (0≤e) && (decide (e≤32767) && (decide (0≤t) && (decide (t≤2147483647) && (decide (0≤u) && decide (-1≤st)))))))=true)(hs1:0≤s)(hs2:s<7)(hi:idle s=false)(hem:¬l=[])(h1:¬s=0)(h2:¬st= -1)(htr:zCN (l.map (·.1))=false)(hf:FewT l)(hk:K.has (Know.tops (V q l.length cap) l))(h:St W0 w K L):
 Calls Jb 91 #[.agg #[I O p,I O e,I O t,I O s,V q l.length cap,I O u,I O st]] w fun en w'=>en=Y (I O 13)∧St W0 w' K L:=by
 have HK:=hQd hk;have HF:=hQd hf;obtain⟨vb,hvb⟩:=eX w.heap.size;have h1:=h.allocRaw #[I O p,I O e,I O t,I O s,V q l.length cap,I O u,I O st] 107;rw[hvb]at h1;obtain⟨c0,c1,c2,c3,c4,c5,c6⟩:=uR7 ((h1));simp at c0 c1 c2 c3 c4 c5 c6;have H:=hQd h1;clear h h1 hk hf;have HTR:=hQd htr;clear htr;have HRG:=hQd hrg;have HI:=hQd hi;have g1:¬s<0:=by omega
 have g2:¬7≤s:=by omega
 clear hrg hi;have hl0:((l.length:Int)==0)=false:=by rw[beq_eq_false_iff_ne];intro h;exact hem (List.length_eq_zero_iff.1 oM)
 have k1:(s==0)=false:=by rw[beq_eq_false_iff_ne];exact h1
 have k2:(st== -1)=false:=by rw[beq_eq_false_iff_ne];exact h2
 go_enter Tryz.func91,Tryz.ntmps91;go_wp2_with (go_at_call 146;(with_reducible refine(zAU _ _ _ _ _ _ _ true HRG.out H.out).mono ?_);rintro e_ wn ⟨rfl,h⟩;obtain⟨c0,c1,c2,c3,c4,c5,c6⟩:=uR7 ((h));simp at c0 c1 c2 c3 c4 c5 c6;replace H:=hQd h;clear h);have hs:=H.out.drew;have HKP:=hQd (show ∀w',St W0 w' K (.raw vb #[I O p,I O e,I O t,I O s,V q l.length cap,I O u,I O st] 107::L)→(w'.cell? ⟨vb,3,none⟩=some (I O s)∧w'.cell? ⟨vb,4,none⟩=some (V q l.length cap)∧w'.cell? ⟨vb,6,none⟩=some (I O st))from fun w' hs=>⟨hs.rawCell 3,hs.rawCell 4,hs.rawCell 6⟩);refine wp_region_held_drew (S:=fun w'=>w'.cell? ⟨vb,3,none⟩=some (I O s)∧w'.cell? ⟨vb,4,none⟩=some (V q l.length cap)∧w'.cell? ⟨vb,6,none⟩=some (I O st)) kR (HKP.out _ hs) (fun _=> ?_);refine tR 0 ?_;refine tR 1 ?_;refine tR 3 ?_;refine tR 4 ?_;refine tR 5 ?_;refine tR 6 ?_;refine wR [2] (rC rfl (fun KK hK=> ?_) rN);go_simp;go_at_call 147;with_reducible refine(zB1 _ _ HI.out hs).mono ?_;rintro e wq ⟨rfl,hs⟩;refine zK hK (HKP.out _ hs) (fun _=> ?_);clear hK KK
 refine tR 7 ?_;refine tR 8 ?_;refine tR 9 ?_;refine tR 10 ?_;refine tR 11 ?_;refine tR 12 ?_;refine tR 13 ?_;refine tR 14 ?_;refine tR 15 ?_;refine tR 16 ?_;refine wpAnyH_done kR ?_ _;clear H;have c4:=hs.rawCell 4;simp at c4;have H:=hQd hs;clear hs;go_wp2_with (go_at_call 148;(with_reducible refine(zCn l _ _ false HTR.out HF.out HK.out H.out).zM ?_);clear H;intro wn H);go_ret;exact⟨rfl,H.out.drop⟩
theorem idle_0:idle 0=true:=rfl
theorem zPi(v:ValS)(l:List (TopS×Value))(q:Option Addr)(cap:Nat)(hl:l.map (·.1)=v.tops)(E:Int)(he:v.err=E)(hf:FewT l){W0 w:World}{K:Know}{L:List Res}(hk:K.has (Know.tops (V q l.length cap) l))(h:St W0 w K L):
 Calls Jb 91 #[.agg #[I O v.prod,I O v.epoch,I O v.timeout,I O v.state,V q l.length cap,I O v.upd,I O v.started]] w fun en w'=>en=Y (I O E)∧St W0 w' K L:=by
 obtain⟨p,e,t,s,tops,u,st⟩:=v;simp only at hl ⊢;subst hl;unfold ValS.err ValS.ranged at he;simp only at he
 cases hrg:(decide (0≤p) && (decide (0≤e) && (decide (e≤32767) && (decide (0≤t) && (decide (t≤2147483647) && (decide (0≤u) && decide (-1≤st)))))))with
 |false=>
  rw[if_pos hrg]at he;subst he;exact zJY p e t s u st l q cap hrg hf hk h
 |true=>
  rw[if_neg (by rw[hrg];decide)]at he
  by_cases hs:s<0∨7≤s
  ·rw[if_pos hs]at he;subst he;exact zJX p e t s u st l q cap hrg hs hf hk h
  ·rw[if_neg hs]at he;have s1:0≤s:=by omega
   have s2:s<7:=by omega
   have hemp:(l.map (·.1)).isEmpty=decide (l=[]):=by cases l<;>simp
   rw[hemp]at he
   by_cases hem:l=[]
   ·rw[decide_eq_true hem]at he
    cases hi:idle s with
    |false=>
     rw[if_pos (.inl (by rw[hi];rfl))]at he;subst he;subst hem;exact zIA p e t s u st q cap hrg s1 s2 hi hf hk h
    |true=>
     by_cases h1:s=0
     ·by_cases h2:st= -1
      ·rw[if_neg (by rw[hi,h1,h2];decide)]at he;have htr:zCN (l.map (·.1))=true:=by rw[hem];rfl
       rw[if_neg (by rw[htr];decide)]at he;subst he;subst hem;exact zHp p e t s u st q cap hrg s1 s2 hi h1 h2 htr hf hk h
      ·rw[if_pos (.inr (by rw[h1,beq_eq_false_iff_ne.2 h2];rfl))]at he;subst he;subst hem;exact zIx p e t s u st q cap hrg s1 s2 hi h1 h2 hf hk h
     ·by_cases h2:st= -1
      ·rw[if_pos (.inr (by rw[h2,beq_eq_false_iff_ne.2 h1];rfl))]at he;subst he;subst hem;exact zIy p e t s u st q cap hrg s1 s2 hi h1 h2 hf hk h
      ·rw[if_neg (by rw[hi,beq_eq_false_iff_ne.2 h1,beq_eq_false_iff_ne.2 h2];decide)]at he;have htr:zCN (l.map (·.1))=true:=by rw[hem];rfl
       rw[if_neg (by rw[htr];decide)]at he;subst he;subst hem;exact zHq p e t s u st q cap hrg s1 s2 hi h1 h2 htr hf hk h
   ·rw[decide_eq_false hem]at he
    cases hi:idle s with
    |true=>
     rw[if_pos (.inl (by rw[hi];rfl))]at he;subst he;exact zIz p e t s u st l q cap hrg s1 s2 hi hem hf hk h
    |false=>
     have h1:¬s=0:=by rintro rfl;rw[idle_0]at hi;cases hi
     by_cases h2:st= -1
     ·rw[if_pos (.inr (by rw[h2,beq_eq_false_iff_ne.2 h1];rfl))]at he;subst he;exact zIw p e t s u st l q cap hrg s1 s2 hi hem h1 h2 hf hk h
     ·rw[if_neg (by rw[hi,beq_eq_false_iff_ne.2 h1,beq_eq_false_iff_ne.2 h2];decide)]at he
      cases htr:zCN (l.map (·.1))with
      |true=>
       rw[if_neg (by rw[htr];decide)]at he;subst he;exact zHn p e t s u st l q cap hrg s1 s2 hi hem h1 h2 htr hf hk h
      |false=>
       rw[if_pos htr]at he;subst he;exact zHo p e t s u st l q cap hrg s1 s2 hi hem h1 h2 htr hf hk h
theorem zCL(po:Nat)(e e2:Bs)(l:List (TopS×Value))(q:Option Addr)(cap:Nat)(he:e++zA3 (l.map (·.1))=e2)(hel:e.length≤1000000)(hf:zC7 (l.map (·.1))){W0 w:World}{K:Know}{L:List Res}(hk:K.has (Know.tops (V q l.length cap) l))(h:St W0 w K (.out po ⟨e,0⟩::L)):
  Calls Jb 92 #[zAc po,V q l.length cap] w fun en w'=>en=Y (.tuple #[])∧St W0 w' K (.out po ⟨e2,0⟩::L):=by
 have H:=hQd h;have HK:=hQd hk;have HE:=hQd he;have HEL:=hQd hel;have HF:=hQd hf;have hni:(l.length:Int)≤1000000:=by have:=hf.1;rw[Jj]at this;omega
 obtain⟨A,hA⟩:=eX (e++preT (l.map (·.1)) 0);have HA:=hQd (show e++zAa (l.length:Int) (4:Int).toNat=A by rw[←hA,zP6,Jj];rfl);have HFL:=hQd (zC1 (l.length:Int) oM);have HR0:=hQd (show e.length≤100000000000000 by omega);clear h hk he hel hf;go_enter Tryz.func92,Tryz.ntmps92;go_wp2_with (go_at_call 50;(with_reducible refine(zBH po _ _ _ _ HA.out HFL.out HR0.out H.out).zM ?_);clear H;intro wn H);go_loopw [5,7,14,30] (fun _ _ iv _ wr=>∃k:Nat,k≤l.length∧iv=I O k∧St W0 wr K (.out po ⟨e++preT (l.map (·.1)) k,0⟩::L)) (fun _ _ iv _ _=>l.length - (intOf iv).toNat)
 case atStart=>exact⟨0,Jd _,rfl,by rw[hA];exact H.out⟩
 case round=>
  obtain⟨k,hkl,rfl,hst⟩:=hrel;clear H hA;have H:=hQd hst;clear hst
  by_cases hlt:k<l.length
  · as_aux_lemma=>
    obtain⟨b,off,hqq⟩:=zEX HK.out H.out oM;subst hqq;obtain⟨⟨⟨nm,ps⟩,vx⟩,hx⟩:∃x,l[k]=x:=⟨_,rfl⟩;obtain⟨c0,c1⟩:wr.cell? ⟨b,off+k*2,none⟩=some (Z (bb nm))∧wr.cell? ⟨b,off+k*2+1,none⟩=some vx:=zBT HK.out H.out k hlt _ hx;have hmem:((⟨nm,ps⟩:TopS),vx)∈l:=hx ▸ Ji hlt;have hxk:K.has (Know.flat RI vx 1 ps):=zB5 HK.out hmem;obtain⟨qx,capx,hvx⟩:=zAr hxk H.out;subst hvx;have HXK:=hQd hxk;have hmk:k<(l.map (·.1)).length:=by rw[Jj];exact hlt
    have hmg:(l.map (·.1))[k]=⟨nm,ps⟩:=by rw[List.getElem_map,hx]
    have hfx:(⟨nm,ps⟩:TopS).Fit:=HF.out.2 _ (hmg ▸ Ji hmk);have HNM:=hQd hfx.1;have HPL:=hQd hfx.2.1;have HPS:=hQd hfx.2.2;have hkn:(k:Int)<(l.length:Int):=by omega
    have hnl:(nm.length:Int)≤32767:=by have:=hfx.1;simp only at this;omega
    have hpl:(ps.length:Int)≤1000000:=by have:=hfx.2.1;simp only at this;omega
    have hst1:=zP7 (l.map (·.1)) k hmk _ hmg;have hle1:=zS5 (l.map (·.1)) HF.out (k+1) hmk;have hln:(l.map (·.1)).length≤1000000:=HF.out.1;simp only at hst1;have hel:=HEL.out;obtain⟨tb,htb⟩:=eX wr.heap.size;have h:=(H.out.allocRaw #[Z (bb nm),V qx ps.length capx] 173).p1;rw[htb]at h;obtain⟨t0,t1⟩:=uR2 h.p1;simp at t0 t1;obtain⟨B0,hB0⟩:=eX (e++preT (l.map (·.1)) k);obtain⟨B1,hB1⟩:=eX (B0++encF 2 ⟨false,nm⟩);obtain⟨B2,hB2⟩:=eX (B1++zAa (ps.length:Int) 4);have HB3:=hQd (show e++preT (l.map (·.1)) (k+1)=B2++be4s ps by rw[hst1,←hB2,←hB1,←hB0];simp only[Je])
    have hlen:(B2++be4s ps).length≤100000000000000:=by
     rw[←HB3.out,Jc]
     omega
    have hl0:B0.length≤100000000000000∧B1.length≤100000000000000∧B2.length+4*ps.length≤100000000000000:=by
     rw[Jc,zEJ]at hlen;rw[←hB2,Jc]at hlen ⊢;rw[←hB1,Jc]at hlen ⊢
     omega
    rw[hB0]at h;have HB1:=hQd hB1;have HB2:=hQd (show B1++zAa (ps.length:Int) (4:Int).toNat=B2 from hB2);have HL0:=hQd hl0;have HFP:=hQd (zC1 (ps.length:Int) oM)
    have hp0:ps=[]∨∃pb poff,qx=some ⟨pb,poff,none⟩:=by
     by_cases hps:ps=[]
     · exact .inl hps
     · exact .inr (zD3 HXK.out H.out (List.length_pos_iff.2 hps))
    have HP0:=hQd hp0;clear H;have H:=hQd h;clear h hx hmem hxk hmk hmg hfx hst1 hle1 hln hel hB0 hB1 hB2 hlen hl0 hp0
    go_wp2_with (first
  |(go_at_call 89;(with_reducible refine(zCY po B0 B1 nm HB1.out HNM.out HL0.out.1 H.out).mono ?_);rintro e_ wn ⟨rfl,h⟩;obtain⟨t0,t1⟩:=uR2 h.p1;simp at t0 t1;replace H:=hQd h;clear h)
  |(go_at_call 50;(with_reducible refine(zBH po B1 B2 _ _ HB2.out HFP.out HL0.out.2.1 H.out).mono ?_);rintro e_ wn ⟨rfl,h⟩;obtain⟨t0,t1⟩:=uR2 h.p1;simp at t0 t1;replace H:=hQd h;clear h))
    clear t0 t1;go_loopw [7,30] (fun _ jv wr=>∃j:Nat,j≤ps.length∧jv=I O j∧St W0 wr K (.out po ⟨B2++be4s (ps.take j),0⟩::.raw tb #[Z (bb nm),V qx ps.length capx] 173::L)) (fun _ jv _=>ps.length - (intOf jv).toNat)
    case atStart=>exact⟨0,Jd _,rfl,by rw[List.take_zero];show St W0 _ K (.out po ⟨B2++[],0⟩::_);rw[Jp];exact H.out⟩
    case round=>
     obtain⟨j,hjl,rfl,hst⟩:=hrel;clear H;have H:=hQd hst;clear hst
     by_cases hlj:j<ps.length
     · have hps:¬ps=[]:=by rintro rfl;simp at hlj
       rcases HP0.out with hps2|⟨pb,poff,hq⟩
       · exact absurd hps2 hps
       subst hq;have d0:=zCl HXK.out H.out j hlj;obtain⟨x,hx⟩:=eX (ps.getD j 0);rw[hx]at d0;have hxr:=HPS.out x (hx ▸ zNC ps j hlj);have hst:=zQ7 ps j hlj x hx;obtain⟨C,hC⟩:=eX (B2++be4s (ps.take j));have h:=H.out;rw[hC]at h;have HC2:=hQd (show C++zAa x (4:Int).toNat=B2++be4s (ps.take (j+1)) by rw[hst,←hC,Je];rfl)
       have HCL:=hQd (show C.length≤100000000000000 by
        rw[←hC,Jc,zEJ,List.length_take];have:=HL0.out.2.2
        omega)
       have HFX:=hQd (zC1 x hxr);have hji:(j:Int)<(ps.length:Int):=by omega
       clear H;have H:=hQd h;clear h hC hst hx hps hxr;go_wp2_with (go_at_call 50;(with_reducible refine(zBH po C _ x _ HC2.out HFX.out HCL.out H.out).zM ?_);clear H;intro wn H);go_roundw
       case rel=>exact⟨j+1,hlj,by go_num,H.out⟩
       case measure=>first|(simp[intOf];done)|(simp[intOf];omega)
     · obtain rfl:j=ps.length:=by omega
       have h:=H.out;rw[List.take_length,←HB3.out]at h;clear H;have H:=hQd h;clear h;go_wp2;go_roundw
       case rel=>exact⟨k+1,hlt,by go_num,H.out.p1.drop⟩
       case measure=>first|(simp[intOf];done)|(simp[intOf];omega)
  · obtain rfl:k=l.length:=by omega
    have h:=H.out;rw[show preT (l.map (·.1)) l.length=zA3 (l.map (·.1)) by rw[←zRM,Jj],HE.out]at h;clear H;have H:=hQd h;clear h;go_wp2;go_end0;exact⟨rfl,H.out⟩
theorem zQe(l:List Int)(h:zI6 l=true):∀n∈l,0≤n∧n≤2147483647:=by
 intro n hn;obtain⟨i,hi,rfl⟩:=List.mem_iff_getElem.1 hn;have hne:l≠[]:=by rintro rfl;simp at hi
 rw[zRQ l hne]at h;have h2:=zHm h i hi;unfold pk at h2;rw[Bool.and_eq_true]at h2;have h3:=of_decide_eq_true h2.1;rw[List.getD_eq_getElem?_getD,List.getElem?_eq_getElem hi]at h3;exact h3
theorem zGR(l:List (TopS×Value))(hf:FewT l)(h:zCN (l.map (·.1))=true):zC7 (l.map (·.1)):=by
 unfold zCN at h;rw[Bool.and_eq_true]at h;refine⟨by rw[Jj];exact hf.1,fun t ht=> ?_⟩;have h2:=List.all_eq_true.1 h.1 t ht;unfold tOk at h2;simp only[Bool.and_eq_true,decide_eq_true_eq]at h2;obtain⟨x,hx,rfl⟩:=List.mem_map.1 ht;have h3:=zQe _ h2.2;exact⟨h2.1.2,(hf.2 x hx).2,fun n hn=>by have:=h3 n hn;omega⟩
def ValS.R (v:ValS):Prop:=(-9223372036854775808≤v.prod∧v.prod<9223372036854775808)∧(-9223372036854775808≤v.epoch∧v.epoch<9223372036854775808)∧(-9223372036854775808≤v.timeout∧v.timeout<9223372036854775808)∧(-9223372036854775808≤v.state∧v.state<9223372036854775808)∧(-9223372036854775808≤v.upd∧v.upd<9223372036854775808)∧(-9223372036854775808≤v.started∧v.started<9223372036854775808)
theorem zN0(p e t s u st:Int)(l:List (TopS×Value))(q:Option Addr)(cap:Nat)(E:Int)(he:ValS.err ⟨p,e,t,s,l.map (·.1),u,st⟩=E)(hf:FewT l){W0 w:World}{K:Know}{L:List Res}(hk:K.has (Know.tops (V q l.length cap) l))(h:St W0 w K L):
 Calls Jb 91 #[.agg #[I O p,I O e,I O t,I O s,V q l.length cap,I O u,I O st]] w fun en w'=>en=Y (I O E)∧St W0 w' K L:=zPi ⟨p,e,t,s,l.map (·.1),u,st⟩ l q cap rfl E he hf hk h
def ValS.z:ValS:=⟨0,0,0,0,[],0,0⟩
def InS.At (s:Bs) (i:InS):Prop:=i.s=s∧i.pos≤s.length
theorem At.int{s:Bs}{i:InS}(h:i.At s)(k:Int):(i.int k).2.At s:=by
 obtain⟨rfl,h⟩:=h;unfold InS.int
 split
 ·unfold InS.fail;split
  ·exact⟨rfl,h⟩
  ·exact⟨rfl,h⟩
 ·unfold InS.take
  split
  ·exact⟨rfl,h⟩
  ·split
   ·exact⟨rfl,h⟩
   ·split
    ·exact⟨rfl,h⟩
    ·rename_i h1 h2 h3
     refine⟨rfl,?_⟩;simp only[InS.left]at h3
     show i.pos+k.toNat≤i.s.length
     omega
theorem At.fail{s:Bs}{i:InS}(h:i.At s)(e:Int):(i.fail e).At s:=by
 unfold InS.fail
 split
 ·exact⟨h.1,h.2⟩
 ·exact h
def FewL (l:List TopS):Prop:=l.length≤1000000∧∀t∈l,t.name.length≤140737488355328∧t.parts.length≤1000000
theorem zQB{lr:List (TopS×Value)}(h:FewL (lr.map (·.1))):FewT lr:=⟨by have:=h.1;rw[Jj]at this;exact this,fun x hx=>h.2 x.1 (List.mem_map_of_mem hx)⟩
def who (p e:Int):Bool:=decide (0≤p) && (decide (0≤e) && decide (e≤32767))
theorem zDR{p e:Int}(h:who p e=true):0≤p∧0≤e∧e≤32767:=by
 unfold who at h;simpa only[Bool.and_eq_true,decide_eq_true_eq]using h
theorem who_f{p e:Int}(h:who p e=false):p<0∨e<0∨32767<e:=by
 unfold who at h
 by_cases h1:p<0
 ·exact .inl h1
 ·by_cases h2:e<0
  ·exact .inr (.inl h2)
  ·by_cases h3:32767<e
   ·exact .inr (.inr h3)
   ·rw[decide_eq_true (show 0≤p by omega),decide_eq_true (show 0≤e by omega),decide_eq_true (show e≤32767 by omega)]at h
    cases h
def chkW (id:Bs) (p e:Int):Int:=if zAu id=false then 4 else if who p e=false then 11 else 0
def InS.boolP (i:InS):Bool×InS:=((i.int 1).1==1,if (i.int 1).1≠0∧(i.int 1).1≠1 then(i.int 1).2.fail 11 else(i.int 1).2)
def encO (c:Bool):Bs:=[if c then 1 else 0]
def zHu (l:List TopS):Int:=if l=[]then 10 else if zCN l=false then 13 else 0
theorem zRy(l:List TopS):ValS.err ⟨0,0,0,1,l,0,0⟩=zHu l:=by
 have h1:ValS.ranged ⟨0,0,0,1,l,0,0⟩=true:=by rfl
 unfold ValS.err zHu;rw[h1]
 cases l with
 |nil=>rfl
 |cons a t=>
  have e0:¬(true=false):=by decide
  have e1:¬((1:Int)<0∨7≤(1:Int)):=by decide
  have e2:¬((idle 1 !=false)=true∨(((1:Int)==0) !=((0:Int)== -1))=true):=by decide
  exact(if_neg e0).trans ((if_neg e1).trans ((if_neg e2).trans (if_neg (List.cons_ne_nil a t)).symm))
theorem zKS(s:Bs)(hs:s.length≤140737488355328){W0 w:World}{K:Know}{L:List Res}(h:St W0 w K L):
 Calls Jb 88 #[Z (bb s)] w fun en w'=>en=Y (U (zAu s))∧St W0 w' K L:=by
 have H:=hQd h;clear h
 cases s with
 |nil=>
  go_enter Tryz.func88,Tryz.ntmps88;go_wp2;go_ret;exact⟨rfl,H.out⟩
 |cons c t=>
  have HS:=hQd hs;clear hs;go_enter Tryz.func88,Tryz.ntmps88;go_wp2;go_ret;refine⟨zAo ?_,H.out⟩;unfold zAu;rw[Bool.eq_iff_iff]
  simp
  omega
theorem zBn(s:Bs)(r:Bool)(hs:s.length≤140737488355328)(hr:zAu s=r){W0 w:World}{K:Know}{L:List Res}(h:St W0 w K L):
 Calls Jb 88 #[Z (bb s)] w fun en w'=>en=Y (U r)∧St W0 w' K L:=hr ▸ zKS s hs h
theorem zDg(s:Bs):zAu s=true↔1≤s.length∧s.length≤32767:=by
 unfold zAu
 cases s<;>simp
def idOk (nl:Bool) (d:Bs):Bool:=if nl then d.isEmpty else zAu d
def was (v p e:Int):Bool:=(p== -1 && e== -1)||(v==1 && who p e)
def begE (v:Int) (nl:Bool) (d:Bs) (tm p e:Int):Int:=if idOk nl d=false then 4 else if tm<0∨2147483647<tm then 11 else if was v p e=false then 11 else 0
def addE (d:Bs) (p e:Int) (l:List TopS):Int:=if chkW d p e≠0 then chkW d p e else zHu l
theorem zH8{d:Bs}(h:zAu d=true):(1:Int)≤d.length∧(d.length:Int)≤32767:=by
 obtain⟨h1,h2⟩:=(zDg d).1 h
 omega
structure MarkS where
 prod:Int
 epoch:Int
 commit:Bool
 tops:List TopS
 coord:Int
deriving DecidableEq
structure MarkR where
 m:MarkS
 l:List (TopS×Value)
 q:Option Addr
 cap:Nat
def zJQ (cs:List Value) (x:MarkR):Prop:=cs=[I O x.m.prod,I O x.m.epoch,U x.m.commit,V x.q x.l.length x.cap,I O x.m.coord]
def MarkS.R (m:MarkS):Prop:=(-9223372036854775808≤m.prod∧m.prod<9223372036854775808)∧(-9223372036854775808≤m.epoch∧m.epoch<9223372036854775808)∧(-9223372036854775808≤m.coord∧m.coord<9223372036854775808)
def Know.marks (v:Value) (l:List MarkR):Know:=(Know.flat zJQ v 5 l).and (Know.all l fun x=>Know.tops (V x.q x.l.length x.cap) x.l)
theorem zFe{K:Know}{v:Value}{l:List MarkR}(h:K.has (Know.marks v l)):K.has (Know.flat zJQ v 5 l):=fun w F x=>(h w F x).1
theorem zBm{K:Know}{v:Value}{l:List MarkR}(h:K.has (Know.marks v l)){x:MarkR}(hx:x∈l):K.has (Know.tops (V x.q x.l.length x.cap) x.l):=fun w F y=>(h w F y).2 x hx
theorem zH6{v:Value}{l:List MarkR}(hk:K.has (Know.marks v l))(h:St W0 w K L):∃q cap,v=V q l.length cap:=by
 obtain⟨F,hF,_⟩:=h.get;obtain⟨q,cap,hv,_⟩:=(zFe hk _ _ hF).at;exact⟨q,cap,hv⟩
theorem zCR{q:Option Addr}{n cap:Nat}{l:List MarkR}(hk:K.has (Know.marks (V q n cap) l))(h:St W0 w K L)(h0:0<l.length):∃b off,q=some ⟨b,off,none⟩:=by
 obtain⟨F,hF,_⟩:=h.get;obtain⟨q2,cap2,hv,hr⟩:=(zFe hk _ _ hF).at;obtain⟨b,off,hq,_⟩:=hr h0;simp at hv;exact⟨b,off,hv.1.trans hq⟩
theorem zBK{b off n cap:Nat}{l:List MarkR}(hk:K.has (Know.marks (V (some ⟨b,off,none⟩) n cap) l))(h:St W0 w K L)(i:Nat)(hi:i<l.length)(x:MarkR)(hx:l[i]=x):
 w.cell? ⟨b,off+i*5,none⟩=some (I O x.m.prod)∧w.cell? ⟨b,off+i*5+1,none⟩=some (I O x.m.epoch)∧w.cell? ⟨b,off+i*5+2,none⟩=some (U x.m.commit)∧w.cell? ⟨b,off+i*5+3,none⟩=some (V x.q x.l.length x.cap)∧w.cell? ⟨b,off+i*5+4,none⟩=some (I O x.m.coord):=by
 subst hx;obtain⟨F,hF,_⟩:=h.get;obtain⟨q2,cap2,hv,hr⟩:=(zFe hk _ _ hF).at;obtain⟨b2,off2,hq,hc⟩:=hr oM;rw[hq]at hv;simp at hv;obtain⟨⟨rfl,rfl⟩,_,_⟩:=hv;obtain⟨cs,_,hR,hcs⟩:=hc i hi;unfold zJQ at hR;subst hR;refine⟨?_,?_,?_,?_,?_⟩
 ·exact hcs 0 _ rfl
 ·rw[Jm];exact hcs 1 _ rfl
 ·rw[Jm];exact hcs 2 _ rfl
 ·rw[Jm];exact hcs 3 _ rfl
 ·rw[Jm];exact hcs 4 _ rfl
def mErr (v:Int) (p e:Int) (l:List TopS) (co:Int):Int:=
 if who p e=false then 11 else if co<0∨2147483647<co then 11 else if v=0∧co≠0 then 11 else zHu l
def MarkS.err (v:Int) (m:MarkS):Int:=mErr v m.prod m.epoch m.tops m.coord
def msE (v:Int):List MarkS→Int
 |[]=>0
 |m::t=>if m.err v≠0 then m.err v else msE v t
def zAE (v:Int) (l:List MarkS):Int:=if l=[]then 10 else msE v l
def MarkR.Fit (x:MarkR):Prop:=x.l.map (·.1)=x.m.tops∧FewT x.l∧x.m.R
theorem zI8(v:Int)(m:MarkS)(t:List MarkS):msE v (m::t)=if m.err v≠0 then m.err v else msE v t:=rfl
theorem zR0(v:Int)(l:List MarkS)(k:Nat)(hk:k<l.length)(h:l[k].err v=0):msE v (l.drop k)=msE v (l.drop (k+1)):=by
 rw[List.drop_eq_getElem_cons hk,zI8,if_neg (by rw[h];decide)]
theorem zS8(v:Int)(l:List MarkS)(k:Nat)(hk:k<l.length)(h:l[k].err v≠0):msE v (l.drop k)=l[k].err v:=by
 rw[List.drop_eq_getElem_cons hk,zI8,if_pos h]
theorem zCs{v:Int}{nl:Bool}{d:Bs}{tm p e:Int}(h:begE v nl d tm p e=0):idOk nl d=true∧(0≤tm∧tm≤2147483647)∧was v p e=true:=by
 unfold begE at h
 by_cases h1:idOk nl d=false
 ·rw[if_pos h1]at h;cases h
 ·rw[if_neg h1]at h
  by_cases h2:tm<0∨2147483647<tm
  ·rw[if_pos h2]at h;cases h
  ·rw[if_neg h2]at h
   by_cases h3:was v p e=false
   ·rw[if_pos h3]at h;cases h
   ·exact⟨by simpa using h1,oM,by simpa using h3⟩
theorem zEt{nl:Bool}{d:Bs}(h:idOk nl d=true):d.length≤32767∧(⟨nl,d⟩:BlobS).right=true∧fits (⟨nl,d⟩:BlobS).len 2:=by
 unfold idOk at h
 cases nl with
 |true=>
  have h2:d=[]:=by simpa using h
  subst h2;exact⟨dD,rfl,zC2 _ dD⟩
 |false=>
  obtain⟨h1,h2⟩:=(zDg d).1 h;exact⟨h2,rfl,zC2 _ (by show -32768≤(d.length:Int)∧(d.length:Int)<32768;omega)⟩
theorem zDS{v p e:Int}(h:was v p e=true): -1≤p∧ -1≤e∧e≤32767:=by
 unfold was at h;rw[Bool.or_eq_true,Bool.and_eq_true,Bool.and_eq_true,beq_iff_eq,beq_iff_eq]at h
 rcases h with ⟨h1,h2⟩|⟨_,h2⟩
 ·omega
 ·have:=zDR h2;omega
theorem zFr{d:Bs}{p e:Int}{l:List TopS}(h:addE d p e l=0):chkW d p e=0∧zHu l=0:=by
 unfold addE at h
 by_cases h1:chkW d p e≠0
 ·rw[if_pos h1]at h;exact absurd h h1
 ·rw[if_neg h1]at h;exact⟨by simpa using h1,h⟩
theorem zNo{l:List TopS}(h:zHu l=0):zCN l=true:=by
 unfold zHu at h
 by_cases h1:l=[]
 ·rw[if_pos h1]at h;cases h
 ·rw[if_neg h1]at h
  by_cases h2:zCN l=false
  ·rw[if_pos h2]at h;cases h
  ·simpa using h2
def topW (t:TopS):Nat:=t.name.length+4*t.parts.length+6
def zBC (l:List TopS):Nat:=(l.map topW).sum
theorem zN2(l:List TopS)(k:Nat)(hk:k<l.length)(t:TopS)(ht:l[k]=t):zBC (l.take (k+1))=zBC (l.take k)+topW t:=by
 unfold zBC;rw[Jf hk,List.map_append,List.sum_append,ht]
 simp
theorem zRl(l:List TopS)(k:Nat):zBC (l.take k)≤zBC l:=by
 have h:zBC l=zBC (l.take k)+zBC (l.drop k):=by
  unfold zBC;rw[←List.sum_append,←List.map_append,List.take_append_drop]
 omega
theorem zPm(l:List TopS):6*l.length≤zBC l:=by
 unfold zBC
 induction l with
 |nil=>simp
 |cons x t ih=>rw[List.map_cons,List.sum_cons,Jn];unfold topW at ih ⊢;omega
theorem zPl(l:List TopS)(t:TopS)(h:t∈l):topW t≤zBC l:=by
 unfold zBC
 induction l with
 |nil=>cases h
 |cons x m ih=>
  rw[List.map_cons,List.sum_cons]
  rcases List.mem_cons.1 h with rfl|h
  ·omega
  ·have:=ih h;omega
def few (l:List TopS):Int:=if zBC l≤1000 then 1 else 0
theorem zFj{l:List TopS}(h:few l=1):zBC l≤1000:=by
 unfold few at h
 by_cases hh:zBC l≤1000
 ·exact hh
 ·rw[if_neg hh]at h;cases h
theorem zQA{l:List (TopS×Value)}(h:zBC (l.map (·.1))≤1000):FewT l:=by
 have h1:=zPm (l.map (·.1));rw[Jj]at h1;refine⟨oM,fun x hx=> ?_⟩;have h2:=zPl (l.map (·.1)) x.1 (List.mem_map_of_mem hx);unfold topW at h2;exact⟨oM,oM⟩
def encM (v:Int) (m:MarkS):Bs:=(((zAa m.prod (8:Int).toNat++zAa m.epoch (2:Int).toNat)++encO m.commit)++zA3 m.tops)++(if v=1 then zAa m.coord (4:Int).toNat else[])
def preM (v:Int) (l:List MarkS) (k:Nat):Bs:=zAa (l.length:Int) (4:Int).toNat++(l.take k).flatMap (encM v)
def zEz (v:Int) (l:List MarkS):Bs:=zAa (l.length:Int) (4:Int).toNat++l.flatMap (encM v)
theorem zP8(v:Int)(l:List MarkS):preM v l 0=zAa (l.length:Int) (4:Int).toNat:=by unfold preM;rw[List.take_zero,List.flatMap_nil,Jp]
theorem zNu(v:Int)(l:List MarkS):preM v l l.length=zEz v l:=by unfold preM zEz;rw[List.take_length]
theorem zP9(v:Int)(l:List MarkS)(k:Nat)(hk:k<l.length)(m:MarkS)(hm:l[k]=m):preM v l (k+1)=preM v l k++encM v m:=by
 unfold preM;rw[Jf hk,List.flatMap_append,hm,Jg,List.flatMap_nil,Jp,Je]
theorem zMv(v:Int)(l:List MarkS)(k:Nat)(hk:k≤l.length)(hl:l.length≤20)(h:∀m∈l,(encM v m).length≤2000):(preM v l k).length≤40004:=by
 unfold preM;rw[Jc,zAb]
 have:∀(m:List MarkS),(∀t∈m,(encM v t).length≤2000)→(m.flatMap (encM v)).length≤2000*m.length:=by
  intro m
  induction m with
  |nil=>intro _;simp
  |cons x t ih=>
   intro hm;have h1:=ih (fun y hy=>hm y (by simp[hy]));have h2:=hm x sM;rw[Jg,Jc,Jn]
   omega
 have h1:=this (l.take k) (fun t ht=>h t (List.mem_of_mem_take ht));rw[List.length_take]at h1;have e:min k l.length=k:=by omega
 rw[e]at h1
 show 4+_≤_
 omega
def fewG:List MarkS→Int
 |[]=>1
 |m::t=>if few m.tops=0 then 0 else fewG t
def zHC (l:List MarkS):Int:=if 20<l.length then 0 else fewG l
theorem zEx(m:MarkS)(t:List MarkS):fewG (m::t)=if few m.tops=0 then 0 else fewG t:=rfl
theorem zQD(l:List MarkS)(k:Nat)(hk:k<l.length)(h:few l[k].tops=1):fewG (l.drop k)=fewG (l.drop (k+1)):=by
 rw[List.drop_eq_getElem_cons hk,zEx,if_neg (by rw[h];decide)]
theorem zSc(l:List MarkS)(k:Nat)(hk:k<l.length)(h:few l[k].tops=0):fewG (l.drop k)=0:=by
 rw[List.drop_eq_getElem_cons hk,zEx,if_pos h]
theorem zSb{l:List MarkS}(h:fewG l=1):∀m∈l,zBC m.tops≤1000:=by
 induction l with
 |nil=>intro m hm;cases hm
 |cons x t ih=>
  rw[zEx]at h
  by_cases hx:few x.tops=0
  ·rw[if_pos hx]at h;cases h
  ·rw[if_neg hx]at h;intro m hm
   rcases List.mem_cons.1 hm with rfl|hm
   ·apply zFj
    unfold few at hx ⊢
    by_cases hh:zBC m.tops≤1000
    ·rw[if_pos hh]
    ·rw[if_neg hh]at hx;exact absurd rfl hx
   ·exact ih h m hm
theorem zQz(l:List TopS):few l=0∨few l=1:=by
 unfold few
 by_cases h:zBC l≤1000
 ·exact .inr (if_pos h)
 ·exact .inl (if_neg h)
theorem zJe{v p e:Int}{l:List TopS}{co:Int}(h:mErr v p e l co=0):who p e=true∧(0≤co∧co≤2147483647)∧¬(v=0∧co≠0)∧zHu l=0:=by
 unfold mErr at h
 by_cases h1:who p e=false
 ·rw[if_pos h1]at h;cases h
 ·rw[if_neg h1]at h
  by_cases h2:co<0∨2147483647<co
  ·rw[if_pos h2]at h;cases h
  ·rw[if_neg h2]at h
   by_cases h3:v=0∧co≠0
   ·rw[if_pos h3]at h;cases h
   ·rw[if_neg h3]at h;exact⟨by simpa using h1,oM,h3,h⟩
theorem msE_ok{v:Int}{l:List MarkS}(h:msE v l=0):∀m∈l,m.err v=0:=by
 induction l with
 |nil=>intro m hm;cases hm
 |cons x t ih=>
  rw[zI8]at h
  by_cases hx:x.err v≠0
  ·rw[if_pos hx]at h;exact absurd h hx
  ·rw[if_neg hx]at h;intro m hm
   rcases List.mem_cons.1 hm with rfl|hm
   ·simpa using hx
   ·exact ih h m hm
theorem zCS{v:Int}{l:List MarkS}(h:zAE v l=0):¬l=[]∧∀m∈l,m.err v=0:=by
 unfold zAE at h
 by_cases h1:l=[]
 ·rw[if_pos h1]at h;cases h
 ·rw[if_neg h1]at h;exact⟨h1,msE_ok h⟩
def zEb (k:Nat) (ok:Int→Bool) (e:Int) (s:Bs):Int×Int:=
 if s.length<2 then(0,1)else if sInt (s.take 2)≠0 then(0,7)else if s.length<2+k then(0,1)
 else if ok (sInt ((s.drop 2).take k))=false then(0,e)else if 2+k<s.length then(0,2)else(sInt ((s.drop 2).take k),0)
def verA (s:Bs):Int×InS:=(⟨s,0,0⟩:InS).int 2
def verI (s:Bs):InS:=if (verA s).1=0 then(verA s).2 else(verA s).2.fail 7
def verJ (k:Nat) (ok:Int→Bool) (e:Int) (s:Bs):InS:=if ok ((verI s).int k).1=true then((verI s).int k).2 else((verI s).int k).2.fail e
def verD (k:Nat) (ok:Int→Bool) (e:Int) (s:Bs):Int×Int:=if (verJ k ok e s).close.err=0 then(((verI s).int k).1,0)else(0,(verJ k ok e s).close.err)
theorem zLi{i:InS}(h:i.err≠0):i.close=i:=by
 unfold InS.close
 split
 ·exact if_neg h
 ·rfl
theorem zFL{k:Nat}{ok:Int→Bool}{e x:Int}{s:Bs}(hx:x≠0)(h:(verJ k ok e s).err=x):verD k ok e s=(0,x):=by
 subst h;unfold verD;rw[zLi hx,if_neg hx]
theorem zHK{k:Nat}{ok:Int→Bool}{e x:Int}{s:Bs}(h1:1≤k)(h8:k≤8)(hx:x≠0)(h:(verI s).err=x):(verJ k ok e s).err=x:=by
 subst h;have h2:(verI s).int k=(0,verI s):=(zAW k h1 h8).stuck (verI s) hx;unfold verJ;rw[h2]
 split
 ·rfl
 ·rw[show(verI s).fail e=verI s from if_neg hx]
theorem zPe(k:Nat)(ok:Int→Bool)(e:Int)(h1:1≤k)(h8:k≤8)(he:e≠0)(s:Bs):verD k ok e s=zEb k ok e s:=by
 have hi:=zAW 2 dD dD;have hk:=zAW k h1 h8;unfold zEb
 by_cases c1:s.length<2
 ·rw[if_pos c1];obtain⟨_,q,_,h3⟩:=hi.err s 0 1 (Jd _) (by simp[zAJ,c1]);have h4:verA s=(0,⟨s,q,1⟩):=h3;refine zFL dD (zHK h1 h8 dD ?_);unfold verI;rw[h4]
  rfl
 rw[if_neg c1];obtain⟨_,h3⟩:=hi.ok s 0 (sInt (s.take 2)) 2 (Jd _) (by simp[zAJ,c1]);have h4:verA s=(sInt (s.take 2),⟨s,2,0⟩):=h3
 by_cases c2:sInt (s.take 2)≠0
 ·rw[if_pos c2];refine zFL dD (zHK h1 h8 dD ?_);unfold verI;rw[h4,if_neg c2]
  rfl
 rw[if_neg c2];have hI:verI s=⟨s,2,0⟩:=by unfold verI;rw[h4,if_pos (by simpa using c2)]
 by_cases c3:s.length<2+k
 ·rw[if_pos c3];obtain⟨_,q,_,h7⟩:=hk.err s 2 1 oM (by unfold zAJ;rw[if_pos (by rw[Jh];omega)]);have h7:(verI s).int k=(0,⟨s,q,1⟩):=by rw[hI];exact h7
  refine zFL dD ?_;unfold verJ;rw[h7]
  split
  ·rfl
  ·rfl
 rw[if_neg c3];obtain⟨_,h7⟩:=hk.ok s 2 (sInt ((s.drop 2).take k)) k oM (by unfold zAJ;rw[if_neg (by rw[Jh];omega)]);have h7:(verI s).int k=(sInt ((s.drop 2).take k),⟨s,2+k,0⟩):=by rw[hI];exact h7
 by_cases c4:ok (sInt ((s.drop 2).take k))=false
 ·rw[if_pos c4];refine zFL he ?_;unfold verJ;rw[h7];rw[if_neg (by rw[c4];decide)]
  rfl
 rw[if_neg c4];have hJ:verJ k ok e s=⟨s,2+k,0⟩:=by unfold verJ;rw[h7,if_pos (by simpa using c4)]
 by_cases c5:2+k<s.length
 ·have hc:(⟨s,2+k,0⟩:InS).close=⟨s,2+k,2⟩:=by
   unfold InS.close;rw[if_pos (show 0<(⟨s,2+k,0⟩:InS).left by simp only[InS.left];omega)]
   rfl
  unfold verD;rw[if_pos c5,hJ,hc,if_neg (by simp only;decide)]
 ·have hc:(⟨s,2+k,0⟩:InS).close=⟨s,2+k,0⟩:=by
   unfold InS.close;rw[if_neg (show ¬0<(⟨s,2+k,0⟩:InS).left by simp only[InS.left];omega)]
  unfold verD;rw[if_neg c5,hJ,hc,if_pos rfl,h7]
def way (n:Int):Bool:=n==0||n==1
def zDV (n:Int):Bool:=decide (0≤n)
end Go.Proofs.YteldcbljedeeiaaGreatDoor
