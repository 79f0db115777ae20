/- A text. -/
import Derived.Test.YteldcbljedeeiaaGreatDoorGWholeStrictCard15
import Derived.Test.YteldcbljedeeiaaGreatDoorGWholeStrictCard2
import Derived.Deep.DeepCutAuto
import Derived.Test.YteldcbljedeeiaaGreatDoorGWholeStrictCard8
import Derived.Deep.RegionHeld3
import Derived.IntWalk
import Derived.Test.YteldcbljedeeiaaGreatDoorGWholeStrictCard5
import Derived.Test.YteldcbljedeeiaaGreatDoorGWholeStrictCard10
import Derived.RegionTactic
import Derived.WalkMore
import Derived.Test.YteldcbljedeeiaaGreatDoorGWholeStrictCard6
import Derived.Test.YteldcbljedeeiaaGreatDoorGWholeStrictCard13
/- A text. -/
namespace Go.Proofs.YteldcbljedeeiaaGreatDoor
open Go.RowKit
set_option maxRecDepth 100000
set_option maxHeartbeats 8000000

theorem results_cell_only {P:Program}{fn:Func}{p:Tmp}{ty:TypeId}(h:fn.results= #[.cell p ty]) (tmps:Array Value) (w:World) (b:Nat) (cs:List Value) (dd:TypeDesc)
    (hp:tmps.getD p undef=.pointer (some ⟨b,0,none⟩)) (hc:w.rangeAt b 0 cs) (hu:P.underlying ty=some dd) (hd:dd.isRow=true) (hi:(P.info? ty).map (·.size)=some cs.length):
    (results fn tmps).run P w=.ok (.agg cs.toArray) w:=by
  have hp':tmps[p]?.getD undef=.pointer (some ⟨b,0,none⟩):=by simpa using hp
  simp[results,h,hp',asAddr,run_loadVar_mid w b 0 ty cs dd hc hu hd hi]
theorem s_intQ (p:Nat) (i j:InS) (n q:Int) (hx:i.int n=(q,j)){W0 w:World}{K:Know}{L:List Res}(h:St W0 w K (.inp p i::L)):
  Calls Tryz.prog 66 #[inPtr p,.int .i64 n] w fun en w'=>en=.returned (.int .i64 q)∧St W0 w' K (.inp p j::L):=by
 have:=s_int p i n h;rw[hx]at this;exact this
theorem s_failQ (p:Nat) (i j:InS) (e:Int) (hx:i.fail e=j){W0 w:World}{K:Know}{L:List Res}(h:St W0 w K (.inp p i::L)):
  Calls Tryz.prog 70 #[inPtr p,.int .i64 e] w fun en w'=>en=.returned (.tuple #[])∧St W0 w' K (.inp p j::L):=by
 have:=s_fail p i e h;rw[hx]at this;exact this
theorem s_errQ (p:Nat) (i:InS) (e:Int) (hx:i.err=e){W0 w:World}{K:Know}{L:List Res}(h:St W0 w K (.inp p i::L)):
  Calls Tryz.prog 22 #[inPtr p] w fun en w'=>en=.returned (.int .i64 e)∧St W0 w' K (.inp p i::L):=by
 have:=s_err p i h;rw[hx]at this;exact this
theorem blob_fixed2 (p:Nat) (i j:InS) (u:Bool) (d:Bs) (hx:i.fixed 2=(⟨u,d⟩,j)){W0 w:World}{K:Know}{L:List Res}(h:St W0 w K (.inp p i::L)):
  Calls Tryz.prog 117 #[inPtr p,.int .i64 2] w fun en w'=>en=.returned (.agg #[.bool u,.string (bb d)])∧St W0 w' K (.inp p j::L):=by
 have:=blob_fixed p i 2 h;rw[hx]at this;exact this

theorem zq14 {p:Prop}(h:p:=by have hz:St W0 _ K (.raw rb #[.int .i64 0,.int .i64 0,.int .i64 0,.bool false,.string ⟨#[]⟩] 25::_):=(((((H.out.rawSet 0 _).rawSet 1 _).rawSet 2 _).rawSet 3 _).rawSet 4 _);refine bodyPost_ret (results_cell_only rfl _ _ rb [.int .i64 0,.int .i64 0,.int .i64 0,.bool false,.string ⟨#[]⟩] _ rfl (St.range hz) Tryz.underlying25 rfl (by kernel_rfl)) rfl ?_;exact⟨rfl,hz.drop.drop⟩):p:=h
theorem zq15 {p:Prop}(h:p:=by have hz:St W0 _ K (.raw rb #[.int .i64 a,.int .i64 v,.int .i64 n,.bool u,.string (bb d)] 25::_):=(((((H.out.rawSet 0 _).rawSet 1 _).rawSet 2 _).rawSet 3 _).rawSet 4 _);refine bodyPost_ret (results_cell_only rfl _ _ rb [.int .i64 a,.int .i64 v,.int .i64 n,.bool u,.string (bb d)] _ rfl (St.range hz) Tryz.underlying25 rfl (by kernel_rfl)) rfl ?_;exact⟨rfl,hz.drop.drop⟩):p:=h
set_option maxHeartbeats 1000000 in
set_option maxRecDepth 100000 in
theorem req_read (p:Nat) (i0 i1 i2 i3 i4 i5:InS) (a v n:Int) (u:Bool) (d:Bs) (e er:Int) (h0:i0.int 2=(a,i1)) (h1:i1.int 2=(v,i2)) (hv:verErr a v=e) (h2:(if e=0 then i2 else i2.fail e)=i3) (h3:i3.int 4=(n,i4)) (h4:i4.fixed 2=(⟨u,d⟩,i5)) (h5:i5.err=er)
    (y:HeadS) (hy:(if er=0 then(⟨a,v,n,⟨u,d⟩⟩:HeadS)else HeadS.z)=y){W0 w:World}{K:Know}{L:List Res}(hk:K.has Know.reqs) (h:St W0 w K (.inp p i0::L)):
    Calls Tryz.prog 68 #[inPtr p] w fun en w'=>en=.returned (.agg #[.int .i64 y.kind,.int .i64 y.ver,.int .i64 y.num,.bool y.cli.null,.string (bb y.cli.data)])∧St W0 w' K (.inp p i5::L):=by
  have g1:=h.allocRaw #[.int .i64 0,.int .i64 0,.int .i64 0,.bool false,.string ⟨#[]⟩] 25;have g2:=g1.allocRaw #[.int .i64 0,.int .i64 0,.int .i64 0,.bool false,.string ⟨#[]⟩] 25;obtain⟨rb,hrb⟩:∃b,w.heap.size=b:=⟨_,rfl⟩;obtain⟨hb,hhb⟩:∃b,rb+1=b:=⟨_,rfl⟩;simp only[World.size_alloc,hrb,hhb]at g2;have E0:=Lib.hid h0;have E1:=Lib.hid h1;have EV:=Lib.hid hv;have E2:=Lib.hid h2;have E3:=Lib.hid h3;have E4:=Lib.hid h4;have E5:=Lib.hid h5;have HY:=Lib.hid hy;have HK:=Lib.hid hk;have H:=Lib.hid g2;have t1:True:=trivial;clear g1 g2 h h0 h1 hv h2 h3 h4 h5 hy hk
  by_cases he:e=0
  · subst he;obtain rfl:i2=i3:=by have:=E2.out;rw[if_pos rfl]at this;exact this
    clear E2
    by_cases her:er=0
    · subst her;obtain rfl:=HY.out;clear HY;go_enter Tryz.func68,Tryz.ntmps68
      go_wp2_with (first
        |(go_at_call 66;have _t:=t1;clear _t;(with_reducible refine(s_intQ p i0 i1 2 a E0.out (show St W0 _ K (.inp p i0::.raw hb #[.int .i64 0,.int .i64 0,.int .i64 0,.bool false,.string ⟨#[]⟩] 25::.raw rb #[.int .i64 0,.int .i64 0,.int .i64 0,.bool false,.string ⟨#[]⟩] 25::L)from H.out.p2)).mono ?_);rintro e_ wn ⟨rfl,h⟩;have h:St W0 _ K (.raw hb #[.int .i64 0,.int .i64 0,.int .i64 0,.bool false,.string ⟨#[]⟩] 25::.raw rb #[.int .i64 0,.int .i64 0,.int .i64 0,.bool false,.string ⟨#[]⟩] 25::.inp p i1::L):=h.p2.p2;replace H:=Lib.hid h;clear h;obtain⟨x0,x1,x2,x3,x4,y0,y1,y2,y3,y4⟩:=raw5 (b:=hb) (H.out);have t2:True:=trivial;clear t1)
        |(go_at_call 66;have _t:=t2;clear _t;(with_reducible refine(s_intQ p i1 i2 2 v E1.out (show St W0 _ K (.inp p i1::.raw hb #[.int .i64 a,.int .i64 0,.int .i64 0,.bool false,.string ⟨#[]⟩] 25::.raw rb #[.int .i64 0,.int .i64 0,.int .i64 0,.bool false,.string ⟨#[]⟩] 25::L)from(H.out.rawSet 0 (.int .i64 a)).p2)).mono ?_);rintro e_ wn ⟨rfl,h⟩;have h:St W0 _ K (.raw hb #[.int .i64 a,.int .i64 0,.int .i64 0,.bool false,.string ⟨#[]⟩] 25::.raw rb #[.int .i64 0,.int .i64 0,.int .i64 0,.bool false,.string ⟨#[]⟩] 25::.inp p i2::L):=h.p2.p2;replace H:=Lib.hid h;clear h;obtain⟨x0,x1,x2,x3,x4,y0,y1,y2,y3,y4⟩:=raw5 (b:=hb) (H.out);obtain⟨z0,z1,z2,z3,z4,_⟩:=raw5 (b:=hb) (show St W0 _ K (.raw hb #[.int .i64 a,.int .i64 v,.int .i64 0,.bool false,.string ⟨#[]⟩] 25::_)from H.out.rawSet 1 (.int .i64 v));have t3:True:=trivial;clear t2)
        |(go_at_call 116;(with_reducible refine(ver_check a v 0 EV.out HK.out (show St W0 _ K (.raw hb #[.int .i64 a,.int .i64 v,.int .i64 0,.bool false,.string ⟨#[]⟩] 25::.raw rb #[.int .i64 0,.int .i64 0,.int .i64 0,.bool false,.string ⟨#[]⟩] 25::.inp p i2::L)from H.out.rawSet 1 (.int .i64 v))).mono ?_);rintro e_ wn ⟨rfl,h⟩;replace H:=Lib.hid h;clear h)
        |(go_at_call 66;have _t:=t3;clear _t;(with_reducible refine(s_intQ p i2 i4 4 n E3.out (H.out.p2)).mono ?_);rintro e_ wn ⟨rfl,h⟩;have h:St W0 _ K (.raw hb #[.int .i64 a,.int .i64 v,.int .i64 0,.bool false,.string ⟨#[]⟩] 25::.raw rb #[.int .i64 0,.int .i64 0,.int .i64 0,.bool false,.string ⟨#[]⟩] 25::.inp p i4::L):=h.p2.p2;replace H:=Lib.hid h;clear h;obtain⟨x0,x1,x2,x3,x4,y0,y1,y2,y3,y4⟩:=raw5 (b:=hb) (H.out);clear t3)
        |(go_at_call 117;(with_reducible refine(blob_fixed2 p i4 i5 u d E4.out (show St W0 _ K (.inp p i4::.raw hb #[.int .i64 a,.int .i64 v,.int .i64 n,.bool false,.string ⟨#[]⟩] 25::.raw rb #[.int .i64 0,.int .i64 0,.int .i64 0,.bool false,.string ⟨#[]⟩] 25::L)from(H.out.rawSet 2 (.int .i64 n)).p2)).mono ?_);rintro e_ wn ⟨rfl,h⟩;have h:St W0 _ K (.raw hb #[.int .i64 a,.int .i64 v,.int .i64 n,.bool false,.string ⟨#[]⟩] 25::.raw rb #[.int .i64 0,.int .i64 0,.int .i64 0,.bool false,.string ⟨#[]⟩] 25::.inp p i5::L):=h.p2.p2;replace H:=Lib.hid h;clear h;obtain⟨x0,x1,x2,x3,x4,y0,y1,y2,y3,y4⟩:=raw5 (b:=hb) (H.out))
        |(go_at_call 22;(with_reducible refine(s_errQ p i5 0 E5.out (show St W0 _ K (.inp p i5::.raw hb #[.int .i64 a,.int .i64 v,.int .i64 n,.bool u,.string (bb d)] 25::.raw rb #[.int .i64 0,.int .i64 0,.int .i64 0,.bool false,.string ⟨#[]⟩] 25::L)from((H.out.rawSet 3 (.bool u)).rawSet 4 (.string (bb d))).p2)).mono ?_);rintro e_ wn ⟨rfl,h⟩;have h:St W0 _ K (.raw rb #[.int .i64 0,.int .i64 0,.int .i64 0,.bool false,.string ⟨#[]⟩] 25::.raw hb #[.int .i64 a,.int .i64 v,.int .i64 n,.bool u,.string (bb d)] 25::.inp p i5::L):=h.p1.p2;replace H:=Lib.hid h;clear h;obtain⟨p0,p1,p2,p3,p4,q0,q1,q2,q3,q4⟩:=raw5 (b:=rb) (H.out);obtain⟨x0,x1,x2,x3,x4,y0,y1,y2,y3,y4⟩:=raw5 (b:=hb) (H.out.p1)))
      exact zq15
    · have gr:(er==0)=false:=by rw[beq_eq_false_iff_ne];exact her
      obtain rfl:HeadS.z=y:=by have:=HY.out;rw[if_neg her]at this;exact this
      clear HY her;go_enter Tryz.func68,Tryz.ntmps68
      go_wp2_with (first
        |(go_at_call 66;have _t:=t1;clear _t;(with_reducible refine(s_intQ p i0 i1 2 a E0.out (show St W0 _ K (.inp p i0::.raw hb #[.int .i64 0,.int .i64 0,.int .i64 0,.bool false,.string ⟨#[]⟩] 25::.raw rb #[.int .i64 0,.int .i64 0,.int .i64 0,.bool false,.string ⟨#[]⟩] 25::L)from H.out.p2)).mono ?_);rintro e_ wn ⟨rfl,h⟩;have h:St W0 _ K (.raw hb #[.int .i64 0,.int .i64 0,.int .i64 0,.bool false,.string ⟨#[]⟩] 25::.raw rb #[.int .i64 0,.int .i64 0,.int .i64 0,.bool false,.string ⟨#[]⟩] 25::.inp p i1::L):=h.p2.p2;replace H:=Lib.hid h;clear h;obtain⟨x0,x1,x2,x3,x4,y0,y1,y2,y3,y4⟩:=raw5 (b:=hb) (H.out);have t2:True:=trivial;clear t1)
        |(go_at_call 66;have _t:=t2;clear _t;(with_reducible refine(s_intQ p i1 i2 2 v E1.out (show St W0 _ K (.inp p i1::.raw hb #[.int .i64 a,.int .i64 0,.int .i64 0,.bool false,.string ⟨#[]⟩] 25::.raw rb #[.int .i64 0,.int .i64 0,.int .i64 0,.bool false,.string ⟨#[]⟩] 25::L)from(H.out.rawSet 0 (.int .i64 a)).p2)).mono ?_);rintro e_ wn ⟨rfl,h⟩;have h:St W0 _ K (.raw hb #[.int .i64 a,.int .i64 0,.int .i64 0,.bool false,.string ⟨#[]⟩] 25::.raw rb #[.int .i64 0,.int .i64 0,.int .i64 0,.bool false,.string ⟨#[]⟩] 25::.inp p i2::L):=h.p2.p2;replace H:=Lib.hid h;clear h;obtain⟨x0,x1,x2,x3,x4,y0,y1,y2,y3,y4⟩:=raw5 (b:=hb) (H.out);obtain⟨z0,z1,z2,z3,z4,_⟩:=raw5 (b:=hb) (show St W0 _ K (.raw hb #[.int .i64 a,.int .i64 v,.int .i64 0,.bool false,.string ⟨#[]⟩] 25::_)from H.out.rawSet 1 (.int .i64 v));have t3:True:=trivial;clear t2)
        |(go_at_call 116;(with_reducible refine(ver_check a v 0 EV.out HK.out (show St W0 _ K (.raw hb #[.int .i64 a,.int .i64 v,.int .i64 0,.bool false,.string ⟨#[]⟩] 25::.raw rb #[.int .i64 0,.int .i64 0,.int .i64 0,.bool false,.string ⟨#[]⟩] 25::.inp p i2::L)from H.out.rawSet 1 (.int .i64 v))).mono ?_);rintro e_ wn ⟨rfl,h⟩;replace H:=Lib.hid h;clear h)
        |(go_at_call 66;have _t:=t3;clear _t;(with_reducible refine(s_intQ p i2 i4 4 n E3.out (H.out.p2)).mono ?_);rintro e_ wn ⟨rfl,h⟩;have h:St W0 _ K (.raw hb #[.int .i64 a,.int .i64 v,.int .i64 0,.bool false,.string ⟨#[]⟩] 25::.raw rb #[.int .i64 0,.int .i64 0,.int .i64 0,.bool false,.string ⟨#[]⟩] 25::.inp p i4::L):=h.p2.p2;replace H:=Lib.hid h;clear h;obtain⟨x0,x1,x2,x3,x4,y0,y1,y2,y3,y4⟩:=raw5 (b:=hb) (H.out);clear t3)
        |(go_at_call 117;(with_reducible refine(blob_fixed2 p i4 i5 u d E4.out (show St W0 _ K (.inp p i4::.raw hb #[.int .i64 a,.int .i64 v,.int .i64 n,.bool false,.string ⟨#[]⟩] 25::.raw rb #[.int .i64 0,.int .i64 0,.int .i64 0,.bool false,.string ⟨#[]⟩] 25::L)from(H.out.rawSet 2 (.int .i64 n)).p2)).mono ?_);rintro e_ wn ⟨rfl,h⟩;have h:St W0 _ K (.raw hb #[.int .i64 a,.int .i64 v,.int .i64 n,.bool false,.string ⟨#[]⟩] 25::.raw rb #[.int .i64 0,.int .i64 0,.int .i64 0,.bool false,.string ⟨#[]⟩] 25::.inp p i5::L):=h.p2.p2;replace H:=Lib.hid h;clear h;obtain⟨x0,x1,x2,x3,x4,y0,y1,y2,y3,y4⟩:=raw5 (b:=hb) (H.out))
        |(go_at_call 22;(with_reducible refine(s_errQ p i5 er E5.out (show St W0 _ K (.inp p i5::.raw hb #[.int .i64 a,.int .i64 v,.int .i64 n,.bool u,.string (bb d)] 25::.raw rb #[.int .i64 0,.int .i64 0,.int .i64 0,.bool false,.string ⟨#[]⟩] 25::L)from((H.out.rawSet 3 (.bool u)).rawSet 4 (.string (bb d))).p2)).mono ?_);rintro e_ wn ⟨rfl,h⟩;have h:St W0 _ K (.raw rb #[.int .i64 0,.int .i64 0,.int .i64 0,.bool false,.string ⟨#[]⟩] 25::.raw hb #[.int .i64 a,.int .i64 v,.int .i64 n,.bool u,.string (bb d)] 25::.inp p i5::L):=h.p1.p2;replace H:=Lib.hid h;clear h;obtain⟨p0,p1,p2,p3,p4,q0,q1,q2,q3,q4⟩:=raw5 (b:=rb) (H.out);obtain⟨x0,x1,x2,x3,x4,y0,y1,y2,y3,y4⟩:=raw5 (b:=hb) (H.out.p1)))
      exact zq14
  · have gz:(e==0)=false:=by rw[beq_eq_false_iff_ne];exact he
    replace E2:=Lib.hid (show i2.fail e=i3 by have:=E2.out;rw[if_neg he]at this;exact this);clear he
    by_cases her:er=0
    · subst her;obtain rfl:=HY.out;clear HY;go_enter Tryz.func68,Tryz.ntmps68
      go_wp2_with (first
        |(go_at_call 66;have _t:=t1;clear _t;(with_reducible refine(s_intQ p i0 i1 2 a E0.out (show St W0 _ K (.inp p i0::.raw hb #[.int .i64 0,.int .i64 0,.int .i64 0,.bool false,.string ⟨#[]⟩] 25::.raw rb #[.int .i64 0,.int .i64 0,.int .i64 0,.bool false,.string ⟨#[]⟩] 25::L)from H.out.p2)).mono ?_);rintro e_ wn ⟨rfl,h⟩;have h:St W0 _ K (.raw hb #[.int .i64 0,.int .i64 0,.int .i64 0,.bool false,.string ⟨#[]⟩] 25::.raw rb #[.int .i64 0,.int .i64 0,.int .i64 0,.bool false,.string ⟨#[]⟩] 25::.inp p i1::L):=h.p2.p2;replace H:=Lib.hid h;clear h;obtain⟨x0,x1,x2,x3,x4,y0,y1,y2,y3,y4⟩:=raw5 (b:=hb) (H.out);have t2:True:=trivial;clear t1)
        |(go_at_call 66;have _t:=t2;clear _t;(with_reducible refine(s_intQ p i1 i2 2 v E1.out (show St W0 _ K (.inp p i1::.raw hb #[.int .i64 a,.int .i64 0,.int .i64 0,.bool false,.string ⟨#[]⟩] 25::.raw rb #[.int .i64 0,.int .i64 0,.int .i64 0,.bool false,.string ⟨#[]⟩] 25::L)from(H.out.rawSet 0 (.int .i64 a)).p2)).mono ?_);rintro e_ wn ⟨rfl,h⟩;have h:St W0 _ K (.raw hb #[.int .i64 a,.int .i64 0,.int .i64 0,.bool false,.string ⟨#[]⟩] 25::.raw rb #[.int .i64 0,.int .i64 0,.int .i64 0,.bool false,.string ⟨#[]⟩] 25::.inp p i2::L):=h.p2.p2;replace H:=Lib.hid h;clear h;obtain⟨x0,x1,x2,x3,x4,y0,y1,y2,y3,y4⟩:=raw5 (b:=hb) (H.out);obtain⟨z0,z1,z2,z3,z4,_⟩:=raw5 (b:=hb) (show St W0 _ K (.raw hb #[.int .i64 a,.int .i64 v,.int .i64 0,.bool false,.string ⟨#[]⟩] 25::_)from H.out.rawSet 1 (.int .i64 v));have t3:True:=trivial;clear t2)
        |(go_at_call 116;(with_reducible refine(ver_check a v e EV.out HK.out (show St W0 _ K (.raw hb #[.int .i64 a,.int .i64 v,.int .i64 0,.bool false,.string ⟨#[]⟩] 25::.raw rb #[.int .i64 0,.int .i64 0,.int .i64 0,.bool false,.string ⟨#[]⟩] 25::.inp p i2::L)from H.out.rawSet 1 (.int .i64 v))).mono ?_);rintro e_ wn ⟨rfl,h⟩;replace H:=Lib.hid h;clear h)
        |(go_at_call 70;(with_reducible refine(s_failQ p i2 i3 e E2.out (H.out.p2)).mono ?_);rintro e_ wn ⟨rfl,h⟩;have h:St W0 _ K (.raw hb #[.int .i64 a,.int .i64 v,.int .i64 0,.bool false,.string ⟨#[]⟩] 25::.raw rb #[.int .i64 0,.int .i64 0,.int .i64 0,.bool false,.string ⟨#[]⟩] 25::.inp p i3::L):=h.p2.p2;replace H:=Lib.hid h;clear h)
        |(go_at_call 66;have _t:=t3;clear _t;(with_reducible refine(s_intQ p i3 i4 4 n E3.out (H.out.p2)).mono ?_);rintro e_ wn ⟨rfl,h⟩;have h:St W0 _ K (.raw hb #[.int .i64 a,.int .i64 v,.int .i64 0,.bool false,.string ⟨#[]⟩] 25::.raw rb #[.int .i64 0,.int .i64 0,.int .i64 0,.bool false,.string ⟨#[]⟩] 25::.inp p i4::L):=h.p2.p2;replace H:=Lib.hid h;clear h;obtain⟨x0,x1,x2,x3,x4,y0,y1,y2,y3,y4⟩:=raw5 (b:=hb) (H.out);clear t3)
        |(go_at_call 117;(with_reducible refine(blob_fixed2 p i4 i5 u d E4.out (show St W0 _ K (.inp p i4::.raw hb #[.int .i64 a,.int .i64 v,.int .i64 n,.bool false,.string ⟨#[]⟩] 25::.raw rb #[.int .i64 0,.int .i64 0,.int .i64 0,.bool false,.string ⟨#[]⟩] 25::L)from(H.out.rawSet 2 (.int .i64 n)).p2)).mono ?_);rintro e_ wn ⟨rfl,h⟩;have h:St W0 _ K (.raw hb #[.int .i64 a,.int .i64 v,.int .i64 n,.bool false,.string ⟨#[]⟩] 25::.raw rb #[.int .i64 0,.int .i64 0,.int .i64 0,.bool false,.string ⟨#[]⟩] 25::.inp p i5::L):=h.p2.p2;replace H:=Lib.hid h;clear h;obtain⟨x0,x1,x2,x3,x4,y0,y1,y2,y3,y4⟩:=raw5 (b:=hb) (H.out))
        |(go_at_call 22;(with_reducible refine(s_errQ p i5 0 E5.out (show St W0 _ K (.inp p i5::.raw hb #[.int .i64 a,.int .i64 v,.int .i64 n,.bool u,.string (bb d)] 25::.raw rb #[.int .i64 0,.int .i64 0,.int .i64 0,.bool false,.string ⟨#[]⟩] 25::L)from((H.out.rawSet 3 (.bool u)).rawSet 4 (.string (bb d))).p2)).mono ?_);rintro e_ wn ⟨rfl,h⟩;have h:St W0 _ K (.raw rb #[.int .i64 0,.int .i64 0,.int .i64 0,.bool false,.string ⟨#[]⟩] 25::.raw hb #[.int .i64 a,.int .i64 v,.int .i64 n,.bool u,.string (bb d)] 25::.inp p i5::L):=h.p1.p2;replace H:=Lib.hid h;clear h;obtain⟨p0,p1,p2,p3,p4,q0,q1,q2,q3,q4⟩:=raw5 (b:=rb) (H.out);obtain⟨x0,x1,x2,x3,x4,y0,y1,y2,y3,y4⟩:=raw5 (b:=hb) (H.out.p1)))
      exact zq15
    · have gr:(er==0)=false:=by rw[beq_eq_false_iff_ne];exact her
      obtain rfl:HeadS.z=y:=by have:=HY.out;rw[if_neg her]at this;exact this
      clear HY her;go_enter Tryz.func68,Tryz.ntmps68
      go_wp2_with (first
        |(go_at_call 66;have _t:=t1;clear _t;(with_reducible refine(s_intQ p i0 i1 2 a E0.out (show St W0 _ K (.inp p i0::.raw hb #[.int .i64 0,.int .i64 0,.int .i64 0,.bool false,.string ⟨#[]⟩] 25::.raw rb #[.int .i64 0,.int .i64 0,.int .i64 0,.bool false,.string ⟨#[]⟩] 25::L)from H.out.p2)).mono ?_);rintro e_ wn ⟨rfl,h⟩;have h:St W0 _ K (.raw hb #[.int .i64 0,.int .i64 0,.int .i64 0,.bool false,.string ⟨#[]⟩] 25::.raw rb #[.int .i64 0,.int .i64 0,.int .i64 0,.bool false,.string ⟨#[]⟩] 25::.inp p i1::L):=h.p2.p2;replace H:=Lib.hid h;clear h;obtain⟨x0,x1,x2,x3,x4,y0,y1,y2,y3,y4⟩:=raw5 (b:=hb) (H.out);have t2:True:=trivial;clear t1)
        |(go_at_call 66;have _t:=t2;clear _t;(with_reducible refine(s_intQ p i1 i2 2 v E1.out (show St W0 _ K (.inp p i1::.raw hb #[.int .i64 a,.int .i64 0,.int .i64 0,.bool false,.string ⟨#[]⟩] 25::.raw rb #[.int .i64 0,.int .i64 0,.int .i64 0,.bool false,.string ⟨#[]⟩] 25::L)from(H.out.rawSet 0 (.int .i64 a)).p2)).mono ?_);rintro e_ wn ⟨rfl,h⟩;have h:St W0 _ K (.raw hb #[.int .i64 a,.int .i64 0,.int .i64 0,.bool false,.string ⟨#[]⟩] 25::.raw rb #[.int .i64 0,.int .i64 0,.int .i64 0,.bool false,.string ⟨#[]⟩] 25::.inp p i2::L):=h.p2.p2;replace H:=Lib.hid h;clear h;obtain⟨x0,x1,x2,x3,x4,y0,y1,y2,y3,y4⟩:=raw5 (b:=hb) (H.out);obtain⟨z0,z1,z2,z3,z4,_⟩:=raw5 (b:=hb) (show St W0 _ K (.raw hb #[.int .i64 a,.int .i64 v,.int .i64 0,.bool false,.string ⟨#[]⟩] 25::_)from H.out.rawSet 1 (.int .i64 v));have t3:True:=trivial;clear t2)
        |(go_at_call 116;(with_reducible refine(ver_check a v e EV.out HK.out (show St W0 _ K (.raw hb #[.int .i64 a,.int .i64 v,.int .i64 0,.bool false,.string ⟨#[]⟩] 25::.raw rb #[.int .i64 0,.int .i64 0,.int .i64 0,.bool false,.string ⟨#[]⟩] 25::.inp p i2::L)from H.out.rawSet 1 (.int .i64 v))).mono ?_);rintro e_ wn ⟨rfl,h⟩;replace H:=Lib.hid h;clear h)
        |(go_at_call 70;(with_reducible refine(s_failQ p i2 i3 e E2.out (H.out.p2)).mono ?_);rintro e_ wn ⟨rfl,h⟩;have h:St W0 _ K (.raw hb #[.int .i64 a,.int .i64 v,.int .i64 0,.bool false,.string ⟨#[]⟩] 25::.raw rb #[.int .i64 0,.int .i64 0,.int .i64 0,.bool false,.string ⟨#[]⟩] 25::.inp p i3::L):=h.p2.p2;replace H:=Lib.hid h;clear h)
        |(go_at_call 66;have _t:=t3;clear _t;(with_reducible refine(s_intQ p i3 i4 4 n E3.out (H.out.p2)).mono ?_);rintro e_ wn ⟨rfl,h⟩;have h:St W0 _ K (.raw hb #[.int .i64 a,.int .i64 v,.int .i64 0,.bool false,.string ⟨#[]⟩] 25::.raw rb #[.int .i64 0,.int .i64 0,.int .i64 0,.bool false,.string ⟨#[]⟩] 25::.inp p i4::L):=h.p2.p2;replace H:=Lib.hid h;clear h;obtain⟨x0,x1,x2,x3,x4,y0,y1,y2,y3,y4⟩:=raw5 (b:=hb) (H.out);clear t3)
        |(go_at_call 117;(with_reducible refine(blob_fixed2 p i4 i5 u d E4.out (show St W0 _ K (.inp p i4::.raw hb #[.int .i64 a,.int .i64 v,.int .i64 n,.bool false,.string ⟨#[]⟩] 25::.raw rb #[.int .i64 0,.int .i64 0,.int .i64 0,.bool false,.string ⟨#[]⟩] 25::L)from(H.out.rawSet 2 (.int .i64 n)).p2)).mono ?_);rintro e_ wn ⟨rfl,h⟩;have h:St W0 _ K (.raw hb #[.int .i64 a,.int .i64 v,.int .i64 n,.bool false,.string ⟨#[]⟩] 25::.raw rb #[.int .i64 0,.int .i64 0,.int .i64 0,.bool false,.string ⟨#[]⟩] 25::.inp p i5::L):=h.p2.p2;replace H:=Lib.hid h;clear h;obtain⟨x0,x1,x2,x3,x4,y0,y1,y2,y3,y4⟩:=raw5 (b:=hb) (H.out))
        |(go_at_call 22;(with_reducible refine(s_errQ p i5 er E5.out (show St W0 _ K (.inp p i5::.raw hb #[.int .i64 a,.int .i64 v,.int .i64 n,.bool u,.string (bb d)] 25::.raw rb #[.int .i64 0,.int .i64 0,.int .i64 0,.bool false,.string ⟨#[]⟩] 25::L)from((H.out.rawSet 3 (.bool u)).rawSet 4 (.string (bb d))).p2)).mono ?_);rintro e_ wn ⟨rfl,h⟩;have h:St W0 _ K (.raw rb #[.int .i64 0,.int .i64 0,.int .i64 0,.bool false,.string ⟨#[]⟩] 25::.raw hb #[.int .i64 a,.int .i64 v,.int .i64 n,.bool u,.string (bb d)] 25::.inp p i5::L):=h.p1.p2;replace H:=Lib.hid h;clear h;obtain⟨p0,p1,p2,p3,p4,q0,q1,q2,q3,q4⟩:=raw5 (b:=rb) (H.out);obtain⟨x0,x1,x2,x3,x4,y0,y1,y2,y3,y4⟩:=raw5 (b:=hb) (H.out.p1)))
      exact zq14
theorem req_readH (p:Nat) (i j:InS) (y:HeadS) (hx:i.head=(y,j)){W0 w:World}{K:Know}{L:List Res}(hk:K.has Know.reqs) (h:St W0 w K (.inp p i::L)):
  Calls Tryz.prog 68 #[inPtr p] w fun en w'=>en=.returned (.agg #[.int .i64 y.kind,.int .i64 y.ver,.int .i64 y.num,.bool y.cli.null,.string (bb y.cli.data)])∧St W0 w' K (.inp p j::L):=by
 have e2:(headF i).2=j:=congrArg Prod.snd hx;have e1:(if j.err=0 then(⟨(headA i).1,(headB i).1,(headD i).1,⟨(headF i).1.null,(headF i).1.data⟩⟩:HeadS)else HeadS.z)=y:=by rw[←e2];exact congrArg Prod.fst hx
 exact req_read p i (headA i).2 (headB i).2 (headC i) (headD i).2 j (headA i).1 (headB i).1 (headD i).1 (headF i).1.null (headF i).1.data (headE i) j.err rfl rfl rfl rfl rfl (by rw[←e2];rfl) rfl y e1 hk h
theorem req_writeV (p:Nat) (h0:HeadS) (o2:OutS) (vd:ByteArray) (hv:vd=bb h0.cli.data) (hx:(⟨[],0⟩:OutS).head h0=o2) (hR:h0.R){W0 w:World}{K:Know}{L:List Res}(hk:K.has Know.reqs) (h:St W0 w K (.out p ⟨[],0⟩::L)):
   Calls Tryz.prog 47 #[outPtr p,.agg #[.int .i64 h0.kind,.int .i64 h0.ver,.int .i64 h0.num,.bool h0.cli.null,.string vd]] w fun en w'=>en=.returned (.tuple #[])∧St W0 w' K (.out p o2::L):=by
 subst hv;obtain⟨a,v,n,⟨u,d⟩⟩:=h0;obtain⟨ra,rv,rn⟩:=hR
 by_cases he:headErr ⟨a,v,n,⟨u,d⟩⟩=0
 · obtain⟨g0,g1,g2,g3,g4⟩:=head_put _ he;simp only at g1 g2 g3 g4 ra rv rn;rw[g0]at hx;subst hx;obtain⟨s1,s2⟩:=verErr_small _ _ g1
   have hb:fits (⟨u,d⟩:BlobS).len 2:=by
    have h2:half 2=32768:=by decide
    unfold BlobS.len;refine⟨by decide,by decide,?_,?_⟩<;>simp[h2]<;>split<;>omega
   have e1:(⟨[],0⟩:OutS).int a 2=⟨beBytes a 2,0⟩:=by unfold OutS.int;rw[if_pos (fits2_small _ s1)];rfl
   have e2:(⟨beBytes a 2,0⟩:OutS).int v 2=⟨beBytes a 2++beBytes v 2,0⟩:=by unfold OutS.int;rw[if_pos (fits2_small _ ⟨s2.1,by omega⟩)];rfl
   have e3:(⟨beBytes a 2++beBytes v 2,0⟩:OutS).int n 4=⟨beBytes a 2++beBytes v 2++beBytes n 4,0⟩:=by unfold OutS.int;rw[if_pos g2];rfl
   have e4:(⟨beBytes a 2++beBytes v 2++beBytes n 4,0⟩:OutS).putFixed ⟨u,d⟩ 2=⟨encHead ⟨a,v,n,⟨u,d⟩⟩,0⟩:=by
    unfold OutS.putFixed OutS.int OutS.putData;rw[if_pos hb,g3];simp[OutS.put,encHead,encF,List.append_assoc]
   exact req_write_ok p _ _ _ _ _ a v n u d he e1 e2 e3 e4 ra rv rn (by simp[OutS.ok]) (by simp[OutS.ok]) (by simp[OutS.ok]) (by simp[OutS.ok];omega) hk h
 · have hx2:(⟨[],0⟩:OutS).fail (headErr ⟨a,v,n,⟨u,d⟩⟩)=o2:=by rw[←hx,head_bad _ he];rfl
   exact req_write_bad p _ o2 a v n u d _ rfl he hx2 rn hk h
theorem req_write5 (p:Nat) (a v n:Int) (u:Bool) (d:Bs) (o2:OutS) (hx:(⟨[],0⟩:OutS).head ⟨a,v,n,⟨u,d⟩⟩=o2) (hR:HeadS.R ⟨a,v,n,⟨u,d⟩⟩){W0 w:World}{K:Know}{L:List Res}(hk:K.has Know.reqs) (h:St W0 w K (.out p ⟨[],0⟩::L)):
 Calls Tryz.prog 47 #[outPtr p,.agg #[.int .i64 a,.int .i64 v,.int .i64 n,.bool u,.string (bb d)]] w fun en w'=>en=.returned (.tuple #[])∧St W0 w' K (.out p o2::L):=req_writeV p ⟨a,v,n,⟨u,d⟩⟩ o2 _ rfl hx hR hk h

theorem req_readQ (p:Nat) (i j:InS) (a v n:Int) (u:Bool) (d:Bs) (hx:i.head=(⟨a,v,n,⟨u,d⟩⟩,j)){W0 w:World}{K:Know}{L:List Res}(hk:K.has Know.reqs) (h:St W0 w K (.inp p i::L)):
 Calls Tryz.prog 68 #[inPtr p] w fun en w'=>en=.returned (.agg #[.int .i64 a,.int .i64 v,.int .i64 n,.bool u,.string (bb d)])∧St W0 w' K (.inp p j::L):=req_readH p i j ⟨a,v,n,⟨u,d⟩⟩ hx hk h
theorem so_putF (p:Nat) (e e2 s:Bs) (he:e++s=e2) (hs:s.length≤100000) (hl:e.length≤100000){W0 w:World}{K:Know}{L:List Res}(h:St W0 w K (.out p ⟨e,0⟩::L)):
  Calls Tryz.prog 51 #[outPtr p,.string (bb s)] w fun en w'=>en=.returned (.tuple #[])∧St W0 w' K (.out p ⟨e2,0⟩::L):=by
 have h2:=so_put p ⟨e,0⟩ s h zq30;have e3:(⟨e,0⟩:OutS).put s=⟨e2,0⟩:=by unfold OutS.put;rw[if_pos rfl,←he]
 rw[e3]at h2;exact h2
theorem headR {k v num:Int}{b:BlobS}(hh:headErr ⟨k,v,num,b⟩=0):HeadS.R ⟨k,v,num,b⟩:=by
 obtain⟨_,h1,h2,_,_⟩:=head_put _ hh;obtain⟨h3,h4⟩:=verErr_small k v h1;obtain⟨_,_,h5,h6⟩:fits num 4:=h2;have h5: -(128*256 ^ 3:Int)≤num:=h5;have h6:num<(128*256 ^ 3:Int):=h6;refine⟨by simp only;omega,by simp only;omega,?_⟩;simp only
 omega
set_option maxHeartbeats 4000000 in
set_option maxRecDepth 100000 in
theorem fr_encode (k v num:Int) (u:Bool) (cs:Bs) (y5 y6 y7 y8 y9 y10 y11 y12 y13 y14 y15 y16 y17 y18 y19 y20 y21 y22 y23:Value) (t s:Bs) (hh:headErr ⟨k,v,num,⟨u,cs⟩⟩=0) (hs:beBytes (t.length:Int) (4:Int).toNat++t=s) (ht:t.length≤2000){W0 w:World}{K:Know}{L:List Res}(hk:K.has Know.reqs) (hw:∀(po:Nat) (w:World) (L:List Res),St W0 w K (.out po ⟨encHead ⟨k,v,num,⟨u,cs⟩⟩,0⟩::L)→Calls Tryz.prog 48 #[outPtr po,.agg #[.int .i64 k,.int .i64 v,.int .i64 num,.bool u,.string (bb cs),y5,y6,y7,y8,y9,y10,y11,y12,y13,y14,y15,y16,y17,y18,y19,y20,y21,y22,y23]] w fun en w'=>en=.returned (.tuple #[])∧St W0 w' K (.out po ⟨t,0⟩::L)) (h:St W0 w K L):
  Calls Tryz.prog 12 #[.agg #[.int .i64 k,.int .i64 v,.int .i64 num,.bool u,.string (bb cs),y5,y6,y7,y8,y9,y10,y11,y12,y13,y14,y15,y16,y17,y18,y19,y20,y21,y22,y23]] w fun en w'=>en=.returned (.tuple #[.string (bb s),.int .i64 0])∧St W0 w' K L:=by
 obtain⟨rb,hrb⟩:∃b,w.heap.size=b:=⟨_,rfl⟩;obtain⟨ob,hob⟩:∃b,rb+1=b:=⟨_,rfl⟩;have g1:=(h.allocRaw #[.int .i64 k,.int .i64 v,.int .i64 num,.bool u,.string (bb cs),y5,y6,y7,y8,y9,y10,y11,y12,y13,y14,y15,y16,y17,y18,y19,y20,y21,y22,y23] 38).allocOut;simp only[World.size_alloc,hrb,hob]at g1;have z0:=g1.p1.rawCell 0;have z1:=g1.p1.rawCell 1;have z2:=g1.p1.rawCell 2;have z3:=g1.p1.rawCell 3;have z4:=g1.p1.rawCell 4;simp at z0 z1 z2 z3 z4;have hlt:(t.length:Int)≤2000:=by omega
 obtain⟨e1,he1⟩:∃x,([]:Bs)++beBytes (t.length:Int) (4:Int).toNat=x:=⟨_,rfl⟩;have he1l:e1.length=4:=by rw[←he1,List.nil_append,beBytes_length];rfl
 have H:=Lib.hid g1;have HK:=Lib.hid hk;have HW:=Lib.hid hw;have HP:=Lib.hid (head_put _ hh).1;have HR:=Lib.hid (headR hh);have HE1:=Lib.hid he1;have HF4:=Lib.hid (pfits4 (t.length:Int) (by omega));have HR8:=Lib.hid (show -9223372036854775808≤(t.length:Int)∧(t.length:Int)<9223372036854775808 by omega);have HE2:=Lib.hid (show e1++t=s by rw[←he1,List.nil_append];exact hs);have HT:=Lib.hid (show t.length≤100000 by omega);have HL1:=Lib.hid (show e1.length≤100000 by omega);clear h g1 hk hw hh hs ht he1 he1l;go_enter Tryz.func12,Tryz.ntmps12
 go_wp2_with (first
  |(refine wpList_load_mid rfl 38 (Operand.tmp 1) rfl rb 0 rfl [.int .i64 k,.int .i64 v,.int .i64 num,.bool u,.string (bb cs),y5,y6,y7,y8,y9,y10,y11,y12,y13,y14,y15,y16,y17,y18,y19,y20,y21,y22,y23] _ (St.range H.out.p1) Tryz.underlying38 rfl (by kernel_rfl) ?_)
  |(go_at_call 47;clear z0 z1 z2 z3 z4;(with_reducible refine(req_write5 ob k v num u cs _ HP.out HR.out HK.out H.out).mono ?_);rintro e_ wn ⟨rfl,h⟩;replace H:=Lib.hid h;clear h)
  |(go_at_call 48;(with_reducible refine(HW.out ob _ _ H.out).mono ?_);rintro e_ wn ⟨rfl,h⟩;replace H:=Lib.hid h;clear h)
  |(go_at_call 49;(with_reducible refine(pso_text ob t H.out).mono ?_);rintro e_ wn ⟨rfl,h⟩;obtain⟨qb,hqb⟩:∃b,wn.heap.size=b:=⟨_,rfl⟩;have h:=h.allocOut;rw[hqb]at h;replace H:=Lib.hid h;clear h)
  |(go_at_call 50;(with_reducible refine(pso_int _ [] e1 (t.length:Int) 4 HE1.out HF4.out HR8.out (Nat.zero_le _) H.out).mono ?_);rintro e_ wn ⟨rfl,h⟩;replace H:=Lib.hid h;clear h)
  |(go_at_call 51;(with_reducible refine(so_putF _ e1 s t HE2.out HT.out HL1.out H.out).mono ?_);rintro e_ wn ⟨rfl,h⟩;replace H:=Lib.hid h;clear h)
  |(go_at_call 49;(with_reducible refine(pso_text _ s H.out).mono ?_);rintro e_ wn ⟨rfl,h⟩;replace H:=Lib.hid h;clear h))
 go_ret2;exact⟨rfl,H.out.drop.drop.drop⟩
theorem one24z:(#[.int .i64 0,.int .i64 0,.int .i64 0,.bool false,.string ⟨#[]⟩,.bool false,.string ⟨#[]⟩,.int .i64 0,.int .i64 0,.int .i64 0,.string ⟨#[]⟩,.int .i64 0,.int .i64 0,.slice none 0 0,.string ⟨#[]⟩,.int .i64 0,.int .i64 0,.bool false,.slice none 0 0,.bool false,.string ⟨#[]⟩,.int .i64 0,.int .i64 0,.slice none 0 0]:Array Value).all (fun z=>z.oneCell')=true:=by simp[Value.oneCell']
set_option maxHeartbeats 4000000 in
set_option maxRecDepth 100000 in
theorem fr_read_ok (b:Nat) (s t:Bs) (n:Int) (i1 i2 J1 J2 J3:InS) (a v num:Int) (u:Bool) (cs:Bs) (h1:(⟨s,0,0⟩:InS).int 4=(n,i1)) (h2:i1.take n=(t,i2)) (h3:(⟨t,0,0⟩:InS).head=(⟨a,v,num,⟨u,cs⟩⟩,J1)) (htl:t.length≤1000000) (hc:J2.close=J3) (P:Know→Array Value→Prop){W0 w:World}{K:Know}{L:List Res}(hb:∀(w:World) (L:List Res) (bi rf:Nat),St W0 w K (.inp bi J1::.raw rf #[.int .i64 a,.int .i64 v,.int .i64 num,.bool u,.string (bb cs),.bool false,.string ⟨#[]⟩,.int .i64 0,.int .i64 0,.int .i64 0,.string ⟨#[]⟩,.int .i64 0,.int .i64 0,.slice none 0 0,.string ⟨#[]⟩,.int .i64 0,.int .i64 0,.bool false,.slice none 0 0,.bool false,.string ⟨#[]⟩,.int .i64 0,.int .i64 0,.slice none 0 0] 38::L)→Calls Tryz.prog 69 #[inPtr bi,.pointer (some ⟨rf,0,none⟩)] w fun en w'=>en=.returned (.tuple #[])∧∃(x5 x6 x7 x8 x9 x10 x11 x12 x13 x14 x15 x16 x17 x18 x19 x20 x21 x22 x23:Value) (K2:Know),K2.has K∧(#[.int .i64 a,.int .i64 v,.int .i64 num,.bool u,.string (bb cs),x5,x6,x7,x8,x9,x10,x11,x12,x13,x14,x15,x16,x17,x18,x19,x20,x21,x22,x23]:Array Value).all (fun z=>z.oneCell')=true∧(J2.err=0→P K2 #[.int .i64 a,.int .i64 v,.int .i64 num,.bool u,.string (bb cs),x5,x6,x7,x8,x9,x10,x11,x12,x13,x14,x15,x16,x17,x18,x19,x20,x21,x22,x23])∧St W0 w' K2 (.inp bi J2::.raw rf #[.int .i64 a,.int .i64 v,.int .i64 num,.bool u,.string (bb cs),x5,x6,x7,x8,x9,x10,x11,x12,x13,x14,x15,x16,x17,x18,x19,x20,x21,x22,x23] 38::L)) (hk:K.has Know.reqs) (h:St W0 w K (.inp b ⟨s,0,0⟩::L)) (hc3:J3.err=0) (he5:i2.err=0) (hj0:J2.err=0):
  Calls Tryz.prog 20 #[inPtr b] w fun en w'=>∃(x0 x1 x2 x3 x4 x5 x6 x7 x8 x9 x10 x11 x12 x13 x14 x15 x16 x17 x18 x19 x20 x21 x22 x23:Value) (K2:Know),en=.returned (.agg #[x0,x1,x2,x3,x4,x5,x6,x7,x8,x9,x10,x11,x12,x13,x14,x15,x16,x17,x18,x19,x20,x21,x22,x23])∧K2.has K∧(#[x0,x1,x2,x3,x4,x5,x6,x7,x8,x9,x10,x11,x12,x13,x14,x15,x16,x17,x18,x19,x20,x21,x22,x23]:Array Value).all (fun z=>z.oneCell')=true∧P K2 #[x0,x1,x2,x3,x4,x5,x6,x7,x8,x9,x10,x11,x12,x13,x14,x15,x16,x17,x18,x19,x20,x21,x22,x23]∧St W0 w' K2 (.inp b i2::L):=by
 obtain⟨r2,hr2⟩:∃b,w.heap.size=b:=⟨_,rfl⟩;have g1:=(h.allocRaw #[.int .i64 0,.int .i64 0,.int .i64 0,.bool false,.string ⟨#[]⟩,.bool false,.string ⟨#[]⟩,.int .i64 0,.int .i64 0,.int .i64 0,.string ⟨#[]⟩,.int .i64 0,.int .i64 0,.slice none 0 0,.string ⟨#[]⟩,.int .i64 0,.int .i64 0,.bool false,.slice none 0 0,.bool false,.string ⟨#[]⟩,.int .i64 0,.int .i64 0,.slice none 0 0] 38).p1;rw[hr2]at g1;have H:=Lib.hid g1;have HE1:=Lib.hid h1;have HE2:=Lib.hid h2;have HE3:=Lib.hid h3;have HTL:=Lib.hid (show t.length≤140737488355328 by omega);have HC:=Lib.hid hc;have HB:=Lib.hid hb;have HK:=Lib.hid hk;have HC3:=Lib.hid hc3;have HE5:=Lib.hid he5;have HJ0:=Lib.hid hj0;clear h g1 h1 h2 h3 htl hc hb hk hc3 he5 hj0;go_enter Tryz.func20,Tryz.ntmps20
 go_upto_region 10 with (first
  |(refine wpList_storeSt rfl 38 (Operand.tmp 5) (Operand.tmp 15) rfl rf #[.int .i64 a,.int .i64 v,.int .i64 num,.bool u,.string (bb cs),.bool false,.string ⟨#[]⟩,.int .i64 0,.int .i64 0,.int .i64 0,.string ⟨#[]⟩,.int .i64 0,.int .i64 0,.slice none 0 0,.string ⟨#[]⟩,.int .i64 0,.int .i64 0,.bool false,.slice none 0 0,.bool false,.string ⟨#[]⟩,.int .i64 0,.int .i64 0,.slice none 0 0] rfl rfl (H.out) rfl (by kernel_rfl) (by simp[Value.oneCell']) ?_;intro wz h;replace H:=Lib.hid h.p1;clear h)
  |(go_at_call 66;(with_reducible refine(s_intQ b _ i1 4 n HE1.out H.out).mono ?_);rintro e_ wn ⟨rfl,h⟩;replace H:=Lib.hid h;clear h)
  |(go_at_call 67;(with_reducible refine(s_takeE b i1 i2 n t HE2.out H.out).mono ?_);rintro e_ wn ⟨rfl,h⟩;replace H:=Lib.hid h;clear h)
  |(go_at_call 19;(with_reducible refine(s_new t HTL.out H.out).mono ?_);rintro e_ wn ⟨bi,rfl,h⟩;replace H:=Lib.hid h;clear h)
  |(go_at_call 68;(with_reducible refine(req_readQ bi ⟨t,0,0⟩ J1 a v num u cs HE3.out HK.out H.out).mono ?_);rintro e_ wn ⟨rfl,h⟩;obtain⟨rf,hrf⟩:∃b,wn.heap.size=b:=⟨_,rfl⟩;have h:=h.allocRaw #[.int .i64 0,.int .i64 0,.int .i64 0,.bool false,.string ⟨#[]⟩,.bool false,.string ⟨#[]⟩,.int .i64 0,.int .i64 0,.int .i64 0,.string ⟨#[]⟩,.int .i64 0,.int .i64 0,.slice none 0 0,.string ⟨#[]⟩,.int .i64 0,.int .i64 0,.bool false,.slice none 0 0,.bool false,.string ⟨#[]⟩,.int .i64 0,.int .i64 0,.slice none 0 0] 38;rw[hrf]at h;replace H:=Lib.hid h;clear h)
  |(go_at_call 69;(with_reducible refine(HB.out _ _ bi rf H.out).mono ?_);rintro e_ wn ⟨rfl,x5,x6,x7,x8,x9,x10,x11,x12,x13,x14,x15,x16,x17,x18,x19,x20,x21,x22,x23,K2,hkk,ho,hp,h⟩;have HKK:=Lib.hid hkk;have HOO:=Lib.hid ho;have HPP:=Lib.hid hp;clear hkk ho hp;replace H:=Lib.hid h;clear h)
  |(go_at_call 25;(with_reducible refine(s_closeE bi J2 J3 0 HC.out HC3.out H.out).mono ?_);rintro e_ wn ⟨rfl,h⟩;replace H:=Lib.hid h;clear h)
  |(go_at_call 22;(with_reducible refine(s_errE b i2 0 HE5.out H.out.p2).mono ?_);rintro e_ wn ⟨rfl,h⟩;replace H:=Lib.hid h.p3;clear h))
 refine wp_region_lit ?_;refine wpList_load_mid rfl 38 (Operand.tmp 5) rfl rf 0 rfl [.int .i64 a,.int .i64 v,.int .i64 num,.bool u,.string (bb cs),x5,x6,x7,x8,x9,x10,x11,x12,x13,x14,x15,x16,x17,x18,x19,x20,x21,x22,x23] _ (St.range H.out.p3) Tryz.underlying38 rfl (by kernel_rfl) ?_;refine wpList_storeSt rfl 38 (Operand.tmp 2) (Operand.tmp 29) rfl r2 #[.int .i64 a,.int .i64 v,.int .i64 num,.bool u,.string (bb cs),x5,x6,x7,x8,x9,x10,x11,x12,x13,x14,x15,x16,x17,x18,x19,x20,x21,x22,x23] rfl rfl (H.out) rfl (by kernel_rfl) (HOO.out) ?_;intro wz h;replace H:=Lib.hid h;clear h;simp only[Act.put,sA,sB,sC];go_wp2;refine bodyPost_ret (results_cell_only rfl _ _ r2 [.int .i64 a,.int .i64 v,.int .i64 num,.bool u,.string (bb cs),x5,x6,x7,x8,x9,x10,x11,x12,x13,x14,x15,x16,x17,x18,x19,x20,x21,x22,x23] _ rfl (St.range H.out) Tryz.underlying38 rfl (by kernel_rfl)) rfl ?_;exact⟨_,_,_,_,_,_,_,_,_,_,_,_,_,_,_,_,_,_,_,_,_,_,_,_,K2,rfl,HKK.out,HOO.out,HPP.out HJ0.out,H.out.drop.p1.drop.p1.drop⟩
set_option maxHeartbeats 4000000 in
set_option maxRecDepth 100000 in
theorem fr_read_err (b:Nat) (s t:Bs) (n:Int) (i1 i2 J1 J2 J3:InS) (a v num:Int) (u:Bool) (cs:Bs) (h1:(⟨s,0,0⟩:InS).int 4=(n,i1)) (h2:i1.take n=(t,i2)) (h3:(⟨t,0,0⟩:InS).head=(⟨a,v,num,⟨u,cs⟩⟩,J1)) (htl:t.length≤1000000) (hc:J2.close=J3) (P:Know→Array Value→Prop){W0 w:World}{K:Know}{L:List Res}(hb:∀(w:World) (L:List Res) (bi rf:Nat),St W0 w K (.inp bi J1::.raw rf #[.int .i64 a,.int .i64 v,.int .i64 num,.bool u,.string (bb cs),.bool false,.string ⟨#[]⟩,.int .i64 0,.int .i64 0,.int .i64 0,.string ⟨#[]⟩,.int .i64 0,.int .i64 0,.slice none 0 0,.string ⟨#[]⟩,.int .i64 0,.int .i64 0,.bool false,.slice none 0 0,.bool false,.string ⟨#[]⟩,.int .i64 0,.int .i64 0,.slice none 0 0] 38::L)→Calls Tryz.prog 69 #[inPtr bi,.pointer (some ⟨rf,0,none⟩)] w fun en w'=>en=.returned (.tuple #[])∧∃(x5 x6 x7 x8 x9 x10 x11 x12 x13 x14 x15 x16 x17 x18 x19 x20 x21 x22 x23:Value) (K2:Know),K2.has K∧(#[.int .i64 a,.int .i64 v,.int .i64 num,.bool u,.string (bb cs),x5,x6,x7,x8,x9,x10,x11,x12,x13,x14,x15,x16,x17,x18,x19,x20,x21,x22,x23]:Array Value).all (fun z=>z.oneCell')=true∧(J2.err=0→P K2 #[.int .i64 a,.int .i64 v,.int .i64 num,.bool u,.string (bb cs),x5,x6,x7,x8,x9,x10,x11,x12,x13,x14,x15,x16,x17,x18,x19,x20,x21,x22,x23])∧St W0 w' K2 (.inp bi J2::.raw rf #[.int .i64 a,.int .i64 v,.int .i64 num,.bool u,.string (bb cs),x5,x6,x7,x8,x9,x10,x11,x12,x13,x14,x15,x16,x17,x18,x19,x20,x21,x22,x23] 38::L)) (hk:K.has Know.reqs) (h:St W0 w K (.inp b ⟨s,0,0⟩::L)) (hc3:J3.err=0) (er:Int) (he5:i2.err=er) (hnr:er≠0):
  Calls Tryz.prog 20 #[inPtr b] w fun en w'=>∃K2:Know,en=.returned (.agg #[.int .i64 0,.int .i64 0,.int .i64 0,.bool false,.string ⟨#[]⟩,.bool false,.string ⟨#[]⟩,.int .i64 0,.int .i64 0,.int .i64 0,.string ⟨#[]⟩,.int .i64 0,.int .i64 0,.slice none 0 0,.string ⟨#[]⟩,.int .i64 0,.int .i64 0,.bool false,.slice none 0 0,.bool false,.string ⟨#[]⟩,.int .i64 0,.int .i64 0,.slice none 0 0])∧K2.has K∧St W0 w' K2 (.inp b i2::L):=by
 obtain⟨r2,hr2⟩:∃b,w.heap.size=b:=⟨_,rfl⟩;have g1:=(h.allocRaw #[.int .i64 0,.int .i64 0,.int .i64 0,.bool false,.string ⟨#[]⟩,.bool false,.string ⟨#[]⟩,.int .i64 0,.int .i64 0,.int .i64 0,.string ⟨#[]⟩,.int .i64 0,.int .i64 0,.slice none 0 0,.string ⟨#[]⟩,.int .i64 0,.int .i64 0,.bool false,.slice none 0 0,.bool false,.string ⟨#[]⟩,.int .i64 0,.int .i64 0,.slice none 0 0] 38).p1;rw[hr2]at g1;have H:=Lib.hid g1;have HE1:=Lib.hid h1;have HE2:=Lib.hid h2;have HE3:=Lib.hid h3;have HTL:=Lib.hid (show t.length≤140737488355328 by omega);have HC:=Lib.hid hc;have HB:=Lib.hid hb;have HK:=Lib.hid hk;have gr:(er==0)=false:=by rw[beq_eq_false_iff_ne];exact hnr
 have HC3:=Lib.hid hc3;have HE5:=Lib.hid he5;clear h g1 h1 h2 h3 htl hc hb hk hc3 he5 hnr;go_enter Tryz.func20,Tryz.ntmps20
 go_upto_region 9 with (first
  |(refine wpList_storeSt rfl 38 (Operand.tmp 5) (Operand.tmp 15) rfl rf #[.int .i64 a,.int .i64 v,.int .i64 num,.bool u,.string (bb cs),.bool false,.string ⟨#[]⟩,.int .i64 0,.int .i64 0,.int .i64 0,.string ⟨#[]⟩,.int .i64 0,.int .i64 0,.slice none 0 0,.string ⟨#[]⟩,.int .i64 0,.int .i64 0,.bool false,.slice none 0 0,.bool false,.string ⟨#[]⟩,.int .i64 0,.int .i64 0,.slice none 0 0] rfl rfl (H.out) rfl (by kernel_rfl) (by simp[Value.oneCell']) ?_;intro wz h;replace H:=Lib.hid h.p1;clear h)
  |(go_at_call 66;(with_reducible refine(s_intQ b _ i1 4 n HE1.out H.out).mono ?_);rintro e_ wn ⟨rfl,h⟩;replace H:=Lib.hid h;clear h)
  |(go_at_call 67;(with_reducible refine(s_takeE b i1 i2 n t HE2.out H.out).mono ?_);rintro e_ wn ⟨rfl,h⟩;replace H:=Lib.hid h;clear h)
  |(go_at_call 19;(with_reducible refine(s_new t HTL.out H.out).mono ?_);rintro e_ wn ⟨bi,rfl,h⟩;replace H:=Lib.hid h;clear h)
  |(go_at_call 68;(with_reducible refine(req_readQ bi ⟨t,0,0⟩ J1 a v num u cs HE3.out HK.out H.out).mono ?_);rintro e_ wn ⟨rfl,h⟩;obtain⟨rf,hrf⟩:∃b,wn.heap.size=b:=⟨_,rfl⟩;have h:=h.allocRaw #[.int .i64 0,.int .i64 0,.int .i64 0,.bool false,.string ⟨#[]⟩,.bool false,.string ⟨#[]⟩,.int .i64 0,.int .i64 0,.int .i64 0,.string ⟨#[]⟩,.int .i64 0,.int .i64 0,.slice none 0 0,.string ⟨#[]⟩,.int .i64 0,.int .i64 0,.bool false,.slice none 0 0,.bool false,.string ⟨#[]⟩,.int .i64 0,.int .i64 0,.slice none 0 0] 38;rw[hrf]at h;replace H:=Lib.hid h;clear h)
  |(go_at_call 69;(with_reducible refine(HB.out _ _ bi rf H.out).mono ?_);rintro e_ wn ⟨rfl,x5,x6,x7,x8,x9,x10,x11,x12,x13,x14,x15,x16,x17,x18,x19,x20,x21,x22,x23,K2,hkk,ho,hp,h⟩;have HKK:=Lib.hid hkk;have HOO:=Lib.hid ho;have HPP:=Lib.hid hp;clear hkk ho hp;replace H:=Lib.hid h;clear h)
  |(go_at_call 25;(with_reducible refine(s_closeE bi J2 J3 0 HC.out HC3.out H.out).mono ?_);rintro e_ wn ⟨rfl,h⟩;replace H:=Lib.hid h;clear h)
  |(go_at_call 22;(with_reducible refine(s_errE b i2 er HE5.out H.out.p2).mono ?_);rintro e_ wn ⟨rfl,h⟩;replace H:=Lib.hid h.p3;clear h))
 go_wp2_with (first
  |(refine wpList_storeSt rfl 38 (Operand.tmp 2) (Operand.tmp 28) rfl r2 #[.int .i64 0,.int .i64 0,.int .i64 0,.bool false,.string ⟨#[]⟩,.bool false,.string ⟨#[]⟩,.int .i64 0,.int .i64 0,.int .i64 0,.string ⟨#[]⟩,.int .i64 0,.int .i64 0,.slice none 0 0,.string ⟨#[]⟩,.int .i64 0,.int .i64 0,.bool false,.slice none 0 0,.bool false,.string ⟨#[]⟩,.int .i64 0,.int .i64 0,.slice none 0 0] rfl rfl (H.out) rfl (by kernel_rfl) (one24z) ?_;intro wz h;replace H:=Lib.hid h;clear h))
 refine bodyPost_ret (results_cell_only rfl _ _ r2 [.int .i64 0,.int .i64 0,.int .i64 0,.bool false,.string ⟨#[]⟩,.bool false,.string ⟨#[]⟩,.int .i64 0,.int .i64 0,.int .i64 0,.string ⟨#[]⟩,.int .i64 0,.int .i64 0,.slice none 0 0,.string ⟨#[]⟩,.int .i64 0,.int .i64 0,.bool false,.slice none 0 0,.bool false,.string ⟨#[]⟩,.int .i64 0,.int .i64 0,.slice none 0 0] _ rfl (St.range H.out) Tryz.underlying38 rfl (by kernel_rfl)) rfl ?_;exact⟨K2,rfl,HKK.out,H.out.drop.p1.drop.p1.drop⟩
set_option maxHeartbeats 4000000 in
set_option maxRecDepth 100000 in
theorem fr_read_bad (b:Nat) (s t:Bs) (n:Int) (i1 i2 J1 J2 J3:InS) (a v num:Int) (u:Bool) (cs:Bs) (h1:(⟨s,0,0⟩:InS).int 4=(n,i1)) (h2:i1.take n=(t,i2)) (h3:(⟨t,0,0⟩:InS).head=(⟨a,v,num,⟨u,cs⟩⟩,J1)) (htl:t.length≤1000000) (hc:J2.close=J3) (P:Know→Array Value→Prop){W0 w:World}{K:Know}{L:List Res}(hb:∀(w:World) (L:List Res) (bi rf:Nat),St W0 w K (.inp bi J1::.raw rf #[.int .i64 a,.int .i64 v,.int .i64 num,.bool u,.string (bb cs),.bool false,.string ⟨#[]⟩,.int .i64 0,.int .i64 0,.int .i64 0,.string ⟨#[]⟩,.int .i64 0,.int .i64 0,.slice none 0 0,.string ⟨#[]⟩,.int .i64 0,.int .i64 0,.bool false,.slice none 0 0,.bool false,.string ⟨#[]⟩,.int .i64 0,.int .i64 0,.slice none 0 0] 38::L)→Calls Tryz.prog 69 #[inPtr bi,.pointer (some ⟨rf,0,none⟩)] w fun en w'=>en=.returned (.tuple #[])∧∃(x5 x6 x7 x8 x9 x10 x11 x12 x13 x14 x15 x16 x17 x18 x19 x20 x21 x22 x23:Value) (K2:Know),K2.has K∧(#[.int .i64 a,.int .i64 v,.int .i64 num,.bool u,.string (bb cs),x5,x6,x7,x8,x9,x10,x11,x12,x13,x14,x15,x16,x17,x18,x19,x20,x21,x22,x23]:Array Value).all (fun z=>z.oneCell')=true∧(J2.err=0→P K2 #[.int .i64 a,.int .i64 v,.int .i64 num,.bool u,.string (bb cs),x5,x6,x7,x8,x9,x10,x11,x12,x13,x14,x15,x16,x17,x18,x19,x20,x21,x22,x23])∧St W0 w' K2 (.inp bi J2::.raw rf #[.int .i64 a,.int .i64 v,.int .i64 num,.bool u,.string (bb cs),x5,x6,x7,x8,x9,x10,x11,x12,x13,x14,x15,x16,x17,x18,x19,x20,x21,x22,x23] 38::L)) (hk:K.has Know.reqs) (h:St W0 w K (.inp b ⟨s,0,0⟩::L)) (e3:Int) (hc3:J3.err=e3) (hn3:e3≠0) (i3:InS) (hf:i2.fail e3=i3) (er:Int) (he5:i3.err=er) (hnr:er≠0):
  Calls Tryz.prog 20 #[inPtr b] w fun en w'=>∃K2:Know,en=.returned (.agg #[.int .i64 0,.int .i64 0,.int .i64 0,.bool false,.string ⟨#[]⟩,.bool false,.string ⟨#[]⟩,.int .i64 0,.int .i64 0,.int .i64 0,.string ⟨#[]⟩,.int .i64 0,.int .i64 0,.slice none 0 0,.string ⟨#[]⟩,.int .i64 0,.int .i64 0,.bool false,.slice none 0 0,.bool false,.string ⟨#[]⟩,.int .i64 0,.int .i64 0,.slice none 0 0])∧K2.has K∧St W0 w' K2 (.inp b i3::L):=by
 obtain⟨r2,hr2⟩:∃b,w.heap.size=b:=⟨_,rfl⟩;have g1:=(h.allocRaw #[.int .i64 0,.int .i64 0,.int .i64 0,.bool false,.string ⟨#[]⟩,.bool false,.string ⟨#[]⟩,.int .i64 0,.int .i64 0,.int .i64 0,.string ⟨#[]⟩,.int .i64 0,.int .i64 0,.slice none 0 0,.string ⟨#[]⟩,.int .i64 0,.int .i64 0,.bool false,.slice none 0 0,.bool false,.string ⟨#[]⟩,.int .i64 0,.int .i64 0,.slice none 0 0] 38).p1;rw[hr2]at g1;have H:=Lib.hid g1;have HE1:=Lib.hid h1;have HE2:=Lib.hid h2;have HE3:=Lib.hid h3;have HTL:=Lib.hid (show t.length≤140737488355328 by omega);have HC:=Lib.hid hc;have HB:=Lib.hid hb;have HK:=Lib.hid hk;have gz:(e3==0)=false:=by rw[beq_eq_false_iff_ne];exact hn3
 have gr:(er==0)=false:=by rw[beq_eq_false_iff_ne];exact hnr
 have HC3:=Lib.hid hc3;have HF:=Lib.hid hf;have HE5:=Lib.hid he5;clear h g1 h1 h2 h3 htl hc hb hk hc3 he5 hf hn3 hnr;go_enter Tryz.func20,Tryz.ntmps20
 go_upto_region 9 with (first
  |(refine wpList_storeSt rfl 38 (Operand.tmp 5) (Operand.tmp 15) rfl rf #[.int .i64 a,.int .i64 v,.int .i64 num,.bool u,.string (bb cs),.bool false,.string ⟨#[]⟩,.int .i64 0,.int .i64 0,.int .i64 0,.string ⟨#[]⟩,.int .i64 0,.int .i64 0,.slice none 0 0,.string ⟨#[]⟩,.int .i64 0,.int .i64 0,.bool false,.slice none 0 0,.bool false,.string ⟨#[]⟩,.int .i64 0,.int .i64 0,.slice none 0 0] rfl rfl (H.out) rfl (by kernel_rfl) (by simp[Value.oneCell']) ?_;intro wz h;replace H:=Lib.hid h.p1;clear h)
  |(go_at_call 66;(with_reducible refine(s_intQ b _ i1 4 n HE1.out H.out).mono ?_);rintro e_ wn ⟨rfl,h⟩;replace H:=Lib.hid h;clear h)
  |(go_at_call 67;(with_reducible refine(s_takeE b i1 i2 n t HE2.out H.out).mono ?_);rintro e_ wn ⟨rfl,h⟩;replace H:=Lib.hid h;clear h)
  |(go_at_call 19;(with_reducible refine(s_new t HTL.out H.out).mono ?_);rintro e_ wn ⟨bi,rfl,h⟩;replace H:=Lib.hid h;clear h)
  |(go_at_call 68;(with_reducible refine(req_readQ bi ⟨t,0,0⟩ J1 a v num u cs HE3.out HK.out H.out).mono ?_);rintro e_ wn ⟨rfl,h⟩;obtain⟨rf,hrf⟩:∃b,wn.heap.size=b:=⟨_,rfl⟩;have h:=h.allocRaw #[.int .i64 0,.int .i64 0,.int .i64 0,.bool false,.string ⟨#[]⟩,.bool false,.string ⟨#[]⟩,.int .i64 0,.int .i64 0,.int .i64 0,.string ⟨#[]⟩,.int .i64 0,.int .i64 0,.slice none 0 0,.string ⟨#[]⟩,.int .i64 0,.int .i64 0,.bool false,.slice none 0 0,.bool false,.string ⟨#[]⟩,.int .i64 0,.int .i64 0,.slice none 0 0] 38;rw[hrf]at h;replace H:=Lib.hid h;clear h)
  |(go_at_call 69;(with_reducible refine(HB.out _ _ bi rf H.out).mono ?_);rintro e_ wn ⟨rfl,x5,x6,x7,x8,x9,x10,x11,x12,x13,x14,x15,x16,x17,x18,x19,x20,x21,x22,x23,K2,hkk,ho,hp,h⟩;have HKK:=Lib.hid hkk;have HOO:=Lib.hid ho;have HPP:=Lib.hid hp;clear hkk ho hp;replace H:=Lib.hid h;clear h)
  |(go_at_call 25;(with_reducible refine(s_closeE bi J2 J3 e3 HC.out HC3.out H.out).mono ?_);rintro e_ wn ⟨rfl,h⟩;replace H:=Lib.hid h;clear h)
  |(go_at_call 70;(with_reducible refine(s_failE b i2 i3 e3 HF.out H.out.p2).mono ?_);rintro e_ wn ⟨rfl,h⟩;replace H:=Lib.hid h;clear h)
  |(go_at_call 22;(with_reducible refine(s_errE b i3 er HE5.out H.out).mono ?_);rintro e_ wn ⟨rfl,h⟩;replace H:=Lib.hid h.p3;clear h))
 go_wp2_with (first
  |(refine wpList_storeSt rfl 38 (Operand.tmp 2) (Operand.tmp 28) rfl r2 #[.int .i64 0,.int .i64 0,.int .i64 0,.bool false,.string ⟨#[]⟩,.bool false,.string ⟨#[]⟩,.int .i64 0,.int .i64 0,.int .i64 0,.string ⟨#[]⟩,.int .i64 0,.int .i64 0,.slice none 0 0,.string ⟨#[]⟩,.int .i64 0,.int .i64 0,.bool false,.slice none 0 0,.bool false,.string ⟨#[]⟩,.int .i64 0,.int .i64 0,.slice none 0 0] rfl rfl (H.out) rfl (by kernel_rfl) (one24z) ?_;intro wz h;replace H:=Lib.hid h;clear h))
 refine bodyPost_ret (results_cell_only rfl _ _ r2 [.int .i64 0,.int .i64 0,.int .i64 0,.bool false,.string ⟨#[]⟩,.bool false,.string ⟨#[]⟩,.int .i64 0,.int .i64 0,.int .i64 0,.string ⟨#[]⟩,.int .i64 0,.int .i64 0,.slice none 0 0,.string ⟨#[]⟩,.int .i64 0,.int .i64 0,.bool false,.slice none 0 0,.bool false,.string ⟨#[]⟩,.int .i64 0,.int .i64 0,.slice none 0 0] _ rfl (St.range H.out) Tryz.underlying38 rfl (by kernel_rfl)) rfl ?_;exact⟨K2,rfl,HKK.out,H.out.drop.p1.drop.p1.drop⟩
set_option maxHeartbeats 4000000 in
set_option maxRecDepth 100000 in
theorem fr_dec_ok (s:Bs) (hs:s.length≤1000000) (j c:InS) (hc:j.close=c) (hce:c.err=0) (P:Know→Array Value→Prop){W0 w:World}{K:Know}{L:List Res}(hr:∀(w:World) (L:List Res) (b:Nat),St W0 w K (.inp b ⟨s,0,0⟩::L)→Calls Tryz.prog 20 #[inPtr b] w fun en w'=>∃(x0 x1 x2 x3 x4 x5 x6 x7 x8 x9 x10 x11 x12 x13 x14 x15 x16 x17 x18 x19 x20 x21 x22 x23:Value) (K2:Know),en=.returned (.agg #[x0,x1,x2,x3,x4,x5,x6,x7,x8,x9,x10,x11,x12,x13,x14,x15,x16,x17,x18,x19,x20,x21,x22,x23])∧K2.has K∧(#[x0,x1,x2,x3,x4,x5,x6,x7,x8,x9,x10,x11,x12,x13,x14,x15,x16,x17,x18,x19,x20,x21,x22,x23]:Array Value).all (fun z=>z.oneCell')=true∧P K2 #[x0,x1,x2,x3,x4,x5,x6,x7,x8,x9,x10,x11,x12,x13,x14,x15,x16,x17,x18,x19,x20,x21,x22,x23]∧St W0 w' K2 (.inp b j::L)) (h:St W0 w K L):
  Calls Tryz.prog 15 #[.string (bb s)] w fun en w'=>∃(x0 x1 x2 x3 x4 x5 x6 x7 x8 x9 x10 x11 x12 x13 x14 x15 x16 x17 x18 x19 x20 x21 x22 x23:Value) (K2:Know),en=.returned (.tuple #[.agg #[x0,x1,x2,x3,x4,x5,x6,x7,x8,x9,x10,x11,x12,x13,x14,x15,x16,x17,x18,x19,x20,x21,x22,x23],.int .i64 0])∧K2.has K∧(#[x0,x1,x2,x3,x4,x5,x6,x7,x8,x9,x10,x11,x12,x13,x14,x15,x16,x17,x18,x19,x20,x21,x22,x23]:Array Value).all (fun z=>z.oneCell')=true∧P K2 #[x0,x1,x2,x3,x4,x5,x6,x7,x8,x9,x10,x11,x12,x13,x14,x15,x16,x17,x18,x19,x20,x21,x22,x23]∧St W0 w' K2 L:=by
 obtain⟨r2,hr2⟩:∃b,w.heap.size=b:=⟨_,rfl⟩;have g1:=h.allocRaw #[.int .i64 0,.int .i64 0,.int .i64 0,.bool false,.string ⟨#[]⟩,.bool false,.string ⟨#[]⟩,.int .i64 0,.int .i64 0,.int .i64 0,.string ⟨#[]⟩,.int .i64 0,.int .i64 0,.slice none 0 0,.string ⟨#[]⟩,.int .i64 0,.int .i64 0,.bool false,.slice none 0 0,.bool false,.string ⟨#[]⟩,.int .i64 0,.int .i64 0,.slice none 0 0] 38;rw[hr2]at g1;have H:=Lib.hid g1;have HSL:=Lib.hid (show s.length≤140737488355328 by omega);have HC:=Lib.hid hc;have HCE:=Lib.hid hce;have HR:=Lib.hid hr;clear h g1 hs hc hce hr;go_enter Tryz.func15,Tryz.ntmps15
 go_upto_region 6 with (first
  |(refine wpList_storeSt rfl 38 (Operand.tmp 5) (Operand.tmp 10) rfl rf #[x0,x1,x2,x3,x4,x5,x6,x7,x8,x9,x10,x11,x12,x13,x14,x15,x16,x17,x18,x19,x20,x21,x22,x23] rfl rfl (H.out) rfl (by kernel_rfl) (HOO.out) ?_;intro wz h;replace H:=Lib.hid h;clear h)
  |(go_at_call 19;(with_reducible refine(s_new s HSL.out H.out).mono ?_);rintro e_ wn ⟨b,rfl,h⟩;replace H:=Lib.hid h;clear h)
  |(go_at_call 20;(with_reducible refine(HR.out _ _ b H.out).mono ?_);rintro e_ wn ⟨x0,x1,x2,x3,x4,x5,x6,x7,x8,x9,x10,x11,x12,x13,x14,x15,x16,x17,x18,x19,x20,x21,x22,x23,K2,rfl,hkk,ho,hp,h⟩;have HKK:=Lib.hid hkk;have HOO:=Lib.hid ho;have HPP:=Lib.hid hp;clear hkk ho hp;obtain⟨rf,hrf⟩:∃b,wn.heap.size=b:=⟨_,rfl⟩;have h:=h.allocRaw #[.int .i64 0,.int .i64 0,.int .i64 0,.bool false,.string ⟨#[]⟩,.bool false,.string ⟨#[]⟩,.int .i64 0,.int .i64 0,.int .i64 0,.string ⟨#[]⟩,.int .i64 0,.int .i64 0,.slice none 0 0,.string ⟨#[]⟩,.int .i64 0,.int .i64 0,.bool false,.slice none 0 0,.bool false,.string ⟨#[]⟩,.int .i64 0,.int .i64 0,.slice none 0 0] 38;rw[hrf]at h;replace H:=Lib.hid h;clear h)
  |(go_at_call 25;(with_reducible refine(s_closeE b j c 0 HC.out HCE.out H.out.p1).mono ?_);rintro e_ wn ⟨rfl,h⟩;replace H:=Lib.hid h.p2;clear h))
 refine wp_region_lit ?_;refine wpList_load_mid rfl 38 (Operand.tmp 5) rfl rf 0 rfl [x0,x1,x2,x3,x4,x5,x6,x7,x8,x9,x10,x11,x12,x13,x14,x15,x16,x17,x18,x19,x20,x21,x22,x23] _ (St.range H.out.p2) Tryz.underlying38 rfl (by kernel_rfl) ?_;refine wpList_storeSt rfl 38 (Operand.tmp 2) (Operand.tmp 17) rfl r2 #[x0,x1,x2,x3,x4,x5,x6,x7,x8,x9,x10,x11,x12,x13,x14,x15,x16,x17,x18,x19,x20,x21,x22,x23] rfl rfl (H.out) rfl (by kernel_rfl) (HOO.out) ?_;intro wz h;replace H:=Lib.hid h;clear h;simp only[Act.put,sA,sB,sC];go_wp2;refine bodyPost_ret (results_cell_tmp rfl _ _ r2 [x0,x1,x2,x3,x4,x5,x6,x7,x8,x9,x10,x11,x12,x13,x14,x15,x16,x17,x18,x19,x20,x21,x22,x23] _ rfl (St.range H.out) Tryz.underlying38 rfl (by kernel_rfl)) rfl ?_;exact⟨_,_,_,_,_,_,_,_,_,_,_,_,_,_,_,_,_,_,_,_,_,_,_,_,K2,rfl,HKK.out,HOO.out,HPP.out,H.out.drop.drop.drop⟩
set_option maxHeartbeats 4000000 in
set_option maxRecDepth 100000 in
theorem fr_dec_bad (s:Bs) (hs:s.length≤1000000) (j c:InS) (hc:j.close=c) (e:Int) (hce:c.err=e) (hne:e≠0) (P:Know→Array Value→Prop){W0 w:World}{K:Know}{L:List Res}(hr:∀(w:World) (L:List Res) (b:Nat),St W0 w K (.inp b ⟨s,0,0⟩::L)→Calls Tryz.prog 20 #[inPtr b] w fun en w'=>∃(x0 x1 x2 x3 x4 x5 x6 x7 x8 x9 x10 x11 x12 x13 x14 x15 x16 x17 x18 x19 x20 x21 x22 x23:Value) (K2:Know),en=.returned (.agg #[x0,x1,x2,x3,x4,x5,x6,x7,x8,x9,x10,x11,x12,x13,x14,x15,x16,x17,x18,x19,x20,x21,x22,x23])∧K2.has K∧(#[x0,x1,x2,x3,x4,x5,x6,x7,x8,x9,x10,x11,x12,x13,x14,x15,x16,x17,x18,x19,x20,x21,x22,x23]:Array Value).all (fun z=>z.oneCell')=true∧P K2 #[x0,x1,x2,x3,x4,x5,x6,x7,x8,x9,x10,x11,x12,x13,x14,x15,x16,x17,x18,x19,x20,x21,x22,x23]∧St W0 w' K2 (.inp b j::L)) (h:St W0 w K L):
  Calls Tryz.prog 15 #[.string (bb s)] w fun en w'=>∃K2:Know,en=.returned (.tuple #[.agg #[.int .i64 0,.int .i64 0,.int .i64 0,.bool false,.string ⟨#[]⟩,.bool false,.string ⟨#[]⟩,.int .i64 0,.int .i64 0,.int .i64 0,.string ⟨#[]⟩,.int .i64 0,.int .i64 0,.slice none 0 0,.string ⟨#[]⟩,.int .i64 0,.int .i64 0,.bool false,.slice none 0 0,.bool false,.string ⟨#[]⟩,.int .i64 0,.int .i64 0,.slice none 0 0],.int .i64 e])∧K2.has K∧St W0 w' K2 L:=by
 obtain⟨r2,hr2⟩:∃b,w.heap.size=b:=⟨_,rfl⟩;have g1:=h.allocRaw #[.int .i64 0,.int .i64 0,.int .i64 0,.bool false,.string ⟨#[]⟩,.bool false,.string ⟨#[]⟩,.int .i64 0,.int .i64 0,.int .i64 0,.string ⟨#[]⟩,.int .i64 0,.int .i64 0,.slice none 0 0,.string ⟨#[]⟩,.int .i64 0,.int .i64 0,.bool false,.slice none 0 0,.bool false,.string ⟨#[]⟩,.int .i64 0,.int .i64 0,.slice none 0 0] 38;rw[hr2]at g1;have H:=Lib.hid g1;have HSL:=Lib.hid (show s.length≤140737488355328 by omega);have HC:=Lib.hid hc;have HCE:=Lib.hid hce;have HR:=Lib.hid hr;have gz:(e==0)=false:=by rw[beq_eq_false_iff_ne];exact hne
 clear h g1 hs hc hce hr hne;go_enter Tryz.func15,Tryz.ntmps15
 go_upto_region 5 with (first
  |(refine wpList_storeSt rfl 38 (Operand.tmp 5) (Operand.tmp 10) rfl rf #[x0,x1,x2,x3,x4,x5,x6,x7,x8,x9,x10,x11,x12,x13,x14,x15,x16,x17,x18,x19,x20,x21,x22,x23] rfl rfl (H.out) rfl (by kernel_rfl) (HOO.out) ?_;intro wz h;replace H:=Lib.hid h;clear h)
  |(go_at_call 19;(with_reducible refine(s_new s HSL.out H.out).mono ?_);rintro e_ wn ⟨b,rfl,h⟩;replace H:=Lib.hid h;clear h)
  |(go_at_call 20;(with_reducible refine(HR.out _ _ b H.out).mono ?_);rintro e_ wn ⟨x0,x1,x2,x3,x4,x5,x6,x7,x8,x9,x10,x11,x12,x13,x14,x15,x16,x17,x18,x19,x20,x21,x22,x23,K2,rfl,hkk,ho,hp,h⟩;have HKK:=Lib.hid hkk;have HOO:=Lib.hid ho;have HPP:=Lib.hid hp;clear hkk ho hp;obtain⟨rf,hrf⟩:∃b,wn.heap.size=b:=⟨_,rfl⟩;have h:=h.allocRaw #[.int .i64 0,.int .i64 0,.int .i64 0,.bool false,.string ⟨#[]⟩,.bool false,.string ⟨#[]⟩,.int .i64 0,.int .i64 0,.int .i64 0,.string ⟨#[]⟩,.int .i64 0,.int .i64 0,.slice none 0 0,.string ⟨#[]⟩,.int .i64 0,.int .i64 0,.bool false,.slice none 0 0,.bool false,.string ⟨#[]⟩,.int .i64 0,.int .i64 0,.slice none 0 0] 38;rw[hrf]at h;replace H:=Lib.hid h;clear h)
  |(go_at_call 25;(with_reducible refine(s_closeE b j c e HC.out HCE.out H.out.p1).mono ?_);rintro e_ wn ⟨rfl,h⟩;replace H:=Lib.hid h.p2;clear h))
 go_wp2_with (first
  |(refine wpList_storeSt rfl 38 (Operand.tmp 2) (Operand.tmp 15) rfl r2 #[.int .i64 0,.int .i64 0,.int .i64 0,.bool false,.string ⟨#[]⟩,.bool false,.string ⟨#[]⟩,.int .i64 0,.int .i64 0,.int .i64 0,.string ⟨#[]⟩,.int .i64 0,.int .i64 0,.slice none 0 0,.string ⟨#[]⟩,.int .i64 0,.int .i64 0,.bool false,.slice none 0 0,.bool false,.string ⟨#[]⟩,.int .i64 0,.int .i64 0,.slice none 0 0] rfl rfl (H.out) rfl (by kernel_rfl) (one24z) ?_;intro wz h;replace H:=Lib.hid h;clear h))
 refine bodyPost_ret (results_cell_tmp rfl _ _ r2 [.int .i64 0,.int .i64 0,.int .i64 0,.bool false,.string ⟨#[]⟩,.bool false,.string ⟨#[]⟩,.int .i64 0,.int .i64 0,.int .i64 0,.string ⟨#[]⟩,.int .i64 0,.int .i64 0,.slice none 0 0,.string ⟨#[]⟩,.int .i64 0,.int .i64 0,.bool false,.slice none 0 0,.bool false,.string ⟨#[]⟩,.int .i64 0,.int .i64 0,.slice none 0 0] _ rfl (St.range H.out) Tryz.underlying38 rfl (by kernel_rfl)) rfl ?_;exact⟨K2,rfl,HKK.out,H.out.drop.drop.drop⟩
theorem hd_le {a b t:Bs}(h:a++b=t){n:Nat}(ht:t.length≤n):a.length≤n:=by
 have:=congrArg List.length h;rw[List.length_append]at this
 omega
theorem fe_beg0 (num:Int) (u:Bool) (cs:Bs) (nl:Bool) (d:Bs) (tm p e:Int) (t:Bs) (hh:headErr ⟨22,0,num,⟨u,cs⟩⟩=0) (hE:begE 0 nl d tm p e=0) (hp:p<9223372036854775808) (ht:t.length≤1600) (hb:encHead ⟨22,0,num,⟨u,cs⟩⟩++(encF 2 ⟨nl,d⟩++beBytes tm 4)=t){W0 w:World}{K:Know}{L:List Res}(hr:K.has Know.reqs) (h:St W0 w K L):
  Calls Tryz.prog 12 #[.agg #[.int .i64 22,.int .i64 0,.int .i64 num,.bool u,.string (bb cs),.bool nl,.string (bb d),.int .i64 tm,.int .i64 p,.int .i64 e,.string ⟨#[]⟩,.int .i64 0,.int .i64 0,.slice none 0 0,.string ⟨#[]⟩,.int .i64 0,.int .i64 0,.bool false,.slice none 0 0,.bool false,.string ⟨#[]⟩,.int .i64 0,.int .i64 0,.slice none 0 0]] w fun en w'=>en=.returned (.tuple #[.string (bb (beBytes (t.length:Int) (4:Int).toNat++t)),.int .i64 0])∧St W0 w' K L:=
 fr_encode 22 0 num u cs (.bool nl) (.string (bb d)) (.int .i64 tm) (.int .i64 p) (.int .i64 e) (.string ⟨#[]⟩) (.int .i64 0) (.int .i64 0) (.slice none 0 0) (.string ⟨#[]⟩) (.int .i64 0) (.int .i64 0) (.bool false) (.slice none 0 0) (.bool false) (.string ⟨#[]⟩) (.int .i64 0) (.int .i64 0) (.slice none 0 0) t _ hh rfl (by omega) hr (fun po w L h=>wb_beg po _ t 0 num u cs nl d tm p e (fun w L h=>beg_write_ok0 po _ _ t nl d tm p e rfl (by rw[List.append_assoc];exact hb) hE hp (Nat.le_trans (hd_le hb ht) (by decide)) h) h) h
theorem fe_beg1 (num:Int) (u:Bool) (cs:Bs) (nl:Bool) (d:Bs) (tm p e:Int) (t:Bs) (hh:headErr ⟨22,1,num,⟨u,cs⟩⟩=0) (hE:begE 1 nl d tm p e=0) (hp:p<9223372036854775808) (ht:t.length≤1600) (hb:encHead ⟨22,1,num,⟨u,cs⟩⟩++(encF 2 ⟨nl,d⟩++beBytes tm 4++beBytes p 8++beBytes e 2)=t){W0 w:World}{K:Know}{L:List Res}(hr:K.has Know.reqs) (h:St W0 w K L):
  Calls Tryz.prog 12 #[.agg #[.int .i64 22,.int .i64 1,.int .i64 num,.bool u,.string (bb cs),.bool nl,.string (bb d),.int .i64 tm,.int .i64 p,.int .i64 e,.string ⟨#[]⟩,.int .i64 0,.int .i64 0,.slice none 0 0,.string ⟨#[]⟩,.int .i64 0,.int .i64 0,.bool false,.slice none 0 0,.bool false,.string ⟨#[]⟩,.int .i64 0,.int .i64 0,.slice none 0 0]] w fun en w'=>en=.returned (.tuple #[.string (bb (beBytes (t.length:Int) (4:Int).toNat++t)),.int .i64 0])∧St W0 w' K L:=
 fr_encode 22 1 num u cs (.bool nl) (.string (bb d)) (.int .i64 tm) (.int .i64 p) (.int .i64 e) (.string ⟨#[]⟩) (.int .i64 0) (.int .i64 0) (.slice none 0 0) (.string ⟨#[]⟩) (.int .i64 0) (.int .i64 0) (.bool false) (.slice none 0 0) (.bool false) (.string ⟨#[]⟩) (.int .i64 0) (.int .i64 0) (.slice none 0 0) t _ hh rfl (by omega) hr (fun po w L h=>wb_beg po _ t 1 num u cs nl d tm p e (fun w L h=>beg_write_ok1 po _ _ _ _ t nl d tm p e rfl rfl rfl (by rw[←hb];simp only[List.append_assoc];rfl) hE hp (Nat.le_trans (hd_le hb ht) (by decide)) h) h) h
theorem fe_add (num:Int) (u:Bool) (cs:Bs) (d:Bs) (p e:Int) (q:Option Addr) (cap:Nat) (l:List (TopS×Value)) (t:Bs) (hh:headErr ⟨24,0,num,⟨u,cs⟩⟩=0) (hE:addE d p e (l.map (·.1))=0) (hp:p<9223372036854775808) (hf:FewL (l.map (·.1))) (ht:t.length≤1600) (hb:encHead ⟨24,0,num,⟨u,cs⟩⟩++(encF 2 ⟨false,d⟩++beBytes p 8++beBytes e 2++encTs (l.map (·.1)))=t){W0 w:World}{K:Know}{L:List Res}(hr:K.has Know.reqs) (hk:K.has (Know.tops (.slice q l.length cap) l)) (h:St W0 w K L):
  Calls Tryz.prog 12 #[.agg #[.int .i64 24,.int .i64 0,.int .i64 num,.bool u,.string (bb cs),.bool false,.string ⟨#[]⟩,.int .i64 0,.int .i64 0,.int .i64 0,.string (bb d),.int .i64 p,.int .i64 e,.slice q l.length cap,.string ⟨#[]⟩,.int .i64 0,.int .i64 0,.bool false,.slice none 0 0,.bool false,.string ⟨#[]⟩,.int .i64 0,.int .i64 0,.slice none 0 0]] w fun en w'=>en=.returned (.tuple #[.string (bb (beBytes (t.length:Int) (4:Int).toNat++t)),.int .i64 0])∧St W0 w' K L:=
 fr_encode 24 0 num u cs (.bool false) (.string ⟨#[]⟩) (.int .i64 0) (.int .i64 0) (.int .i64 0) (.string (bb d)) (.int .i64 p) (.int .i64 e) (.slice q l.length cap) (.string ⟨#[]⟩) (.int .i64 0) (.int .i64 0) (.bool false) (.slice none 0 0) (.bool false) (.string ⟨#[]⟩) (.int .i64 0) (.int .i64 0) (.slice none 0 0) t _ hh rfl (by omega) hr (fun po w L h=>wb_add po _ t num u cs d p e q l.length cap (fun w L h=>add_write_ok po _ _ _ _ t d p e l q cap rfl rfl rfl (by rw[←hb];simp only[List.append_assoc];rfl) hE hp (Nat.le_trans (hd_le hb ht) (by decide)) (fewT_of hf) (fitL_riseF _ hf (riseE_ok (addE_ok hE).2)) hk h) h) h
theorem fe_end (num:Int) (u:Bool) (cs:Bs) (d:Bs) (p e:Int) (c:Bool) (t:Bs) (hh:headErr ⟨26,0,num,⟨u,cs⟩⟩=0) (hE:chkW d p e=0) (hp:p<9223372036854775808) (ht:t.length≤1600) (hb:encHead ⟨26,0,num,⟨u,cs⟩⟩++(encF 2 ⟨false,d⟩++beBytes p 8++beBytes e 2++encO c)=t){W0 w:World}{K:Know}{L:List Res}(hr:K.has Know.reqs) (h:St W0 w K L):
  Calls Tryz.prog 12 #[.agg #[.int .i64 26,.int .i64 0,.int .i64 num,.bool u,.string (bb cs),.bool false,.string ⟨#[]⟩,.int .i64 0,.int .i64 0,.int .i64 0,.string ⟨#[]⟩,.int .i64 0,.int .i64 0,.slice none 0 0,.string (bb d),.int .i64 p,.int .i64 e,.bool c,.slice none 0 0,.bool false,.string ⟨#[]⟩,.int .i64 0,.int .i64 0,.slice none 0 0]] w fun en w'=>en=.returned (.tuple #[.string (bb (beBytes (t.length:Int) (4:Int).toNat++t)),.int .i64 0])∧St W0 w' K L:=
 fr_encode 26 0 num u cs (.bool false) (.string ⟨#[]⟩) (.int .i64 0) (.int .i64 0) (.int .i64 0) (.string ⟨#[]⟩) (.int .i64 0) (.int .i64 0) (.slice none 0 0) (.string (bb d)) (.int .i64 p) (.int .i64 e) (.bool c) (.slice none 0 0) (.bool false) (.string ⟨#[]⟩) (.int .i64 0) (.int .i64 0) (.slice none 0 0) t _ hh rfl (by omega) hr (fun po w L h=>wb_end po _ t num u cs d p e c (fun w L h=>end_write_ok po _ _ _ _ t d p e c rfl rfl rfl (by rw[←hb];simp only[List.append_assoc];rfl) hE (by have:=(keyRight_t (chkW_ok hE).1).2;omega) hp (Nat.le_trans (hd_le hb ht) (by decide)) h) h) h
theorem fe_mrk (v:Int) (num:Int) (u:Bool) (cs:Bs) (q:Option Addr) (cap:Nat) (l:List MarkR) (t:Bs) (hh:headErr ⟨27,v,num,⟨u,cs⟩⟩=0) (hE:marksErr v (l.map MarkR.m)=0) (hf:∀x∈l,x.Fit) (hfit:∀x∈l,FitTs x.m.tops∧(encM v x.m).length≤2000) (hn:l.length≤200) (ht:t.length≤1600) (hb:encHead ⟨27,v,num,⟨u,cs⟩⟩++(encMs v (l.map MarkR.m))=t){W0 w:World}{K:Know}{L:List Res}(hr:K.has Know.reqs) (hk:K.has (Know.marks (.slice q l.length cap) l)) (h:St W0 w K L):
  Calls Tryz.prog 12 #[.agg #[.int .i64 27,.int .i64 v,.int .i64 num,.bool u,.string (bb cs),.bool false,.string ⟨#[]⟩,.int .i64 0,.int .i64 0,.int .i64 0,.string ⟨#[]⟩,.int .i64 0,.int .i64 0,.slice none 0 0,.string ⟨#[]⟩,.int .i64 0,.int .i64 0,.bool false,.slice q l.length cap,.bool false,.string ⟨#[]⟩,.int .i64 0,.int .i64 0,.slice none 0 0]] w fun en w'=>en=.returned (.tuple #[.string (bb (beBytes (t.length:Int) (4:Int).toNat++t)),.int .i64 0])∧St W0 w' K L:=
 fr_encode 27 v num u cs (.bool false) (.string ⟨#[]⟩) (.int .i64 0) (.int .i64 0) (.int .i64 0) (.string ⟨#[]⟩) (.int .i64 0) (.int .i64 0) (.slice none 0 0) (.string ⟨#[]⟩) (.int .i64 0) (.int .i64 0) (.bool false) (.slice q l.length cap) (.bool false) (.string ⟨#[]⟩) (.int .i64 0) (.int .i64 0) (.slice none 0 0) t _ hh rfl (by omega) hr (fun po w L h=>wb_mrk po _ t v num u cs q l.length cap (fun w L h=>mark_write_okL po _ t v l q cap hb hE hf hfit hn (Nat.le_trans (hd_le hb ht) (by decide)) hk h) h) h
theorem fe_prd (v:Int) (num:Int) (u:Bool) (cs:Bs) (nl:Bool) (d:Bs) (ac tm:Int) (q:Option Addr) (cap:Nat) (l:List PTop) (t:Bs) (hh:headErr ⟨0,v,num,⟨u,cs⟩⟩=0) (hE:errReq ⟨nl,d⟩ ac tm v l=0) (hf:∀x∈l,CkT x) (hll:l.length≤1000000) (hd:d.length≤1600) (hrt:(⟨nl,d⟩:BlobS).right=true) (hac: -32768≤ac∧ac<32768) (htm:0≤tm∧tm<2147483648) (hpt:∀x∈l,PutTM x) (ht:t.length≤1600) (hb:encHead ⟨0,v,num,⟨u,cs⟩⟩++(encPReq nl d ac tm l)=t){W0 w:World}{K:Know}{L:List Res}(hr:K.has Know.reqs) (hk:K.has (Know.ptops (.slice q l.length cap) l)) (h:St W0 w K L):
  Calls Tryz.prog 12 #[.agg #[.int .i64 0,.int .i64 v,.int .i64 num,.bool u,.string (bb cs),.bool false,.string ⟨#[]⟩,.int .i64 0,.int .i64 0,.int .i64 0,.string ⟨#[]⟩,.int .i64 0,.int .i64 0,.slice none 0 0,.string ⟨#[]⟩,.int .i64 0,.int .i64 0,.bool false,.slice none 0 0,.bool nl,.string (bb d),.int .i64 ac,.int .i64 tm,.slice q l.length cap]] w fun en w'=>en=.returned (.tuple #[.string (bb (beBytes (t.length:Int) (4:Int).toNat++t)),.int .i64 0])∧St W0 w' K L:=
 fr_encode 0 v num u cs (.bool false) (.string ⟨#[]⟩) (.int .i64 0) (.int .i64 0) (.int .i64 0) (.string ⟨#[]⟩) (.int .i64 0) (.int .i64 0) (.slice none 0 0) (.string ⟨#[]⟩) (.int .i64 0) (.int .i64 0) (.bool false) (.slice none 0 0) (.bool nl) (.string (bb d)) (.int .i64 ac) (.int .i64 tm) (.slice q l.length cap) t _ hh rfl (by omega) hr (fun po w L h=>wb_prd po _ t v num u cs nl d ac tm q l.length cap (fun w L h=>preq_write_okM po _ nl d ac tm v l q cap (by omega) hf hll hE t hb (by omega) hrt (by omega) hac htm hpt hk h) h) h
theorem verErr_way (k v:Int) (h:verErr k v=0):k=0∨(k=22∧v=0)∨(k=22∧v=1)∨(k=24∧v=0)∨(k=26∧v=0)∨k=27:=by
 by_cases h0:k=0
 · exact .inl h0
 by_cases h1:k=22
 · subst h1;unfold verErr reqOf at h;simp at h
   omega
 by_cases h2:k=24
 · subst h2;unfold verErr reqOf at h;simp at h
   omega
 by_cases h3:k=26
 · subst h3;unfold verErr reqOf at h;simp at h
   omega
 by_cases h4:k=27
 · omega
 · unfold verErr reqOf at h;rw[if_neg h0,if_neg h1,if_neg h2,if_neg h3,if_neg h4]at h;simp at h
theorem int2_lt (i:InS):(i.int 2).1<32768:=by
 unfold InS.int;rw[if_neg (by decide)];have h1:=InS.take_len i 2
 show sInt (i.take 2).1<32768
 cases hh:(i.take 2).1 with
 |nil=>decide
 |cons c l=>
  rw[hh]at h1;have h2:l.length≤1:=by rw[List.length_cons]at h1;have:(2:Int).toNat=2:=rfl;omega
  have h3:=(sInt_bound_pow c l).2
  have h4:(128*256 ^ l.length:Int)≤32768:=by
   rcases(by omega:l.length=0∨l.length=1)with e|e<;>rw[e]<;>decide
  omega
theorem fixed_good {s:Bs}{i j:InS}{b:BlobS}(hx:i.fixed 2=(b,j)) (hi:i.On s) (h0:j.err=0):b.right=true∧b.data.length≤32767:=by
 constructor
 · rcases hi with hi|⟨p,hp,rfl⟩
   · have:=(rds_fixed 2 (by decide) (by decide)).stuck i hi.1;have e:i.fixed (2:Nat)=(b,j):=hx;rw[e]at this;obtain⟨_,rfl⟩:=Prod.mk.inj this;exact absurd h0 hi.1
   · have e:(⟨s,p,0⟩:InS).fixed (2:Nat)=(b,j):=hx
     cases hv:refixed 2 (s.drop p)with
     |error er=>
      obtain⟨g0,q,_,h1⟩:=(rds_fixed 2 (by decide) (by decide)).err s p er hp hv;rw[e]at h1;obtain⟨_,rfl⟩:=Prod.mk.inj h1;exact absurd h0 g0
     |ok x=>
      obtain⟨_,h1⟩:=(rds_fixed 2 (by decide) (by decide)).ok s p x.1 x.2 hp hv;rw[e]at h1;obtain⟨rfl,_⟩:=Prod.mk.inj h1;exact(refixed_one _ x.1 x.2 hv).2.2.1
 · have hl:=int2_lt i;have e:((i.int 2).2.tk (i.int 2).1)=(b,j):=hx;unfold InS.tk at e
   by_cases hn:(i.int 2).1= -1
   · rw[if_pos hn]at e;obtain⟨rfl,_⟩:=Prod.mk.inj e
     show(0:Nat)≤_
     omega
   · rw[if_neg hn]at e;obtain⟨rfl,_⟩:=Prod.mk.inj e;have:=InS.take_len (i.int 2).2 (i.int 2).1
     show((i.int 2).2.take (i.int 2).1).1.length≤32767
     omega
theorem On.pos {s:Bs}{i:InS}(h:i.On s) (h0:i.err=0):i.pos≤i.s.length:=by
 obtain⟨p,hp,rfl⟩:=On.zero h h0;exact hp
theorem head_good {s:Bs}{i j:InS}{y:HeadS}(hx:i.head=(y,j)) (hi:i.On s):(j.err≠0∧y=HeadS.z)∨(j.err=0∧headErr y=0):=by
 obtain⟨a,iA,hA⟩:∃a c,i.int 2=(a,c):=⟨_,_,rfl⟩;obtain⟨b,iB,hB⟩:∃a c,iA.int 2=(a,c):=⟨_,_,rfl⟩;obtain⟨iC,hC⟩:∃c,(if verErr a b=0 then iB else iB.fail (verErr a b))=c:=⟨_,rfl⟩;obtain⟨n,iD,hD⟩:∃a c,iC.int 4=(a,c):=⟨_,_,rfl⟩;obtain⟨cl,iF,hF⟩:∃a c,iD.fixed 2=(a,c):=⟨_,_,rfl⟩;have e:=head_of i a b iA iB iC hA hB hC;rw[hx,hD]at e;simp only at e;rw[hF]at e;simp only at e;obtain⟨ey,rfl⟩:=Prod.mk.inj e
 by_cases h0:j.err=0
 rotate_left
 · rw[if_neg h0]at ey;exact .inl ⟨h0,ey⟩
 rw[if_pos h0]at ey;subst ey;have gA:=got_int 2 (by decide) (by decide) hA hi;have gB:=got_int 2 (by decide) (by decide) hB gA.1
 have oC:iC.On s:=by
   by_cases hv:verErr a b=0
   · rw[if_pos hv]at hC;subst hC;exact gB.1
   · rw[if_neg hv]at hC;subst hC
     by_cases h1:iB.err=0
     · obtain⟨p,_,rfl⟩:=On.zero gB.1 h1;exact .inl ⟨hv,rfl⟩
     · rw[fail_st h1];exact gB.1
 have gD:=got_int 4 (by decide) (by decide) hD oC;have gF:=got_fixed hF gD.1;have hd0:=gF.zero h0;have hc0:=gD.zero hd0
 have hv:verErr a b=0:=by
   by_cases hv:verErr a b=0
   · exact hv
   · rw[if_neg hv]at hC;subst hC;unfold InS.fail at hc0
     split at hc0
     · exact absurd hc0 hv
     · rename_i h1;exact absurd hc0 h1
 have hf:=int_invF 4 (by decide) (by decide) hD hd0 (On.pos oC hc0);obtain⟨g1,g2⟩:=fixed_good hF gD.1 h0;refine .inr ⟨h0,?_⟩;unfold headErr
 rw[if_neg (fun x=>x hv),if_neg (fun x=>x hf),if_neg (fun x=>by
   rcases x with x|x
   · rw[g1]at x;cases x
   · simp only at x;omega)]
theorem Got.all {t:Bs}{j:InS}{x:Bs}(h:Got t ⟨t,0,0⟩ j x) (h1:j.err=0) (h0:j.close.err=0):x=t:=by
 obtain⟨p,q,e1,rfl,_,g2,g3⟩:=h.2 h1;obtain rfl:0=p:=(InS.mk.inj e1).2.1
 have hq:q=t.length:=by
  unfold InS.close at h0
  by_cases hl:0<(⟨t,q,0⟩:InS).left
  · rw[if_pos hl]at h0;have h0:(2:Int)=0:=h0
    cases h0
  · have:¬0<t.length - q:=hl
    omega
 rw[hq,List.take_zero,List.nil_append,List.take_length]at g3;exact g3
theorem close_z0 {j:InS}(h:j.close.err=0):j.err=0:=by
 unfold InS.close InS.fail at h
 by_cases h1:j.err=0
 · exact h1
 · split at h
   · first|exact absurd h h1|(rw[if_neg h1]at h;exact absurd h h1)
   · exact absurd h h1
def bodyJ (k v:Int) (i:InS):InS:=if k=0 then prodJ v i else if k=22 then begJ v i else if k=24 then addJ i else if k=26 then endJ i else(i.marks v).2
def frI (t:Bs):InS:=bodyJ (⟨t,0,0⟩:InS).head.1.kind (⟨t,0,0⟩:InS).head.1.ver (⟨t,0,0⟩:InS).head.2
def frK (i:InS) (t:Bs):InS:=if (frI t).close.err=0 then i else i.fail (frI t).close.err
def frIn (s:Bs):InS:=frK (((⟨s,0,0⟩:InS).int 4).2.take ((⟨s,0,0⟩:InS).int 4).1).2 (((⟨s,0,0⟩:InS).int 4).2.take ((⟨s,0,0⟩:InS).int 4).1).1
def frE (s:Bs):Int:=(frIn s).close.err
theorem frIn_eq {s t:Bs}{n:Int}{i1 i2:InS}(h1:(⟨s,0,0⟩:InS).int 4=(n,i1)) (h2:i1.take n=(t,i2)):frIn s=frK i2 t:=by
 unfold frIn;rw[h1];simp only;rw[h2]
theorem frK_zero {i:InS}{t:Bs}(h:(frK i t).err=0):(frI t).close.err=0∧frK i t=i∧i.err=0:=by
 unfold frK at h ⊢
 by_cases h0:(frI t).close.err=0
 · rw[if_pos h0]at h ⊢;exact⟨h0,rfl,h⟩
 · rw[if_neg h0]at h;unfold InS.fail at h
   split at h
   · exact absurd h h0
   · rename_i h1;exact absurd h h1
theorem take_got {s t:Bs}{i j:InS}{n:Int}(hx:i.take n=(t,j)) (hi:i.On s) (h0:j.err=0):Got s i j t∧n=(t.length:Int):=by
 unfold InS.take at hx
 by_cases h1:i.err=0
 rotate_left
 · rw[if_pos h1]at hx;obtain⟨_,rfl⟩:=Prod.mk.inj hx;exact absurd h0 h1
 rw[if_neg (by simp[h1])]at hx;obtain⟨p,hp,rfl⟩:=On.zero hi h1
 by_cases h2:n<0
 · rw[if_pos h2]at hx;obtain⟨_,rfl⟩:=Prod.mk.inj hx
   cases h0
 rw[if_neg h2]at hx
 by_cases h3:(((⟨s,p,0⟩:InS).left:Nat):Int)<n
 · rw[if_pos h3]at hx;obtain⟨_,rfl⟩:=Prod.mk.inj hx
   cases h0
 rw[if_neg h3]at hx;obtain⟨rfl,rfl⟩:=Prod.mk.inj hx;have h4:¬((s.length - p:Nat):Int)<n:=h3;have hp:p≤s.length:=hp;clear h3 h1;have h5:p+n.toNat≤s.length:=by omega
 refine⟨⟨.inr ⟨_,h5,rfl⟩,fun _=>⟨p,p+n.toNat,rfl,rfl,by omega,h5,(List.take_add).symm⟩⟩,?_⟩;rw[List.length_take,List.length_drop]
 show n=((min n.toNat (s.length - p):Nat):Int)
 omega
theorem on_start (s:Bs):(⟨s,0,0⟩:InS).On s:=.inr ⟨0,Nat.zero_le _,rfl⟩
theorem frE_zero {s t:Bs}{n:Int}{i1 i2:InS}(h1:(⟨s,0,0⟩:InS).int 4=(n,i1)) (h2:i1.take n=(t,i2)) (h:frE s=0):(frI t).close.err=0∧frIn s=i2∧i2.err=0∧beBytes (t.length:Int) 4++t=s∧fits (t.length:Int) 4:=by
 have e:=frIn_eq h1 h2;have h3:(frIn s).close.err=0:=h;have h4:=close_z0 h3;rw[e]at h4;obtain⟨g1,g2,g3⟩:=frK_zero h4;have gA:=got_int 4 (by decide) (by decide) h1 (on_start s);obtain⟨gB,hn⟩:=take_got h2 gA.1 g3;have hf:=int_invF 4 (by decide) (by decide) h1 (gB.zero g3) (Nat.zero_le _);rw[e,g2]at h3;have:=(gA.trans gB).all g3 h3;rw[hn]at this hf;exact⟨g1,by rw[e,g2],g3,this,hf⟩
theorem frE_longer {s:Bs}(c:UInt8) (h:frE s=0):frE (s++[c])=2:=by
 obtain⟨n,i1,h1⟩:∃a j,(⟨s,0,0⟩:InS).int 4=(a,j):=⟨_,_,rfl⟩;obtain⟨t,i2,h2⟩:∃a j,i1.take n=(a,j):=⟨_,_,rfl⟩;obtain⟨g1,_,_,g4,g5⟩:=frE_zero h1 h2 h;obtain⟨S,hS⟩:∃S,s++[c]=S:=⟨_,rfl⟩;rw[hS];have e0:S=[]++beBytes (t.length:Int) 4++(t++[c]):=by rw[←hS,←g4,List.nil_append,List.append_assoc]
 have e1:(⟨S,0,0⟩:InS).int 4=((t.length:Int),⟨S,4,0⟩):=by
  have:=int_stepV S [] (t++[c]) (t.length:Int) 4 (by decide) (by decide) g5 e0;rw[List.nil_append,beBytes_length]at this;exact this
 have hl:S.length=4+t.length+1:=by
  rw[←hS,←g4,List.length_append,List.length_append,beBytes_length]
  rfl
 have e2:(⟨S,4,0⟩:InS).take (t.length:Int)=(t,⟨S,4+t.length,0⟩):=by
  unfold InS.take
  rw[if_neg (by simp),if_neg (by omega),if_neg (by
   show ¬((S.length - 4:Nat):Int)<(t.length:Int)
   omega)]
  have hd:S.drop 4=t++[c]:=by
   rw[←hS,←g4,List.append_assoc];have:=List.drop_left (l₁:=beBytes (t.length:Int) 4) (l₂:=t++[c]);rw[beBytes_length]at this;exact this
  show((S.drop 4).take ((t.length:Int)).toNat,(⟨S,4+((t.length:Int)).toNat,0⟩:InS))=_
  rw[hd,Int.toNat_natCast,List.take_left]
 have e3:=frIn_eq e1 e2
 show(frIn S).close.err=2
 rw[e3];unfold frK;rw[if_pos g1];unfold InS.close;rw[if_pos (show 0<(⟨S,4+t.length,0⟩:InS).left by show 0<S.length - (4+t.length);omega)]
 rfl
def EncF (t:Bs) (K2:Know) (X:Array Value):Prop:=∀(W0 w:World) (K':Know) (L:List Res),K'.has K2→St W0 w K' L→Calls Tryz.prog 12 #[.agg X] w fun en w'=>en=.returned (.tuple #[.string (bb (beBytes (t.length:Int) (4:Int).toNat++t)),.int .i64 0])∧St W0 w' K' L
theorem fr_body (bi rf:Nat) (t:Bs) (ht:t.length≤1600) (a v num:Int) (u:Bool) (cs:Bs) (J1:InS) (h3:(⟨t,0,0⟩:InS).head=(⟨a,v,num,⟨u,cs⟩⟩,J1)){W0 w:World}{K:Know}{L:List Res}(hk:K.has Know.reqs) (h:St W0 w K (.inp bi J1::.raw rf #[.int .i64 a,.int .i64 v,.int .i64 num,.bool u,.string (bb cs),.bool false,.string ⟨#[]⟩,.int .i64 0,.int .i64 0,.int .i64 0,.string ⟨#[]⟩,.int .i64 0,.int .i64 0,.slice none 0 0,.string ⟨#[]⟩,.int .i64 0,.int .i64 0,.bool false,.slice none 0 0,.bool false,.string ⟨#[]⟩,.int .i64 0,.int .i64 0,.slice none 0 0] 38::L)):
   Calls Tryz.prog 69 #[inPtr bi,.pointer (some ⟨rf,0,none⟩)] w fun en w'=>en=.returned (.tuple #[])∧∃(x5 x6 x7 x8 x9 x10 x11 x12 x13 x14 x15 x16 x17 x18 x19 x20 x21 x22 x23:Value) (K2:Know),K2.has K∧(#[.int .i64 a,.int .i64 v,.int .i64 num,.bool u,.string (bb cs),x5,x6,x7,x8,x9,x10,x11,x12,x13,x14,x15,x16,x17,x18,x19,x20,x21,x22,x23]:Array Value).all (fun z=>z.oneCell')=true∧((bodyJ a v J1).err=0→(bodyJ a v J1).close.err=0→EncF t K2 #[.int .i64 a,.int .i64 v,.int .i64 num,.bool u,.string (bb cs),x5,x6,x7,x8,x9,x10,x11,x12,x13,x14,x15,x16,x17,x18,x19,x20,x21,x22,x23])∧St W0 w' K2 (.inp bi (bodyJ a v J1)::.raw rf #[.int .i64 a,.int .i64 v,.int .i64 num,.bool u,.string (bb cs),x5,x6,x7,x8,x9,x10,x11,x12,x13,x14,x15,x16,x17,x18,x19,x20,x21,x22,x23] 38::L):=by
 have gH:=got_head h3 (on_start t);have hi:=gH.1
 have way:a=0∨(a=22∧v=0)∨(a=22∧v=1)∨(a=24∧v=0)∨(a=26∧v=0)∨a=27:=by
   rcases head_good h3 (on_start t)with ⟨_,hz⟩|⟨_,he⟩
   · exact .inl (congrArg HeadS.kind hz)
   · exact verErr_way a v (head_put _ he).2.1
 have hh:J1.err=0→headErr ⟨a,v,num,⟨u,cs⟩⟩=0:=fun h0=>by
   rcases head_good h3 (on_start t)with ⟨h1,_⟩|⟨_,he⟩
   · exact absurd h0 h1
   · exact he
 rcases way with rfl|⟨rfl,rfl⟩|⟨rfl,rfl⟩|⟨rfl,rfl⟩|⟨rfl,rfl⟩|rfl
 · refine(rb_prd bi rf t J1 v num u cs hi ht h).mono ?_;rintro en w' ⟨rfl,nl,d,ac,tm,q,cap,lr,K2,hkk,hg,h⟩;refine⟨rfl,.bool false,.string ⟨#[]⟩,.int .i64 0,.int .i64 0,.int .i64 0,.string ⟨#[]⟩,.int .i64 0,.int .i64 0,.slice none 0 0,.string ⟨#[]⟩,.int .i64 0,.int .i64 0,.bool false,.slice none 0 0,.bool nl,.string (bb d),.int .i64 ac,.int .i64 tm,.slice q lr.length cap,K2,hkk,by simp[Value.oneCell'],fun h0 hc0=> ?_,h⟩;obtain⟨f1,f2,f3,f4,f5,f6,f7,f8,f9,hG⟩:=hg h0;have hb:=(gH.trans hG).all h0 hc0;intro W0 w K' L hk2 h;exact fe_prd v num u cs nl d ac tm q cap lr t (hh (hG.zero h0)) f1 f2 f3 f4 f5 f6 f7 f8 ht hb (Know.has_trans hk2 (Know.has_trans hkk hk)) (Know.has_trans hk2 f9) h
 · refine(rb_beg0 bi rf t J1 num u cs hi ht h).mono ?_;rintro en w' ⟨rfl,nl,d,tm,p,e,hg,h⟩;refine⟨rfl,.bool nl,.string (bb d),.int .i64 tm,.int .i64 p,.int .i64 e,.string ⟨#[]⟩,.int .i64 0,.int .i64 0,.slice none 0 0,.string ⟨#[]⟩,.int .i64 0,.int .i64 0,.bool false,.slice none 0 0,.bool false,.string ⟨#[]⟩,.int .i64 0,.int .i64 0,.slice none 0 0,K,Know.has_refl _,by simp[Value.oneCell'],fun h0 hc0=> ?_,h⟩;obtain⟨f1,f2,hG⟩:=hg h0;have hb:=(gH.trans hG).all h0 hc0;intro W0 w K' L hk2 h;exact fe_beg0 num u cs nl d tm p e t (hh (hG.zero h0)) f1 f2 ht hb (Know.has_trans hk2 hk) h
 · refine(rb_beg1 bi rf t J1 num u cs hi ht h).mono ?_;rintro en w' ⟨rfl,nl,d,tm,p,e,hg,h⟩;refine⟨rfl,.bool nl,.string (bb d),.int .i64 tm,.int .i64 p,.int .i64 e,.string ⟨#[]⟩,.int .i64 0,.int .i64 0,.slice none 0 0,.string ⟨#[]⟩,.int .i64 0,.int .i64 0,.bool false,.slice none 0 0,.bool false,.string ⟨#[]⟩,.int .i64 0,.int .i64 0,.slice none 0 0,K,Know.has_refl _,by simp[Value.oneCell'],fun h0 hc0=> ?_,h⟩;obtain⟨f1,f2,hG⟩:=hg h0;have hb:=(gH.trans hG).all h0 hc0;intro W0 w K' L hk2 h;exact fe_beg1 num u cs nl d tm p e t (hh (hG.zero h0)) f1 f2 ht hb (Know.has_trans hk2 hk) h
 · refine(rb_add bi rf t J1 num u cs hi ht h).mono ?_;rintro en w' ⟨rfl,d,p,e,q,cap,lr,K2,hkk,hg,h⟩;refine⟨rfl,.bool false,.string ⟨#[]⟩,.int .i64 0,.int .i64 0,.int .i64 0,.string (bb d),.int .i64 p,.int .i64 e,.slice q lr.length cap,.string ⟨#[]⟩,.int .i64 0,.int .i64 0,.bool false,.slice none 0 0,.bool false,.string ⟨#[]⟩,.int .i64 0,.int .i64 0,.slice none 0 0,K2,hkk,by simp[Value.oneCell'],fun h0 hc0=> ?_,h⟩;obtain⟨f1,f2,f3,f4,hG⟩:=hg h0;have hb:=(gH.trans hG).all h0 hc0;intro W0 w K' L hk2 h;exact fe_add num u cs d p e q cap lr t (hh (hG.zero h0)) f1 f2 f3 ht hb (Know.has_trans hk2 (Know.has_trans hkk hk)) (Know.has_trans hk2 f4) h
 · refine(rb_end bi rf t J1 num u cs hi ht h).mono ?_;rintro en w' ⟨rfl,d,p,e,c,hg,h⟩;refine⟨rfl,.bool false,.string ⟨#[]⟩,.int .i64 0,.int .i64 0,.int .i64 0,.string ⟨#[]⟩,.int .i64 0,.int .i64 0,.slice none 0 0,.string (bb d),.int .i64 p,.int .i64 e,.bool c,.slice none 0 0,.bool false,.string ⟨#[]⟩,.int .i64 0,.int .i64 0,.slice none 0 0,K,Know.has_refl _,by simp[Value.oneCell'],fun h0 hc0=> ?_,h⟩;obtain⟨f1,f2,hG⟩:=hg h0;have hb:=(gH.trans hG).all h0 hc0;intro W0 w K' L hk2 h;exact fe_end num u cs d p e c t (hh (hG.zero h0)) f1 f2 ht hb (Know.has_trans hk2 hk) h
 · refine(rb_mrk bi rf t J1 v num u cs hi ht h).mono ?_;rintro en w' ⟨rfl,q,cap,lr,K2,hkk,hg,h⟩;refine⟨rfl,.bool false,.string ⟨#[]⟩,.int .i64 0,.int .i64 0,.int .i64 0,.string ⟨#[]⟩,.int .i64 0,.int .i64 0,.slice none 0 0,.string ⟨#[]⟩,.int .i64 0,.int .i64 0,.bool false,.slice q lr.length cap,.bool false,.string ⟨#[]⟩,.int .i64 0,.int .i64 0,.slice none 0 0,K2,hkk,by simp[Value.oneCell'],fun h0 hc0=> ?_,h⟩;obtain⟨f1,f2,f3,f4,f5,hG⟩:=hg h0;have hb:=(gH.trans hG).all h0 hc0;intro W0 w K' L hk2 h;exact fe_mrk v num u cs q cap lr t (hh (hG.zero h0)) f1 f2 f3 f4 ht hb (Know.has_trans hk2 (Know.has_trans hkk hk)) (Know.has_trans hk2 f5) h

end Go.Proofs.YteldcbljedeeiaaGreatDoor
