/- A text. -/
import Derived.Test.YteldcbljedeeiaaGreatDoorGWholeFramesCard14
import Derived.RegionTactic
import Derived.Deep.RegionHeld3
import Derived.Deep.DeepCutAuto
import Derived.WalkMore
import Derived.Test.YteldcbljedeeiaaGreatDoorGWholeFramesCard8
import Derived.Test.YteldcbljedeeiaaGreatDoorGWholeFramesCard13
import Derived.Test.YteldcbljedeeiaaGreatDoorGWholeFramesCard9
import Derived.Test.YteldcbljedeeiaaGreatDoorGWholeFramesCard5
import Derived.Test.YteldcbljedeeiaaGreatDoorGWholeFramesCard6
import Derived.Test.YteldcbljedeeiaaGreatDoorGWholeFramesCard2
import Derived.Test.YteldcbljedeeiaaGreatDoorGWholeFramesCard7
import Derived.IntWalk
import Derived.Test.YteldcbljedeeiaaGreatDoorGWholeFramesCard4
import Derived.Test.YteldcbljedeeiaaGreatDoorGWholeFramesCard3
/- A text. -/
namespace Go.Proofs.YteldcbljedeeiaaGreatDoor
open Go.RowKit
set_option maxRecDepth 100000
set_option maxHeartbeats 8000000
open Go.Value renaming bool→U, string→Z, slice→V, int→I, pointer→Ja
open Go.Ending renaming returned→Y
open Go.IntKind renaming i64→O
open _root_.Go.Proofs.Tryz renaming prog→Jb
open _root_.Nat renaming zero_le→Jd, add_assoc→Jm
open _root_.List renaming take_succ_eq_append_getElem→Jf, length_cons→Jn, length_append→Jc, append_nil→Jp, length_drop→Jh, drop_drop→Jk, append_assoc→Je, flatMap_cons→Jg, getElem_mem→Ji, length_map→Jj, take→Jl, drop→Jo
set_option maxHeartbeats 8000000
set_option maxRecDepth 100000
variable {W0 w:World}{K:Know}{L:List Res}
theorem zP3(b rf:Nat)(i j:InS)(v num:Int)(u:Bool)(cs:Bs)(P:Bool→Bs→Int→Int→Int→Know→Prop)(hr:∀(w:World) (L:List Res),St W0 w K (.inp b i::L)→Calls Jb 119 #[zAe b,I O v] w fun en w'=>∃(nl:Bool) (d:Bs) (tm:Int) (p:Int) (e:Int) (K2:Know),en=Y (.agg #[U nl,Z (bb d),I O tm,I O p,I O e])∧P nl d tm p e K2∧St W0 w' K2 (.inp b j::L))(h:St W0 w K (.inp b i::.raw rf #[I O 22,I O v,I O num,U u,Z (bb cs),U false,Z ⟨#[]⟩,I O 0,I O 0,I O 0,Z ⟨#[]⟩,I O 0,I O 0,V none 0 0,Z ⟨#[]⟩,I O 0,I O 0,U false,V none 0 0,U false,Z ⟨#[]⟩,I O 0,I O 0,V none 0 0] 38::L)):
 Calls Jb 69 #[zAe b,Ja (some ⟨rf,0,none⟩)] w fun en w'=>en=Y (.tuple #[])∧∃(nl:Bool) (d:Bs) (tm:Int) (p:Int) (e:Int) (K2:Know),P nl d tm p e K2∧St W0 w' K2 (.inp b j::.raw rf #[I O 22,I O v,I O num,U u,Z (bb cs),U nl,Z (bb d),I O tm,I O p,I O e,Z ⟨#[]⟩,I O 0,I O 0,V none 0 0,Z ⟨#[]⟩,I O 0,I O 0,U false,V none 0 0,U false,Z ⟨#[]⟩,I O 0,I O 0,V none 0 0] 38::L):=by
 obtain⟨z0,z1⟩:=uR2 h.p1;simp at z0 z1;have H:=hQd h;have HR:=hQd hr;clear h hr;go_enter Tryz.func69,Tryz.ntmps69;go_wp2_with (go_at_call 119;(with_reducible refine(HR.out _ _ H.out).mono ?_);rintro e_ wn ⟨nl,d,tm,p,e,K2,rfl,hg,h⟩;have HG:=hQd hg;have c5:=h.p1.rawCell 5;have f5:=h.p1.rawFree 5;have c6:=h.p1.rawCell 6;have f6:=h.p1.rawFree 6;have c7:=h.p1.rawCell 7;have f7:=h.p1.rawFree 7;have c8:=h.p1.rawCell 8;have f8:=h.p1.rawFree 8;have c9:=h.p1.rawCell 9;have f9:=h.p1.rawFree 9;simp at c5 f5 c6 f6 c7 f7 c8 f8 c9 f9;clear hg;replace H:=hQd h;clear h);have hz:St W0 _ K2 (.raw rf #[I O 22,I O v,I O num,U u,Z (bb cs),U nl,Z (bb d),I O tm,I O p,I O e,Z ⟨#[]⟩,I O 0,I O 0,V none 0 0,Z ⟨#[]⟩,I O 0,I O 0,U false,V none 0 0,U false,Z ⟨#[]⟩,I O 0,I O 0,V none 0 0] 38::.inp b j::L):=(((((H.out.p1.rawSet 5 _).rawSet 6 _).rawSet 7 _).rawSet 8 _).rawSet 9 _);go_end0;exact⟨rfl,nl,d,tm,p,e,K2,HG.out,hz.p1⟩
theorem zS0(b rf:Nat)(i j:InS)(v num:Int)(u:Bool)(cs:Bs)(P:Bs→Int→Int→Option Addr→Nat→Nat→Know→Prop)(hr:∀(w:World) (L:List Res),St W0 w K (.inp b i::L)→Calls Jb 120 #[zAe b] w fun en w'=>∃(d:Bs) (p:Int) (e:Int) (q:Option Addr) (n:Nat) (cap:Nat) (K2:Know),en=Y (.agg #[Z (bb d),I O p,I O e,V q n cap])∧P d p e q n cap K2∧St W0 w' K2 (.inp b j::L))(h:St W0 w K (.inp b i::.raw rf #[I O 24,I O v,I O num,U u,Z (bb cs),U false,Z ⟨#[]⟩,I O 0,I O 0,I O 0,Z ⟨#[]⟩,I O 0,I O 0,V none 0 0,Z ⟨#[]⟩,I O 0,I O 0,U false,V none 0 0,U false,Z ⟨#[]⟩,I O 0,I O 0,V none 0 0] 38::L)):
 Calls Jb 69 #[zAe b,Ja (some ⟨rf,0,none⟩)] w fun en w'=>en=Y (.tuple #[])∧∃(d:Bs) (p:Int) (e:Int) (q:Option Addr) (n:Nat) (cap:Nat) (K2:Know),P d p e q n cap K2∧St W0 w' K2 (.inp b j::.raw rf #[I O 24,I O v,I O num,U u,Z (bb cs),U false,Z ⟨#[]⟩,I O 0,I O 0,I O 0,Z (bb d),I O p,I O e,V q n cap,Z ⟨#[]⟩,I O 0,I O 0,U false,V none 0 0,U false,Z ⟨#[]⟩,I O 0,I O 0,V none 0 0] 38::L):=by
 have z0:=h.p1.rawCell 0;simp at z0;have H:=hQd h;have HR:=hQd hr;clear h hr;go_enter Tryz.func69,Tryz.ntmps69;go_wp2_with (go_at_call 120;(with_reducible refine(HR.out _ _ H.out).mono ?_);rintro e_ wn ⟨d,p,e,q,n,cap,K2,rfl,hg,h⟩;have HG:=hQd hg;have c10:=h.p1.rawCell 10;have f10:=h.p1.rawFree 10;have c11:=h.p1.rawCell 11;have f11:=h.p1.rawFree 11;have c12:=h.p1.rawCell 12;have f12:=h.p1.rawFree 12;have c13:=h.p1.rawCell 13;have f13:=h.p1.rawFree 13;simp at c10 f10 c11 f11 c12 f12 c13 f13;clear hg;replace H:=hQd h;clear h);have hz:St W0 _ K2 (.raw rf #[I O 24,I O v,I O num,U u,Z (bb cs),U false,Z ⟨#[]⟩,I O 0,I O 0,I O 0,Z (bb d),I O p,I O e,V q n cap,Z ⟨#[]⟩,I O 0,I O 0,U false,V none 0 0,U false,Z ⟨#[]⟩,I O 0,I O 0,V none 0 0] 38::.inp b j::L):=((((H.out.p1.rawSet 10 _).rawSet 11 _).rawSet 12 _).rawSet 13 _);go_end0;exact⟨rfl,d,p,e,q,n,cap,K2,HG.out,hz.p1⟩
theorem zSZ(b rf:Nat)(i j:InS)(v num:Int)(u:Bool)(cs:Bs)(P:Bs→Int→Int→Bool→Know→Prop)(hr:∀(w:World) (L:List Res),St W0 w K (.inp b i::L)→Calls Jb 121 #[zAe b] w fun en w'=>∃(d:Bs) (p:Int) (e:Int) (c:Bool) (K2:Know),en=Y (.agg #[Z (bb d),I O p,I O e,U c])∧P d p e c K2∧St W0 w' K2 (.inp b j::L))(h:St W0 w K (.inp b i::.raw rf #[I O 26,I O v,I O num,U u,Z (bb cs),U false,Z ⟨#[]⟩,I O 0,I O 0,I O 0,Z ⟨#[]⟩,I O 0,I O 0,V none 0 0,Z ⟨#[]⟩,I O 0,I O 0,U false,V none 0 0,U false,Z ⟨#[]⟩,I O 0,I O 0,V none 0 0] 38::L)):
 Calls Jb 69 #[zAe b,Ja (some ⟨rf,0,none⟩)] w fun en w'=>en=Y (.tuple #[])∧∃(d:Bs) (p:Int) (e:Int) (c:Bool) (K2:Know),P d p e c K2∧St W0 w' K2 (.inp b j::.raw rf #[I O 26,I O v,I O num,U u,Z (bb cs),U false,Z ⟨#[]⟩,I O 0,I O 0,I O 0,Z ⟨#[]⟩,I O 0,I O 0,V none 0 0,Z (bb d),I O p,I O e,U c,V none 0 0,U false,Z ⟨#[]⟩,I O 0,I O 0,V none 0 0] 38::L):=by
 have z0:=h.p1.rawCell 0;simp at z0;have H:=hQd h;have HR:=hQd hr;clear h hr;go_enter Tryz.func69,Tryz.ntmps69;go_wp2_with (go_at_call 121;(with_reducible refine(HR.out _ _ H.out).mono ?_);rintro e_ wn ⟨d,p,e,c,K2,rfl,hg,h⟩;have HG:=hQd hg;have c14:=h.p1.rawCell 14;have f14:=h.p1.rawFree 14;have c15:=h.p1.rawCell 15;have f15:=h.p1.rawFree 15;have c16:=h.p1.rawCell 16;have f16:=h.p1.rawFree 16;have c17:=h.p1.rawCell 17;have f17:=h.p1.rawFree 17;simp at c14 f14 c15 f15 c16 f16 c17 f17;clear hg;replace H:=hQd h;clear h);have hz:St W0 _ K2 (.raw rf #[I O 26,I O v,I O num,U u,Z (bb cs),U false,Z ⟨#[]⟩,I O 0,I O 0,I O 0,Z ⟨#[]⟩,I O 0,I O 0,V none 0 0,Z (bb d),I O p,I O e,U c,V none 0 0,U false,Z ⟨#[]⟩,I O 0,I O 0,V none 0 0] 38::.inp b j::L):=((((H.out.p1.rawSet 14 _).rawSet 15 _).rawSet 16 _).rawSet 17 _);go_end0;exact⟨rfl,d,p,e,c,K2,HG.out,hz.p1⟩
theorem zSY(b rf:Nat)(i j:InS)(v num:Int)(u:Bool)(cs:Bs)(P:Option Addr→Nat→Nat→Know→Prop)(hr:∀(w:World) (L:List Res),St W0 w K (.inp b i::L)→Calls Jb 122 #[zAe b,I O v] w fun en w'=>∃(q:Option Addr) (n:Nat) (cap:Nat) (K2:Know),en=Y (V q n cap)∧P q n cap K2∧St W0 w' K2 (.inp b j::L))(h:St W0 w K (.inp b i::.raw rf #[I O 27,I O v,I O num,U u,Z (bb cs),U false,Z ⟨#[]⟩,I O 0,I O 0,I O 0,Z ⟨#[]⟩,I O 0,I O 0,V none 0 0,Z ⟨#[]⟩,I O 0,I O 0,U false,V none 0 0,U false,Z ⟨#[]⟩,I O 0,I O 0,V none 0 0] 38::L)):
 Calls Jb 69 #[zAe b,Ja (some ⟨rf,0,none⟩)] w fun en w'=>en=Y (.tuple #[])∧∃(q:Option Addr) (n:Nat) (cap:Nat) (K2:Know),P q n cap K2∧St W0 w' K2 (.inp b j::.raw rf #[I O 27,I O v,I O num,U u,Z (bb cs),U false,Z ⟨#[]⟩,I O 0,I O 0,I O 0,Z ⟨#[]⟩,I O 0,I O 0,V none 0 0,Z ⟨#[]⟩,I O 0,I O 0,U false,V q n cap,U false,Z ⟨#[]⟩,I O 0,I O 0,V none 0 0] 38::L):=by
 obtain⟨z0,z1⟩:=uR2 h.p1;simp at z0 z1;have H:=hQd h;have HR:=hQd hr;clear h hr;go_enter Tryz.func69,Tryz.ntmps69;go_wp2_with (go_at_call 122;(with_reducible refine(HR.out _ _ H.out).mono ?_);rintro e_ wn ⟨q,n,cap,K2,rfl,hg,h⟩;have HG:=hQd hg;have c18:=h.p1.rawCell 18;have f18:=h.p1.rawFree 18;simp at c18 f18;clear hg;replace H:=hQd h;clear h);have hz:St W0 _ K2 (.raw rf #[I O 27,I O v,I O num,U u,Z (bb cs),U false,Z ⟨#[]⟩,I O 0,I O 0,I O 0,Z ⟨#[]⟩,I O 0,I O 0,V none 0 0,Z ⟨#[]⟩,I O 0,I O 0,U false,V q n cap,U false,Z ⟨#[]⟩,I O 0,I O 0,V none 0 0] 38::.inp b j::L):=(H.out.p1.rawSet 18 _);go_end0;exact⟨rfl,q,n,cap,K2,HG.out,hz.p1⟩
theorem zP2(b rf:Nat)(i j:InS)(v num:Int)(u:Bool)(cs:Bs)(P:Bool→Bs→Int→Int→Option Addr→Nat→Nat→Know→Prop)(hr:∀(w:World) (L:List Res),St W0 w K (.inp b i::L)→Calls Jb 118 #[zAe b,I O v] w fun en w'=>∃(nl:Bool) (d:Bs) (ac:Int) (tm:Int) (q:Option Addr) (n:Nat) (cap:Nat) (K2:Know),en=Y (.agg #[U nl,Z (bb d),I O ac,I O tm,V q n cap])∧P nl d ac tm q n cap K2∧St W0 w' K2 (.inp b j::L))(h:St W0 w K (.inp b i::.raw rf #[I O 0,I O v,I O num,U u,Z (bb cs),U false,Z ⟨#[]⟩,I O 0,I O 0,I O 0,Z ⟨#[]⟩,I O 0,I O 0,V none 0 0,Z ⟨#[]⟩,I O 0,I O 0,U false,V none 0 0,U false,Z ⟨#[]⟩,I O 0,I O 0,V none 0 0] 38::L)):
 Calls Jb 69 #[zAe b,Ja (some ⟨rf,0,none⟩)] w fun en w'=>en=Y (.tuple #[])∧∃(nl:Bool) (d:Bs) (ac:Int) (tm:Int) (q:Option Addr) (n:Nat) (cap:Nat) (K2:Know),P nl d ac tm q n cap K2∧St W0 w' K2 (.inp b j::.raw rf #[I O 0,I O v,I O num,U u,Z (bb cs),U false,Z ⟨#[]⟩,I O 0,I O 0,I O 0,Z ⟨#[]⟩,I O 0,I O 0,V none 0 0,Z ⟨#[]⟩,I O 0,I O 0,U false,V none 0 0,U nl,Z (bb d),I O ac,I O tm,V q n cap] 38::L):=by
 obtain⟨z0,z1⟩:=uR2 h.p1;simp at z0 z1;have H:=hQd h;have HR:=hQd hr;clear h hr;go_enter Tryz.func69,Tryz.ntmps69;go_wp2_with (go_at_call 118;(with_reducible refine(HR.out _ _ H.out).mono ?_);rintro e_ wn ⟨nl,d,ac,tm,q,n,cap,K2,rfl,hg,h⟩;have HG:=hQd hg;have c19:=h.p1.rawCell 19;have f19:=h.p1.rawFree 19;have c20:=h.p1.rawCell 20;have f20:=h.p1.rawFree 20;have c21:=h.p1.rawCell 21;have f21:=h.p1.rawFree 21;have c22:=h.p1.rawCell 22;have f22:=h.p1.rawFree 22;have c23:=h.p1.rawCell 23;have f23:=h.p1.rawFree 23;simp at c19 f19 c20 f20 c21 f21 c22 f22 c23 f23;clear hg;replace H:=hQd h;clear h);have hz:St W0 _ K2 (.raw rf #[I O 0,I O v,I O num,U u,Z (bb cs),U false,Z ⟨#[]⟩,I O 0,I O 0,I O 0,Z ⟨#[]⟩,I O 0,I O 0,V none 0 0,Z ⟨#[]⟩,I O 0,I O 0,U false,V none 0 0,U nl,Z (bb d),I O ac,I O tm,V q n cap] 38::.inp b j::L):=(((((H.out.p1.rawSet 19 _).rawSet 20 _).rawSet 21 _).rawSet 22 _).rawSet 23 _);go_end0;exact⟨rfl,nl,d,ac,tm,q,n,cap,K2,HG.out,hz.p1⟩
set_option maxHeartbeats 8000000
variable {W0 w:World}{K:Know}{L:List Res}
theorem zJJ(b:Nat)(o o1 o2:Bs)(nl:Bool)(d:Bs)(tm p e:Int)(h1:o++encF 2 ⟨nl,d⟩=o1)(h2:o1++zAa tm (4:Int).toNat=o2)(hk:begE 0 nl d tm p e=0)(_:p<9223372036854775808)(hl:o.length≤1000000)(h:St W0 w K (.out b ⟨o,0⟩::L)):
 Calls Jb 98 #[.agg #[U nl,Z (bb d),I O tm,I O p,I O e],zAc b,I O 0] w fun en w'=>en=Y (.tuple #[])∧St W0 w' K (.out b ⟨o2,0⟩::L):=by
 obtain⟨bB,hbB⟩:=eX w.heap.size;obtain⟨vB,hvB⟩:=eX (bB+1);have g1:=(h.allocRaw #[U nl,Z (bb d),I O tm,I O p,I O e] 27).allocRaw #[I O 0] 3;simp only[World.size_alloc,hbB,hvB]at g1;have H:=hQd (show St W0 _ K (.out b ⟨o,0⟩::.raw vB #[I O 0] 3::.raw bB #[U nl,Z (bb d),I O tm,I O p,I O e] 27::L)from g1.p2);clear g1;have hok:=zCs hk;obtain⟨hil,hri,hfi⟩:=zEt hok.1;have hrg:=zDS hok.2.2;have HRI:=hQd hri;have HFI:=hQd hfi;have HIL:=hQd hil;have H1:=hQd h1;have H2:=hQd h2;have HK_:=hQd hk;have HIL2:=hQd (show d.length≤140737488355328 by omega);have HFT:=hQd (zC1 tm oM);have hl1:o1.length=o.length+(d.length+2):=by rw[←h1,Jc];unfold encF;rw[Jc,zAb];simp only;omega
 have hl2:o2.length=o1.length+4:=by rw[←h2,Jc,zAb];rfl
 have HL:=hQd (show o.length≤100000000000000 by omega);have HL1:=hQd (show o1.length≤100000000000000 by omega);have HL2:=hQd (show o2.length≤100000000 by omega);have HT:=hQd (show((0:Int)==0)=true by rfl);have HO:=hQd (show(if (0:Int)=0 then(⟨o,0⟩:OutS)else(⟨o,0⟩:OutS).fail 0)=⟨o,0⟩ by rfl);clear h h1 h2 hk hl hl1 hl2 hok hil hri hfi hrg;go_enter Tryz.func98,Tryz.ntmps98
 go_wp2_with (first
  |(go_at_call 154;(with_reducible refine(zFd b _ _ bB vB 0 nl d tm p e _ _ HK_.out HIL2.out HT.out HO.out H.out).mono ?_);rintro e_ wn ⟨rfl,h⟩;obtain⟨d0,d1,d2,d3,d4⟩:=uR5 h.p2;have dv:=h.p1.rawCell 0;simp at d0 d1 d2 d3 d4 dv;replace H:=hQd h;clear h)
  |(go_at_call 96;(with_reducible refine(zDQ b o o1 nl d H1.out HRI.out HFI.out HIL.out HL.out H.out).mono ?_);rintro e_ wn ⟨rfl,h⟩;obtain⟨d0,d1,d2,d3,d4⟩:=uR5 h.p2;have dv:=h.p1.rawCell 0;simp at d0 d1 d2 d3 d4 dv;replace H:=hQd h;clear h)
  |(go_at_call 50;(with_reducible refine(zBH b o1 o2 tm 4 H2.out HFT.out HL1.out H.out).mono ?_);rintro e_ wn ⟨rfl,h⟩;obtain⟨d0,d1,d2,d3,d4⟩:=uR5 h.p2;have dv:=h.p1.rawCell 0;simp at d0 d1 d2 d3 d4 dv;replace H:=hQd h;clear h))
 go_end0;exact⟨rfl,H.out.p2.drop.p1.drop⟩
theorem zJI(b:Nat)(o o1 o2 o3 o4:Bs)(nl:Bool)(d:Bs)(tm p e:Int)(h1:o++encF 2 ⟨nl,d⟩=o1)(h2:o1++zAa tm (4:Int).toNat=o2)(h3:o2++zAa p (8:Int).toNat=o3)(h4:o3++zAa e (2:Int).toNat=o4)(hk:begE 1 nl d tm p e=0)(hp:p<9223372036854775808)(hl:o.length≤1000000)(h:St W0 w K (.out b ⟨o,0⟩::L)):
 Calls Jb 98 #[.agg #[U nl,Z (bb d),I O tm,I O p,I O e],zAc b,I O 1] w fun en w'=>en=Y (.tuple #[])∧St W0 w' K (.out b ⟨o4,0⟩::L):=by
 obtain⟨bB,hbB⟩:=eX w.heap.size;obtain⟨vB,hvB⟩:=eX (bB+1);have g1:=(h.allocRaw #[U nl,Z (bb d),I O tm,I O p,I O e] 27).allocRaw #[I O 1] 3;simp only[World.size_alloc,hbB,hvB]at g1;have H:=hQd (show St W0 _ K (.out b ⟨o,0⟩::.raw vB #[I O 1] 3::.raw bB #[U nl,Z (bb d),I O tm,I O p,I O e] 27::L)from g1.p2);clear g1;have hok:=zCs hk;obtain⟨hil,hri,hfi⟩:=zEt hok.1;have hrg:=zDS hok.2.2;have HRI:=hQd hri;have HFI:=hQd hfi;have HIL:=hQd hil;have H1:=hQd h1;have H2:=hQd h2;have HK_:=hQd hk;have HIL2:=hQd (show d.length≤140737488355328 by omega);have HFT:=hQd (zC1 tm oM);have hl1:o1.length=o.length+(d.length+2):=by rw[←h1,Jc];unfold encF;rw[Jc,zAb];simp only;omega
 have hl2:o2.length=o1.length+4:=by rw[←h2,Jc,zAb];rfl
 have HL:=hQd (show o.length≤100000000000000 by omega);have HL1:=hQd (show o1.length≤100000000000000 by omega);have HL2:=hQd (show o2.length≤100000000 by omega);have HT:=hQd (show((0:Int)==0)=true by rfl);have HO:=hQd (show(if (0:Int)=0 then(⟨o,0⟩:OutS)else(⟨o,0⟩:OutS).fail 0)=⟨o,0⟩ by rfl);have H3:=hQd h3;have H4:=hQd h4;have HF8:=hQd (zFs p oM);have HF2:=hQd (zC2 e oM);clear h h1 h2 hk hp hl hl1 hl2 hok hil hri hfi hrg h3 h4;go_enter Tryz.func98,Tryz.ntmps98
 go_wp2_with (first
  |(go_at_call 154;(with_reducible refine(zFd b _ _ bB vB 1 nl d tm p e _ _ HK_.out HIL2.out HT.out HO.out H.out).mono ?_);rintro e_ wn ⟨rfl,h⟩;obtain⟨d0,d1,d2,d3,d4⟩:=uR5 h.p2;have dv:=h.p1.rawCell 0;simp at d0 d1 d2 d3 d4 dv;replace H:=hQd h;clear h)
  |(go_at_call 96;(with_reducible refine(zDQ b o o1 nl d H1.out HRI.out HFI.out HIL.out HL.out H.out).mono ?_);rintro e_ wn ⟨rfl,h⟩;obtain⟨d0,d1,d2,d3,d4⟩:=uR5 h.p2;have dv:=h.p1.rawCell 0;simp at d0 d1 d2 d3 d4 dv;replace H:=hQd h;clear h)
  |(go_at_call 50;(with_reducible refine(zBH b o1 o2 tm 4 H2.out HFT.out HL1.out H.out).mono ?_);rintro e_ wn ⟨rfl,h⟩;obtain⟨d0,d1,d2,d3,d4⟩:=uR5 h.p2;have dv:=h.p1.rawCell 0;simp at d0 d1 d2 d3 d4 dv;replace H:=hQd h;clear h)
  |(go_at_call 157;(with_reducible refine(zCM b o2 o3 o4 p e H3.out H4.out HF8.out HF2.out HL2.out H.out).mono ?_);rintro e_ wn ⟨rfl,h⟩;obtain⟨d0,d1,d2,d3,d4⟩:=uR5 h.p2;have dv:=h.p1.rawCell 0;simp at d0 d1 d2 d3 d4 dv;replace H:=hQd h;clear h))
 go_end0;exact⟨rfl,H.out.p2.drop.p1.drop⟩
theorem zJK(b:Nat)(o:Bs)(r:Int)(v:Int)(nl:Bool)(d:Bs)(tm p e:Int)(hr:begE v nl d tm p e=r)(h0:r≠0)(hil:d.length≤140737488355328)(h:St W0 w K (.out b ⟨o,0⟩::L)):
 Calls Jb 98 #[.agg #[U nl,Z (bb d),I O tm,I O p,I O e],zAc b,I O v] w fun en w'=>en=Y (.tuple #[])∧St W0 w' K (.out b ⟨o,r⟩::L):=by
 obtain⟨bB,hbB⟩:=eX w.heap.size;obtain⟨vB,hvB⟩:=eX (bB+1);have g1:=(h.allocRaw #[U nl,Z (bb d),I O tm,I O p,I O e] 27).allocRaw #[I O v] 3;simp only[World.size_alloc,hbB,hvB]at g1;have H:=hQd (show St W0 _ K (.out b ⟨o,0⟩::.raw vB #[I O v] 3::.raw bB #[U nl,Z (bb d),I O tm,I O p,I O e] 27::L)from g1.p2);clear g1;have HK_:=hQd hr;have HIL2:=hQd hil;have g0:(r==0)=false:=by rw[beq_eq_false_iff_ne];exact h0
 have HT:=hQd g0;have HO:=hQd (show(if r=0 then(⟨o,0⟩:OutS)else(⟨o,0⟩:OutS).fail r)=⟨o,r⟩ by rw[if_neg h0];rfl);clear h hr hil h0 g0;go_enter Tryz.func98,Tryz.ntmps98
 go_wp2_with (first
  |(go_at_call 154;(with_reducible refine(zFd b _ _ bB vB v nl d tm p e _ _ HK_.out HIL2.out HT.out HO.out H.out).mono ?_);rintro e_ wn ⟨rfl,h⟩;obtain⟨d0,d1,d2,d3,d4⟩:=uR5 h.p2;have dv:=h.p1.rawCell 0;simp at d0 d1 d2 d3 d4 dv;replace H:=hQd h;clear h))
 (try simp only[Exit.inBlock,Exit.then]);refine bodyPost_ret (results_none rfl _ _ _) rfl ?_
 exact⟨rfl,H.out.p2.drop.p1.drop⟩
theorem zLF(b:Nat)(o o1 o2 o3 o4:Bs)(d:Bs)(p e:Int)(l:List (TopS×Value))(q:Option Addr)(cap:Nat)(h1:o++encF 2 ⟨false,d⟩=o1)(h2:o1++zAa p (8:Int).toNat=o2)(h3:o2++zAa e (2:Int).toNat=o3)(h4:o3++zA3 (l.map (·.1))=o4)(hk0:addE d p e (l.map (·.1))=0)(hp:p<9223372036854775808)(hl:o.length≤100000)(hf:FewT l)(hfit:zC7 (l.map (·.1)))(hk:K.has (Know.tops (V q l.length cap) l))(h:St W0 w K (.out b ⟨o,0⟩::L)):
 Calls Jb 99 #[.agg #[Z (bb d),I O p,I O e,V q l.length cap],zAc b] w fun en w'=>en=Y (.tuple #[])∧St W0 w' K (.out b ⟨o4,0⟩::L):=by
 have hok:=zFr hk0;have hcw:=zCq hok.1;have hw:=zDR hcw.2;have hil:=((zDg d).1 hcw.1).2;have H:=hQd (h.allocRaw #[Z (bb d),I O p,I O e,V q l.length cap] 30);have H1:=hQd h1;have H2:=hQd h2;have H3:=hQd h3;have H4:=hQd h4;have HK0:=hQd hk0;have HK:=hQd hk;have HF:=hQd hf;have HFIT:=hQd hfit;have HIL:=hQd hil;have HIL2:=hQd (show d.length≤140737488355328 by omega);have HF8:=hQd (zFs p oM);have HF2:=hQd (zC2 e oM);have hl1:o1.length=o.length+(d.length+2):=by rw[←h1,Jc];unfold encF;rw[Jc,zAb];simp only;omega
 have hl2:o2.length=o1.length+8:=by rw[←h2,Jc,zAb];rfl
 have hl3:o3.length=o2.length+2:=by rw[←h3,Jc,zAb];rfl
 have HL:=hQd (show o.length≤100000000000000 by omega);have HL1:=hQd (show o1.length≤100000000 by omega);have HL3:=hQd (show o3.length≤1000000 by omega);have HT:=hQd (show((0:Int)==0)=true by rfl);have HO:=hQd (show(if (0:Int)=0 then(⟨o,0⟩:OutS)else(⟨o,0⟩:OutS).fail 0)=⟨o,0⟩ by rfl);clear h h1 h2 h3 h4 hk0 hk hf hfit hil hp hl hl1 hl2 hl3 hw hok hcw;go_enter Tryz.func99,Tryz.ntmps99
 go_wp2_with (first
  |(go_at_call 154;(with_reducible refine(zJa b _ _ d p e l q cap _ _ HK0.out HIL2.out HF.out HT.out HO.out HK.out H.out.p1).mono ?_);rintro e_ wn ⟨rfl,h⟩;obtain⟨d0,d1,d2,d3⟩:=uR4 h.p1;simp at d0 d1 d2 d3;replace H:=hQd h;clear h)
  |(go_at_call 89;(with_reducible refine(zCY b o o1 d H1.out HIL.out HL.out H.out).mono ?_);rintro e_ wn ⟨rfl,h⟩;obtain⟨d0,d1,d2,d3⟩:=uR4 h.p1;simp at d0 d1 d2 d3;replace H:=hQd h;clear h)
  |(go_at_call 157;(with_reducible refine(zCM b o1 o2 o3 p e H2.out H3.out HF8.out HF2.out HL1.out H.out).mono ?_);rintro e_ wn ⟨rfl,h⟩;obtain⟨d0,d1,d2,d3⟩:=uR4 h.p1;simp at d0 d1 d2 d3;replace H:=hQd h;clear h)
  |(go_at_call 92;(with_reducible refine(zCL b o3 o4 l q cap H4.out HL3.out HFIT.out HK.out H.out).mono ?_);rintro e_ wn ⟨rfl,h⟩;obtain⟨d0,d1,d2,d3⟩:=uR4 h.p1;simp at d0 d1 d2 d3;replace H:=hQd h;clear h))
 go_end0;exact⟨rfl,H.out.p1.drop⟩
theorem zJP(b:Nat)(o:Bs)(r:Int)(d:Bs)(p e:Int)(l:List (TopS×Value))(q:Option Addr)(cap:Nat)(hr:addE d p e (l.map (·.1))=r)(h0:r≠0)(hil:d.length≤140737488355328)(hf:FewT l)(hk:K.has (Know.tops (V q l.length cap) l))(h:St W0 w K (.out b ⟨o,0⟩::L)):
 Calls Jb 99 #[.agg #[Z (bb d),I O p,I O e,V q l.length cap],zAc b] w fun en w'=>en=Y (.tuple #[])∧St W0 w' K (.out b ⟨o,r⟩::L):=by
 have H:=hQd (h.allocRaw #[Z (bb d),I O p,I O e,V q l.length cap] 30);have HR:=hQd hr;have HK:=hQd hk;have HF:=hQd hf;have HIL2:=hQd hil;have g0:(r==0)=false:=by rw[beq_eq_false_iff_ne];exact h0
 have HT:=hQd g0;have HO:=hQd (show(if r=0 then(⟨o,0⟩:OutS)else(⟨o,0⟩:OutS).fail r)=⟨o,r⟩ by rw[if_neg h0];rfl);clear h hr hk hf hil h0 g0;go_enter Tryz.func99,Tryz.ntmps99;go_wp2_with (go_at_call 154;(with_reducible refine(zJa b _ _ d p e l q cap _ _ HR.out HIL2.out HF.out HT.out HO.out HK.out H.out.p1).mono ?_);rintro e_ wn ⟨rfl,h⟩;obtain⟨d0,d1,d2,d3⟩:=uR4 h.p1;simp at d0 d1 d2 d3;replace H:=hQd h;clear h)
 (try simp only[Exit.inBlock,Exit.then]);refine bodyPost_ret (results_none rfl _ _ _) rfl ?_
 exact⟨rfl,H.out.p1.drop⟩
theorem zJq(b:Nat)(o:Bs)(r:Int)(id:Bs)(p e:Int)(c:Bool)(hr:chkW id p e=r)(h0:r≠0)(hil:id.length≤140737488355328)(h:St W0 w K (.out b ⟨o,0⟩::L)):
 Calls Jb 100 #[.agg #[Z (bb id),I O p,I O e,U c],zAc b] w fun en w'=>en=Y (.tuple #[])∧St W0 w' K (.out b ⟨o,r⟩::L):=by
 have H:=hQd (h.allocRaw #[Z (bb id),I O p,I O e,U c] 32);have HR:=hQd hr;have HIL2:=hQd hil;have g0:(r==0)=false:=by rw[beq_eq_false_iff_ne];exact h0
 have HT:=hQd g0;have HO:=hQd (show(if r=0 then(⟨o,0⟩:OutS)else(⟨o,0⟩:OutS).fail r)=⟨o,r⟩ by rw[if_neg h0];rfl);clear h hr hil h0 g0;go_enter Tryz.func100,Tryz.ntmps100;go_wp2_with (go_at_call 154;(with_reducible refine(zI9 b _ _ id p e c _ _ HR.out HT.out HO.out HIL2.out H.out.p1).mono ?_);rintro e_ wn ⟨rfl,h⟩;obtain⟨d0,d1,d2,d3⟩:=uR4 h.p1;simp at d0 d1 d2 d3;replace H:=hQd h;clear h)
 (try simp only[Exit.inBlock,Exit.then]);refine bodyPost_ret (results_none rfl _ _ _) rfl ?_
 exact⟨rfl,H.out.p1.drop⟩
theorem zPH(p:Nat)(i j:InS)(y:HeadS)(hx:i.head=(y,j))(hk:K.has Know.reqs)(h:St W0 w K (.inp p i::L)):
 Calls Jb 68 #[zAe p] w fun en w'=>en=Y (.agg #[I O y.kind,I O y.ver,I O y.num,U y.cli.null,Z (bb y.cli.data)])∧St W0 w' K (.inp p j::L):=by
 have e2:(zJk i).2=j:=congrArg Prod.snd hx;have e1:(if j.err=0 then(⟨(zME i).1,(zJl i).1,(zOE i).1,⟨(zJk i).1.null,(zJk i).1.data⟩⟩:HeadS)else HeadS.z)=y:=by rw[←e2];exact congrArg Prod.fst hx
 exact zRB p i (zME i).2 (zJl i).2 (zR6 i) (zOE i).2 j (zME i).1 (zJl i).1 (zOE i).1 (zJk i).1.null (zJk i).1.data (zQq i) j.err rfl rfl rfl rfl rfl (by rw[←e2];rfl) rfl y e1 hk h
theorem zOf(p:Nat)(h0:HeadS)(o2:OutS)(vd:ByteArray)(hv:vd=bb h0.cli.data)(hx:(⟨[],0⟩:OutS).head h0=o2)(hR:h0.R)(hk:K.has Know.reqs)(h:St W0 w K (.out p ⟨[],0⟩::L)):
 Calls Jb 47 #[zAc p,.agg #[I O h0.kind,I O h0.ver,I O h0.num,U h0.cli.null,Z vd]] w fun en w'=>en=Y (.tuple #[])∧St W0 w' K (.out p o2::L):=by
 subst hv;obtain⟨a,v,n,⟨u,d⟩⟩:=h0;obtain⟨ra,rv,rn⟩:=hR
 by_cases he:zAq ⟨a,v,n,⟨u,d⟩⟩=0
 ·obtain⟨g0,g1,g2,g3,g4⟩:=zBe _ he;simp only at g1 g2 g3 g4 ra rv rn;rw[g0]at hx;subst hx;obtain⟨s1,s2⟩:=zCh _ _ g1
  have hb:fits (⟨u,d⟩:BlobS).len 2:=by
   exact zq21
  have e1:(⟨[],0⟩:OutS).int a 2=⟨zAa a 2,0⟩:=by unfold OutS.int;rw[if_pos (zBL _ s1)];rfl
  have e2:(⟨zAa a 2,0⟩:OutS).int v 2=⟨zAa a 2++zAa v 2,0⟩:=by unfold OutS.int;rw[if_pos (zBL _ ⟨s2.1,oM⟩)];rfl
  have e3:(⟨zAa a 2++zAa v 2,0⟩:OutS).int n 4=⟨zAa a 2++zAa v 2++zAa n 4,0⟩:=by unfold OutS.int;rw[if_pos g2];rfl
  have e4:(⟨zAa a 2++zAa v 2++zAa n 4,0⟩:OutS).putFixed ⟨u,d⟩ 2=⟨zAl ⟨a,v,n,⟨u,d⟩⟩,0⟩:=by
   unfold OutS.putFixed OutS.int OutS.putData;rw[if_pos hb,g3];simp[OutS.put,zAl,encF,Je]
  exact zKm p _ _ _ _ _ a v n u d he e1 e2 e3 e4 ra rv rn (by simp[OutS.ok]) (by simp[OutS.ok]) (by simp[OutS.ok]) (by simp[OutS.ok];omega) hk h
 ·have hx2:(⟨[],0⟩:OutS).fail (zAq ⟨a,v,n,⟨u,d⟩⟩)=o2:=by rw[←hx,zNA _ he];rfl
  exact zIK p _ o2 a v n u d _ rfl he hx2 rn hk h
theorem zHT(p:Nat)(a v n:Int)(u:Bool)(d:Bs)(o2:OutS)(hx:(⟨[],0⟩:OutS).head ⟨a,v,n,⟨u,d⟩⟩=o2)(hR:HeadS.R ⟨a,v,n,⟨u,d⟩⟩)(hk:K.has Know.reqs)(h:St W0 w K (.out p ⟨[],0⟩::L)):
 Calls Jb 47 #[zAc p,.agg #[I O a,I O v,I O n,U u,Z (bb d)]] w fun en w'=>en=Y (.tuple #[])∧St W0 w' K (.out p o2::L):=zOf p ⟨a,v,n,⟨u,d⟩⟩ o2 _ rfl hx hR hk h
theorem zKn(p:Nat)(i j:InS)(a v n:Int)(u:Bool)(d:Bs)(hx:i.head=(⟨a,v,n,⟨u,d⟩⟩,j))(hk:K.has Know.reqs)(h:St W0 w K (.inp p i::L)):
 Calls Jb 68 #[zAe p] w fun en w'=>en=Y (.agg #[I O a,I O v,I O n,U u,Z (bb d)])∧St W0 w' K (.inp p j::L):=zPH p i j ⟨a,v,n,⟨u,d⟩⟩ hx hk h
set_option maxHeartbeats 8000000
variable {W0 w:World}{K:Know}{L:List Res}
theorem zSU(p:Nat)(e e2 s:Bs)(he:e++s=e2)(hs:s.length≤500000)(hl:e.length≤500000)(h:St W0 w K (.out p ⟨e,0⟩::L)):
 Calls Jb 51 #[zAc p,Z (bb s)] w fun en w'=>en=Y (.tuple #[])∧St W0 w' K (.out p ⟨e2,0⟩::L):=by
 have h2:=zPv p ⟨e,0⟩ s h zq36;have e3:(⟨e,0⟩:OutS).put s=⟨e2,0⟩:=by unfold OutS.put;rw[if_pos rfl,←he]
 rw[e3]at h2;exact h2
theorem zPu(p:Nat)(o:OutS)(e:Int)(hx:o.text=([],e))(h:St W0 w K (.out p o::L)):
 Calls Jb 49 #[zAc p] w fun en w'=>en=Y (.tuple #[Z ⟨#[]⟩,I O e])∧St W0 w' K (.out p o::L):=by
 have:=zGa p o h;rw[hx]at this;exact this
theorem headR{k v num:Int}{b:BlobS}(hh:zAq ⟨k,v,num,b⟩=0):HeadS.R ⟨k,v,num,b⟩:=by
 obtain⟨_,h1,h2,_,_⟩:=zBe _ hh;obtain⟨h3,h4⟩:=zCh k v h1;obtain⟨_,_,h5,h6⟩:fits num 4:=h2;have h5: -(128*256 ^ 3:Int)≤num:=h5;have h6:num<(128*256 ^ 3:Int):=h6;refine⟨by simp only;omega,by simp only;omega,?_⟩;simp only
 omega
theorem zQv(k v num:Int)(u:Bool)(cs:Bs)(y5 y6 y7 y8 y9 y10 y11 y12 y13 y14 y15 y16 y17 y18 y19 y20 y21 y22 y23:Value)(t s:Bs)(hh:zAq ⟨k,v,num,⟨u,cs⟩⟩=0)(hs:zAa (t.length:Int) (4:Int).toNat++t=s)(ht:t.length≤500000)(hk:K.has Know.reqs)(hw:∀(po:Nat) (w:World) (L:List Res),St W0 w K (.out po ⟨zAl ⟨k,v,num,⟨u,cs⟩⟩,0⟩::L)→Calls Jb 48 #[zAc po,.agg #[I O k,I O v,I O num,U u,Z (bb cs),y5,y6,y7,y8,y9,y10,y11,y12,y13,y14,y15,y16,y17,y18,y19,y20,y21,y22,y23]] w fun en w'=>en=Y (.tuple #[])∧St W0 w' K (.out po ⟨t,0⟩::L))(h:St W0 w K L):
 Calls Jb 12 #[.agg #[I O k,I O v,I O num,U u,Z (bb cs),y5,y6,y7,y8,y9,y10,y11,y12,y13,y14,y15,y16,y17,y18,y19,y20,y21,y22,y23]] w fun en w'=>en=Y (.tuple #[Z (bb s),I O 0])∧St W0 w' K L:=by
 obtain⟨rb,hrb⟩:=eX w.heap.size;obtain⟨ob,hob⟩:=eX (rb+1);have g1:=(h.allocRaw #[I O k,I O v,I O num,U u,Z (bb cs),y5,y6,y7,y8,y9,y10,y11,y12,y13,y14,y15,y16,y17,y18,y19,y20,y21,y22,y23] 38).allocOut;simp only[World.size_alloc,hrb,hob]at g1;obtain⟨z0,z1,z2,z3,z4⟩:=uR5 g1.p1;simp at z0 z1 z2 z3 z4;have hlt:(t.length:Int)≤500000:=by omega
 obtain⟨e1,he1⟩:=eX (([]:Bs)++zAa (t.length:Int) (4:Int).toNat);have he1l:e1.length=4:=by rw[←he1,List.nil_append,zAb];rfl
 have H:=hQd g1;have HK:=hQd hk;have HW:=hQd hw;have HP:=hQd (zBe _ hh).1;have HR:=hQd (headR hh);have HE1:=hQd he1;have HF4:=hQd (zC3 (t.length:Int) oM);have HR8:=hQd (show -9223372036854775808≤(t.length:Int)∧(t.length:Int)<9223372036854775808 by omega);have HE2:=hQd (show e1++t=s by rw[←he1,List.nil_append];exact hs);have HT:=hQd (show t.length≤500000 by omega);have HL1:=hQd (show e1.length≤500000 by omega);clear h g1 hk hw hh hs ht he1 he1l;go_enter Tryz.func12,Tryz.ntmps12
 go_wp2_with (first
  |(refine wpList_load_mid rfl 38 (Operand.tmp 1) rfl rb 0 rfl [I O k,I O v,I O num,U u,Z (bb cs),y5,y6,y7,y8,y9,y10,y11,y12,y13,y14,y15,y16,y17,y18,y19,y20,y21,y22,y23] _ (St.range H.out.p1) Tryz.underlying38 rfl kR ?_)
  |(go_at_call 47;clear z0 z1 z2 z3 z4;(with_reducible refine(zHT ob k v num u cs _ HP.out HR.out HK.out H.out).zM ?_);clear H;intro wn H)
  |(go_at_call 48;(with_reducible refine(HW.out ob _ _ H.out).zM ?_);clear H;intro wn H)
  |(go_at_call 49;(with_reducible refine(zNt ob t H.out).mono ?_);rintro e_ wn ⟨rfl,h⟩;obtain⟨qb,hqb⟩:=eX wn.heap.size;have h:=h.allocOut;rw[hqb]at h;replace H:=hQd h;clear h)
  |(go_at_call 50;(with_reducible refine(zE9 _ [] e1 (t.length:Int) 4 HE1.out HF4.out HR8.out (Jd _) H.out).zM ?_);clear H;intro wn H)
  |(go_at_call 51;(with_reducible refine(zSU _ e1 s t HE2.out HT.out HL1.out H.out).zM ?_);clear H;intro wn H)
  |(go_at_call 49;(with_reducible refine(zNt _ s H.out).zM ?_);clear H;intro wn H))
 go_ret2;exact⟨rfl,H.out.drop.drop.drop⟩
theorem zEw(k v num:Int)(u:Bool)(cs:Bs)(y5 y6 y7 y8 y9 y10 y11 y12 y13 y14 y15 y16 y17 y18 y19 y20 y21 y22 y23:Value)(o1 o2:OutS)(e:Int)(h1:(⟨[],0⟩:OutS).head ⟨k,v,num,⟨u,cs⟩⟩=o1)(hR:HeadS.R ⟨k,v,num,⟨u,cs⟩⟩)(he:o2.err=e)(h0:e≠0)(hk:K.has Know.reqs)(hw:∀(po:Nat) (w:World) (L:List Res),St W0 w K (.out po o1::L)→Calls Jb 48 #[zAc po,.agg #[I O k,I O v,I O num,U u,Z (bb cs),y5,y6,y7,y8,y9,y10,y11,y12,y13,y14,y15,y16,y17,y18,y19,y20,y21,y22,y23]] w fun en w'=>en=Y (.tuple #[])∧St W0 w' K (.out po o2::L))(h:St W0 w K L):
 Calls Jb 12 #[.agg #[I O k,I O v,I O num,U u,Z (bb cs),y5,y6,y7,y8,y9,y10,y11,y12,y13,y14,y15,y16,y17,y18,y19,y20,y21,y22,y23]] w fun en w'=>en=Y (.tuple #[Z ⟨#[]⟩,I O e])∧St W0 w' K L:=by
 obtain⟨rb,hrb⟩:=eX w.heap.size;obtain⟨ob,hob⟩:=eX (rb+1);have g1:=(h.allocRaw #[I O k,I O v,I O num,U u,Z (bb cs),y5,y6,y7,y8,y9,y10,y11,y12,y13,y14,y15,y16,y17,y18,y19,y20,y21,y22,y23] 38).allocOut;simp only[World.size_alloc,hrb,hob]at g1;obtain⟨z0,z1,z2,z3,z4⟩:=uR5 g1.p1;simp at z0 z1 z2 z3 z4;have gz:(e==0)=false:=by rw[beq_eq_false_iff_ne];exact h0
 have H:=hQd g1;have HK:=hQd hk;have HW:=hQd hw;have HP:=hQd h1;have HR:=hQd hR;have HT:=hQd (show o2.text=([],e) by unfold OutS.text;rw[if_neg (by rw[he];exact h0),he]);clear h g1 hk hw h1 hR he h0;go_enter Tryz.func12,Tryz.ntmps12
 go_wp2_with (first
  |(refine wpList_load_mid rfl 38 (Operand.tmp 1) rfl rb 0 rfl [I O k,I O v,I O num,U u,Z (bb cs),y5,y6,y7,y8,y9,y10,y11,y12,y13,y14,y15,y16,y17,y18,y19,y20,y21,y22,y23] _ (St.range H.out.p1) Tryz.underlying38 rfl kR ?_)
  |(go_at_call 47;clear z0 z1 z2 z3 z4;(with_reducible refine(zHT ob k v num u cs _ HP.out HR.out HK.out H.out).zM ?_);clear H;intro wn H)
  |(go_at_call 48;(with_reducible refine(HW.out ob _ _ H.out).zM ?_);clear H;intro wn H)
  |(go_at_call 49;(with_reducible refine(zPu ob o2 e HT.out H.out).zM ?_);clear H;intro wn H))
 go_ret2;exact⟨rfl,H.out.drop.drop⟩
variable {W0 w:World}{K:Know}{L:List Res}
theorem zEU(po:Nat)(o o2:OutS)(v num:Int)(u:Bool)(cs:Bs)(nl:Bool)(d:Bs)(tm p e:Int)(y10 y11 y12 y13 y14 y15 y16 y17 y18 y19 y20 y21 y22 y23:Value)(hw:∀(w:World) (L:List Res),St W0 w K (.out po o::L)→Calls Jb 98 #[.agg #[U nl,Z (bb d),I O tm,I O p,I O e],zAc po,I O v] w fun en w'=>en=Y (.tuple #[])∧St W0 w' K (.out po o2::L))(h:St W0 w K (.out po o::L)):
 Calls Jb 48 #[zAc po,.agg #[I O 22,I O v,I O num,U u,Z (bb cs),U nl,Z (bb d),I O tm,I O p,I O e,y10,y11,y12,y13,y14,y15,y16,y17,y18,y19,y20,y21,y22,y23]] w fun en w'=>en=Y (.tuple #[])∧St W0 w' K (.out po o2::L):=by
 obtain⟨rb,hrb⟩:=eX w.heap.size;have g1:=(h.allocRaw #[I O 22,I O v,I O num,U u,Z (bb cs),U nl,Z (bb d),I O tm,I O p,I O e,y10,y11,y12,y13,y14,y15,y16,y17,y18,y19,y20,y21,y22,y23] 38).p1;rw[hrb]at g1;obtain⟨z0,z1⟩:=uR2 g1.p1;have z5:=g1.p1.rawCell 5;have z6:=g1.p1.rawCell 6;have z7:=g1.p1.rawCell 7;have z8:=g1.p1.rawCell 8;have z9:=g1.p1.rawCell 9;simp at z0 z1 z5 z6 z7 z8 z9;have H:=hQd g1;have HW:=hQd hw;clear h g1 hw;go_enter Tryz.func48,Tryz.ntmps48;go_wp2_with (go_at_call 98;(with_reducible refine(HW.out _ _ H.out).zM ?_);clear H;intro wn H);go_end0;exact⟨rfl,H.out.p1.drop⟩
theorem zIt(po:Nat)(o o2:OutS)(v num:Int)(u:Bool)(cs:Bs)(d:Bs)(p e:Int)(q:Option Addr)(n cap:Nat)(y5 y6 y7 y8 y9 y14 y15 y16 y17 y18 y19 y20 y21 y22 y23:Value)(hw:∀(w:World) (L:List Res),St W0 w K (.out po o::L)→Calls Jb 99 #[.agg #[Z (bb d),I O p,I O e,V q n cap],zAc po] w fun en w'=>en=Y (.tuple #[])∧St W0 w' K (.out po o2::L))(h:St W0 w K (.out po o::L)):
 Calls Jb 48 #[zAc po,.agg #[I O 24,I O v,I O num,U u,Z (bb cs),y5,y6,y7,y8,y9,Z (bb d),I O p,I O e,V q n cap,y14,y15,y16,y17,y18,y19,y20,y21,y22,y23]] w fun en w'=>en=Y (.tuple #[])∧St W0 w' K (.out po o2::L):=by
 obtain⟨rb,hrb⟩:=eX w.heap.size;have g1:=(h.allocRaw #[I O 24,I O v,I O num,U u,Z (bb cs),y5,y6,y7,y8,y9,Z (bb d),I O p,I O e,V q n cap,y14,y15,y16,y17,y18,y19,y20,y21,y22,y23] 38).p1;rw[hrb]at g1;have z0:=g1.p1.rawCell 0;have z10:=g1.p1.rawCell 10;have z11:=g1.p1.rawCell 11;have z12:=g1.p1.rawCell 12;have z13:=g1.p1.rawCell 13;simp at z0 z10 z11 z12 z13;have H:=hQd g1;have HW:=hQd hw;clear h g1 hw;go_enter Tryz.func48,Tryz.ntmps48;go_wp2_with (go_at_call 99;(with_reducible refine(HW.out _ _ H.out).zM ?_);clear H;intro wn H);go_end0;exact⟨rfl,H.out.p1.drop⟩
theorem zIs(po:Nat)(o o2:OutS)(v num:Int)(u:Bool)(cs:Bs)(d:Bs)(p e:Int)(c:Bool)(y5 y6 y7 y8 y9 y10 y11 y12 y13 y18 y19 y20 y21 y22 y23:Value)(hw:∀(w:World) (L:List Res),St W0 w K (.out po o::L)→Calls Jb 100 #[.agg #[Z (bb d),I O p,I O e,U c],zAc po] w fun en w'=>en=Y (.tuple #[])∧St W0 w' K (.out po o2::L))(h:St W0 w K (.out po o::L)):
 Calls Jb 48 #[zAc po,.agg #[I O 26,I O v,I O num,U u,Z (bb cs),y5,y6,y7,y8,y9,y10,y11,y12,y13,Z (bb d),I O p,I O e,U c,y18,y19,y20,y21,y22,y23]] w fun en w'=>en=Y (.tuple #[])∧St W0 w' K (.out po o2::L):=by
 obtain⟨rb,hrb⟩:=eX w.heap.size;have g1:=(h.allocRaw #[I O 26,I O v,I O num,U u,Z (bb cs),y5,y6,y7,y8,y9,y10,y11,y12,y13,Z (bb d),I O p,I O e,U c,y18,y19,y20,y21,y22,y23] 38).p1;rw[hrb]at g1;have z0:=g1.p1.rawCell 0;have z14:=g1.p1.rawCell 14;have z15:=g1.p1.rawCell 15;have z16:=g1.p1.rawCell 16;have z17:=g1.p1.rawCell 17;simp at z0 z14 z15 z16 z17;have H:=hQd g1;have HW:=hQd hw;clear h g1 hw;go_enter Tryz.func48,Tryz.ntmps48;go_wp2_with (go_at_call 100;(with_reducible refine(HW.out _ _ H.out).zM ?_);clear H;intro wn H);go_end0;exact⟨rfl,H.out.p1.drop⟩
theorem zIr(po:Nat)(o o2:OutS)(v num:Int)(u:Bool)(cs:Bs)(q:Option Addr)(n cap:Nat)(y5 y6 y7 y8 y9 y10 y11 y12 y13 y14 y15 y16 y17 y19 y20 y21 y22 y23:Value)(hw:∀(w:World) (L:List Res),St W0 w K (.out po o::L)→Calls Jb 101 #[zAc po,V q n cap,I O v] w fun en w'=>en=Y (.tuple #[])∧St W0 w' K (.out po o2::L))(h:St W0 w K (.out po o::L)):
 Calls Jb 48 #[zAc po,.agg #[I O 27,I O v,I O num,U u,Z (bb cs),y5,y6,y7,y8,y9,y10,y11,y12,y13,y14,y15,y16,y17,V q n cap,y19,y20,y21,y22,y23]] w fun en w'=>en=Y (.tuple #[])∧St W0 w' K (.out po o2::L):=by
 obtain⟨rb,hrb⟩:=eX w.heap.size;have g1:=(h.allocRaw #[I O 27,I O v,I O num,U u,Z (bb cs),y5,y6,y7,y8,y9,y10,y11,y12,y13,y14,y15,y16,y17,V q n cap,y19,y20,y21,y22,y23] 38).p1;rw[hrb]at g1;obtain⟨z0,z1⟩:=uR2 g1.p1;have z18:=g1.p1.rawCell 18;simp at z0 z1 z18;have H:=hQd g1;have HW:=hQd hw;clear h g1 hw;go_enter Tryz.func48,Tryz.ntmps48;go_wp2_with (go_at_call 101;(with_reducible refine(HW.out _ _ H.out).zM ?_);clear H;intro wn H);go_end0;exact⟨rfl,H.out.p1.drop⟩
theorem zIq(po:Nat)(o o2:OutS)(v num:Int)(u:Bool)(cs:Bs)(nl:Bool)(d:Bs)(ac tm:Int)(q:Option Addr)(n cap:Nat)(y5 y6 y7 y8 y9 y10 y11 y12 y13 y14 y15 y16 y17 y18:Value)(hw:∀(w:World) (L:List Res),St W0 w K (.out po o::L)→Calls Jb 97 #[.agg #[U nl,Z (bb d),I O ac,I O tm,V q n cap],zAc po,I O v] w fun en w'=>en=Y (.tuple #[])∧St W0 w' K (.out po o2::L))(h:St W0 w K (.out po o::L)):
 Calls Jb 48 #[zAc po,.agg #[I O 0,I O v,I O num,U u,Z (bb cs),y5,y6,y7,y8,y9,y10,y11,y12,y13,y14,y15,y16,y17,y18,U nl,Z (bb d),I O ac,I O tm,V q n cap]] w fun en w'=>en=Y (.tuple #[])∧St W0 w' K (.out po o2::L):=by
 obtain⟨rb,hrb⟩:=eX w.heap.size;have g1:=(h.allocRaw #[I O 0,I O v,I O num,U u,Z (bb cs),y5,y6,y7,y8,y9,y10,y11,y12,y13,y14,y15,y16,y17,y18,U nl,Z (bb d),I O ac,I O tm,V q n cap] 38).p1;rw[hrb]at g1;obtain⟨z0,z1⟩:=uR2 g1.p1;have z19:=g1.p1.rawCell 19;have z20:=g1.p1.rawCell 20;have z21:=g1.p1.rawCell 21;have z22:=g1.p1.rawCell 22;have z23:=g1.p1.rawCell 23;simp at z0 z1 z19 z20 z21 z22 z23;have H:=hQd g1;have HW:=hQd hw;clear h g1 hw;go_enter Tryz.func48,Tryz.ntmps48;go_wp2_with (go_at_call 97;(with_reducible refine(HW.out _ _ H.out).zM ?_);clear H;intro wn H);go_end0;exact⟨rfl,H.out.p1.drop⟩
theorem zRi(po:Nat)(o:OutS)(k:Int)(h0:k≠0)(h1:k≠22)(h2:k≠24)(h3:k≠26)(h4:k≠27)(y1 y2 y3 y4 y5 y6 y7 y8 y9 y10 y11 y12 y13 y14 y15 y16 y17 y18 y19 y20 y21 y22 y23:Value)(h:St W0 w K (.out po o::L)):
 Calls Jb 48 #[zAc po,.agg #[I O k,y1,y2,y3,y4,y5,y6,y7,y8,y9,y10,y11,y12,y13,y14,y15,y16,y17,y18,y19,y20,y21,y22,y23]] w fun en w'=>en=Y (.tuple #[])∧St W0 w' K (.out po o::L):=by
 obtain⟨rb,hrb⟩:=eX w.heap.size;have g1:=(h.allocRaw #[I O k,y1,y2,y3,y4,y5,y6,y7,y8,y9,y10,y11,y12,y13,y14,y15,y16,y17,y18,y19,y20,y21,y22,y23] 38).p1;rw[hrb]at g1;have z0:=g1.p1.rawCell 0;simp at z0;have n0:(k==0)=false:=beq_false_of_ne h0;have n22:(k==22)=false:=beq_false_of_ne h1;have n24:(k==24)=false:=beq_false_of_ne h2;have n26:(k==26)=false:=beq_false_of_ne h3;have n27:(k==27)=false:=beq_false_of_ne h4;have H:=hQd g1;clear h g1;go_enter Tryz.func48,Tryz.ntmps48;go_wp2_with fail;go_end0;exact⟨rfl,H.out.p1.drop⟩
variable {W0 w:World}{K:Know}{L:List Res}
theorem OutS.fixed_stuck{o:OutS}(h:o.err≠0)(b:BlobS)(n:Int):o.putFixed b n=o:=by
 unfold OutS.putFixed OutS.putData;rw[OutS.int_stuck h]
 split
 ·exact OutS.put_err h _
 ·rw[OutS.fail_stuck h];exact OutS.put_err h _
theorem zBo(p:Nat)(o:OutS)(n size:Int)(hs:o.err≠0)(hr:o.ok 1000000)(hn: -9223372036854775808≤n∧n<9223372036854775808)(h:St W0 w K (.out p o::L)):
 Calls Jb 50 #[zAc p,I O n,I O size] w fun en w'=>en=Y (.tuple #[])∧St W0 w' K (.out p o::L):=by
 have:=zGb p o n size hn h (by unfold OutS.ok at hr ⊢;omega)
 rwa [OutS.int_stuck hs]at this
theorem zFN(p:Nat)(o:OutS)(nl:Bool)(d:Bs)(n:Int)(hs:o.err≠0)(hr:o.ok 1000000)(hd:d.length≤900000)(h:St W0 w K (.out p o::L)):
 Calls Jb 96 #[zAc p,.agg #[U nl,Z (bb d)],I O n] w fun en w'=>en=Y (.tuple #[])∧St W0 w' K (.out p o::L):=by
 have:=zBb p o ⟨nl,d⟩ n h (by unfold OutS.ok at hr ⊢;simp only;omega)
 rwa [OutS.fixed_stuck hs]at this
theorem zIG(p:Nat)(o:OutS)(d:Bs)(hs:o.err≠0)(hr:o.ok 1000000)(hd:d.length≤900000)(h:St W0 w K (.out p o::L)):
 Calls Jb 89 #[zAc p,Z (bb d)] w fun en w'=>en=Y (.tuple #[])∧St W0 w' K (.out p o::L):=by
 have:=zDr p o d h (by unfold OutS.ok at hr ⊢;omega);unfold OutS.putText at this
 rwa [OutS.fixed_stuck hs]at this
theorem zEg(b:Nat)(o:OutS)(p e:Int)(hs:o.err≠0)(hr:o.ok 1000000)(hp: -9223372036854775808≤p∧p<9223372036854775808)(he: -9223372036854775808≤e∧e<9223372036854775808)(h:St W0 w K (.out b o::L)):
 Calls Jb 157 #[zAc b,I O p,I O e] w fun en w'=>en=Y (.tuple #[])∧St W0 w' K (.out b o::L):=by
 have H:=hQd h;have HS:=hQd hs;have HR:=hQd hr;have HP:=hQd hp;have HE:=hQd he;clear h hs hr hp he;go_enter Tryz.func157,Tryz.ntmps157
 go_wp2_with (first
  |(go_at_call 50;(with_reducible refine(zBo b o p 8 HS.out HR.out HP.out H.out).zM ?_);clear H;intro wn H)
  |(go_at_call 50;(with_reducible refine(zBo b o e 2 HS.out HR.out HE.out H.out).zM ?_);clear H;intro wn H))
 go_end0;exact⟨rfl,H.out⟩
theorem zJF(b:Nat)(o:OutS)(v:Int)(hv:v≠1)(nl:Bool)(d:Bs)(tm p e:Int)(hs:o.err≠0)(hr:o.ok 1000000)(hd:d.length≤140737488355328)(hk:begE v nl d tm p e=0)(hp:p<9223372036854775808)(h:St W0 w K (.out b o::L)):
 Calls Jb 98 #[.agg #[U nl,Z (bb d),I O tm,I O p,I O e],zAc b,I O v] w fun en w'=>en=Y (.tuple #[])∧St W0 w' K (.out b o::L):=by
 obtain⟨bB,hbB⟩:=eX w.heap.size;obtain⟨vB,hvB⟩:=eX (bB+1);have g1:=(h.allocRaw #[U nl,Z (bb d),I O tm,I O p,I O e] 27).allocRaw #[I O v] 3;simp only[World.size_alloc,hbB,hvB]at g1;have H:=hQd (show St W0 _ K (.out b o::.raw vB #[I O v] 3::.raw bB #[U nl,Z (bb d),I O tm,I O p,I O e] 27::L)from g1.p2);have hok:=zCs hk;obtain⟨hil,_,_⟩:=zEt hok.1;have hrg:=zDS hok.2.2;have ev:(v==1)=false:=by rw[beq_eq_false_iff_ne];exact hv
 have HK_:=hQd hk;have HIL2:=hQd hd;have HS:=hQd hs;have HR:=hQd hr;have HD:=hQd (show d.length≤900000 by omega);have HT:=hQd (show((0:Int)==0)=true by rfl);have HO:=hQd (show(if (0:Int)=0 then o else o.fail 0)=o by rfl);have HTM:=hQd (show -9223372036854775808≤tm∧tm<9223372036854775808 by omega);have HP:=hQd (show -9223372036854775808≤p∧p<9223372036854775808 by omega);have HE:=hQd (show -9223372036854775808≤e∧e<9223372036854775808 by omega);clear h g1 hs hr hd hk hp hok hil hrg;go_enter Tryz.func98,Tryz.ntmps98
 go_wp2_with (first
  |(go_at_call 154;(with_reducible refine(zFd b _ _ bB vB v nl d tm p e _ _ HK_.out HIL2.out HT.out HO.out H.out).mono ?_);rintro e_ wn ⟨rfl,h⟩;obtain⟨d0,d1,d2,d3,d4⟩:=uR5 h.p2;have dv:=h.p1.rawCell 0;simp at d0 d1 d2 d3 d4 dv;replace H:=hQd h;clear h)
  |(go_at_call 96;(with_reducible refine(zFN b o nl d 2 HS.out HR.out HD.out H.out).mono ?_);rintro e_ wn ⟨rfl,h⟩;obtain⟨d0,d1,d2,d3,d4⟩:=uR5 h.p2;have dv:=h.p1.rawCell 0;simp at d0 d1 d2 d3 d4 dv;replace H:=hQd h;clear h)
  |(go_at_call 50;(with_reducible refine(zBo b o tm 4 HS.out HR.out HTM.out H.out).mono ?_);rintro e_ wn ⟨rfl,h⟩;obtain⟨d0,d1,d2,d3,d4⟩:=uR5 h.p2;have dv:=h.p1.rawCell 0;simp at d0 d1 d2 d3 d4 dv;replace H:=hQd h;clear h)
  |(go_at_call 157;(with_reducible refine(zEg b o p e HS.out HR.out HP.out HE.out H.out).zM ?_);clear H;intro wn H))
 go_end0;exact⟨rfl,H.out.p2.drop.p1.drop⟩
theorem zJH(b:Nat)(o:OutS)(nl:Bool)(d:Bs)(tm p e:Int)(hs:o.err≠0)(hr:o.ok 1000000)(hd:d.length≤140737488355328)(hk:begE 1 nl d tm p e=0)(hp:p<9223372036854775808)(h:St W0 w K (.out b o::L)):
 Calls Jb 98 #[.agg #[U nl,Z (bb d),I O tm,I O p,I O e],zAc b,I O 1] w fun en w'=>en=Y (.tuple #[])∧St W0 w' K (.out b o::L):=by
 obtain⟨bB,hbB⟩:=eX w.heap.size;obtain⟨vB,hvB⟩:=eX (bB+1);have g1:=(h.allocRaw #[U nl,Z (bb d),I O tm,I O p,I O e] 27).allocRaw #[I O 1] 3;simp only[World.size_alloc,hbB,hvB]at g1;have H:=hQd (show St W0 _ K (.out b o::.raw vB #[I O 1] 3::.raw bB #[U nl,Z (bb d),I O tm,I O p,I O e] 27::L)from g1.p2);have hok:=zCs hk;obtain⟨hil,_,_⟩:=zEt hok.1;have hrg:=zDS hok.2.2;have HK_:=hQd hk;have HIL2:=hQd hd;have HS:=hQd hs;have HR:=hQd hr;have HD:=hQd (show d.length≤900000 by omega);have HT:=hQd (show((0:Int)==0)=true by rfl);have HO:=hQd (show(if (0:Int)=0 then o else o.fail 0)=o by rfl);have HTM:=hQd (show -9223372036854775808≤tm∧tm<9223372036854775808 by omega);have HP:=hQd (show -9223372036854775808≤p∧p<9223372036854775808 by omega);have HE:=hQd (show -9223372036854775808≤e∧e<9223372036854775808 by omega);clear h g1 hs hr hd hk hp hok hil hrg;go_enter Tryz.func98,Tryz.ntmps98
 go_wp2_with (first
  |(go_at_call 154;(with_reducible refine(zFd b _ _ bB vB 1 nl d tm p e _ _ HK_.out HIL2.out HT.out HO.out H.out).mono ?_);rintro e_ wn ⟨rfl,h⟩;obtain⟨d0,d1,d2,d3,d4⟩:=uR5 h.p2;have dv:=h.p1.rawCell 0;simp at d0 d1 d2 d3 d4 dv;replace H:=hQd h;clear h)
  |(go_at_call 96;(with_reducible refine(zFN b o nl d 2 HS.out HR.out HD.out H.out).mono ?_);rintro e_ wn ⟨rfl,h⟩;obtain⟨d0,d1,d2,d3,d4⟩:=uR5 h.p2;have dv:=h.p1.rawCell 0;simp at d0 d1 d2 d3 d4 dv;replace H:=hQd h;clear h)
  |(go_at_call 50;(with_reducible refine(zBo b o tm 4 HS.out HR.out HTM.out H.out).mono ?_);rintro e_ wn ⟨rfl,h⟩;obtain⟨d0,d1,d2,d3,d4⟩:=uR5 h.p2;have dv:=h.p1.rawCell 0;simp at d0 d1 d2 d3 d4 dv;replace H:=hQd h;clear h)
  |(go_at_call 157;(with_reducible refine(zEg b o p e HS.out HR.out HP.out HE.out H.out).zM ?_);clear H;intro wn H))
 go_end0;exact⟨rfl,H.out.p2.drop.p1.drop⟩
theorem zJG(b:Nat)(o:OutS)(r:Int)(v:Int)(nl:Bool)(d:Bs)(tm p e:Int)(hs:o.err≠0)(hr:begE v nl d tm p e=r)(h0:r≠0)(hil:d.length≤140737488355328)(h:St W0 w K (.out b o::L)):
 Calls Jb 98 #[.agg #[U nl,Z (bb d),I O tm,I O p,I O e],zAc b,I O v] w fun en w'=>en=Y (.tuple #[])∧St W0 w' K (.out b o::L):=by
 obtain⟨bB,hbB⟩:=eX w.heap.size;obtain⟨vB,hvB⟩:=eX (bB+1);have g1:=(h.allocRaw #[U nl,Z (bb d),I O tm,I O p,I O e] 27).allocRaw #[I O v] 3;simp only[World.size_alloc,hbB,hvB]at g1;have H:=hQd (show St W0 _ K (.out b o::.raw vB #[I O v] 3::.raw bB #[U nl,Z (bb d),I O tm,I O p,I O e] 27::L)from g1.p2);have HK_:=hQd hr;have HIL2:=hQd hil;have g0:(r==0)=false:=by rw[beq_eq_false_iff_ne];exact h0
 have HT:=hQd g0;have HO:=hQd (show(if r=0 then o else o.fail r)=o by rw[if_neg h0];exact OutS.fail_stuck hs r);clear h g1 hr hil h0 g0 hs;go_enter Tryz.func98,Tryz.ntmps98;go_wp2_with (go_at_call 154;(with_reducible refine(zFd b _ _ bB vB v nl d tm p e _ _ HK_.out HIL2.out HT.out HO.out H.out).mono ?_);rintro e_ wn ⟨rfl,h⟩;obtain⟨d0,d1,d2,d3,d4⟩:=uR5 h.p2;have dv:=h.p1.rawCell 0;simp at d0 d1 d2 d3 d4 dv;replace H:=hQd h;clear h)
 (try simp only[Exit.inBlock,Exit.then]);refine bodyPost_ret (results_none rfl _ _ _) rfl ?_
 exact⟨rfl,H.out.p2.drop.p1.drop⟩
variable {W0 w:World}{K:Know}{L:List Res}
theorem zF9(po:Nat)(o:OutS)(l:List (TopS×Value))(q:Option Addr)(cap:Nat)(hs:o.err≠0)(hr:o.ok 1000000)(hf:zC7 (l.map (·.1)))(hk:K.has (Know.tops (V q l.length cap) l))(h:St W0 w K (.out po o::L)):
  Calls Jb 92 #[zAc po,V q l.length cap] w fun en w'=>en=Y (.tuple #[])∧St W0 w' K (.out po o::L):=by
 have H:=hQd h;have HK:=hQd hk;have HS:=hQd hs;have HR:=hQd hr;have HF:=hQd hf;have hni:(l.length:Int)≤1000000:=by have:=hf.1;rw[Jj]at this;omega
 have HN:=hQd (show -9223372036854775808≤(l.length:Int)∧(l.length:Int)<9223372036854775808 by omega);clear h hk hs hr hf;go_enter Tryz.func92,Tryz.ntmps92;go_wp2_with (go_at_call 50;(with_reducible refine(zBo po o _ _ HS.out HR.out HN.out H.out).zM ?_);clear H;intro wn H);go_loopw [5,7,14,30] (fun _ _ iv _ wr=>∃k:Nat,k≤l.length∧iv=I O k∧St W0 wr K (.out po o::L)) (fun _ _ iv _ _=>l.length - (intOf iv).toNat)
 case atStart=>exact⟨0,Jd _,rfl,H.out⟩
 case round=>
  obtain⟨k,hkl,rfl,hst⟩:=hrel;clear H;have H:=hQd hst;clear hst
  by_cases hlt:k<l.length
  · as_aux_lemma=>
    obtain⟨b,off,hqq⟩:=zEX HK.out H.out oM;subst hqq;obtain⟨⟨⟨nm,ps⟩,vx⟩,hx⟩:∃x,l[k]=x:=⟨_,rfl⟩;obtain⟨c0,c1⟩:wr.cell? ⟨b,off+k*2,none⟩=some (Z (bb nm))∧wr.cell? ⟨b,off+k*2+1,none⟩=some vx:=zBT HK.out H.out k hlt _ hx;have hmem:((⟨nm,ps⟩:TopS),vx)∈l:=hx ▸ Ji hlt;have hxk:K.has (Know.flat RI vx 1 ps):=zB5 HK.out hmem;obtain⟨qx,capx,hvx⟩:=zAr hxk H.out;subst hvx;have HXK:=hQd hxk;have hmk:k<(l.map (·.1)).length:=by rw[Jj];exact hlt
    have hmg:(l.map (·.1))[k]=⟨nm,ps⟩:=by rw[List.getElem_map,hx]
    have hfx:(⟨nm,ps⟩:TopS).Fit:=HF.out.2 _ (hmg ▸ Ji hmk);have HPS:=hQd hfx.2.2;have hkn:(k:Int)<(l.length:Int):=by omega
    have hnl:(nm.length:Int)≤32767:=by have:=hfx.1;simp only at this;omega
    have HNM:=hQd (show nm.length≤900000 by omega);have hpl:(ps.length:Int)≤1000000:=by have:=hfx.2.1;simp only at this;omega
    have HPN:=hQd (show -9223372036854775808≤(ps.length:Int)∧(ps.length:Int)<9223372036854775808 by omega);obtain⟨tb,htb⟩:=eX wr.heap.size;have h:=(H.out.allocRaw #[Z (bb nm),V qx ps.length capx] 173).p1;rw[htb]at h;obtain⟨t0,t1⟩:=uR2 h.p1;simp at t0 t1
    have hp0:ps=[]∨∃pb poff,qx=some ⟨pb,poff,none⟩:=by
     by_cases hps:ps=[]
     · exact .inl hps
     · exact .inr (zD3 HXK.out H.out (List.length_pos_iff.2 hps))
    have HP0:=hQd hp0;clear H;have H:=hQd h;clear h hx hmem hxk hmk hmg hfx hp0
    go_wp2_with (first
  |(go_at_call 89;(with_reducible refine(zIG po o nm HS.out HR.out HNM.out H.out).mono ?_);rintro e_ wn ⟨rfl,h⟩;obtain⟨t0,t1⟩:=uR2 h.p1;simp at t0 t1;replace H:=hQd h;clear h)
  |(go_at_call 50;(with_reducible refine(zBo po o _ _ HS.out HR.out HPN.out H.out).mono ?_);rintro e_ wn ⟨rfl,h⟩;obtain⟨t0,t1⟩:=uR2 h.p1;simp at t0 t1;replace H:=hQd h;clear h))
    clear t0 t1;go_loopw [7,30] (fun _ jv wr=>∃j:Nat,j≤ps.length∧jv=I O j∧St W0 wr K (.out po o::.raw tb #[Z (bb nm),V qx ps.length capx] 173::L)) (fun _ jv _=>ps.length - (intOf jv).toNat)
    case atStart=>exact⟨0,Jd _,rfl,H.out⟩
    case round=>
     obtain⟨j,hjl,rfl,hst⟩:=hrel;clear H;have H:=hQd hst;clear hst
     by_cases hlj:j<ps.length
     · have hps:¬ps=[]:=by rintro rfl;simp at hlj
       rcases HP0.out with hps2|⟨pb,poff,hq⟩
       · exact absurd hps2 hps
       subst hq;have d0:=zCl HXK.out H.out j hlj;obtain⟨x,hx⟩:=eX (ps.getD j 0);rw[hx]at d0;have hxr:=HPS.out x (hx ▸ zNC ps j hlj);have HX:=hQd (show -9223372036854775808≤x∧x<9223372036854775808 by omega);have hji:(j:Int)<(ps.length:Int):=by omega
       clear hx hps hxr;go_wp2_with (go_at_call 50;(with_reducible refine(zBo po o x _ HS.out HR.out HX.out H.out).zM ?_);clear H;intro wn H);go_roundw
       case rel=>exact⟨j+1,hlj,by go_num,H.out⟩
       case measure=>first|(simp[intOf];done)|(simp[intOf];omega)
     · obtain rfl:j=ps.length:=by omega
       go_wp2;go_roundw
       case rel=>exact⟨k+1,hlt,by go_num,H.out.p1.drop⟩
       case measure=>first|(simp[intOf];done)|(simp[intOf];omega)
  · obtain rfl:k=l.length:=by omega
    go_wp2;go_end0;exact⟨rfl,H.out⟩
theorem zJO(b:Nat)(o:OutS)(r:Int)(d:Bs)(p e:Int)(l:List (TopS×Value))(q:Option Addr)(cap:Nat)(hs:o.err≠0)(hr:addE d p e (l.map (·.1))=r)(h0:r≠0)(hil:d.length≤140737488355328)(hf:FewT l)(hk:K.has (Know.tops (V q l.length cap) l))(h:St W0 w K (.out b o::L)):
 Calls Jb 99 #[.agg #[Z (bb d),I O p,I O e,V q l.length cap],zAc b] w fun en w'=>en=Y (.tuple #[])∧St W0 w' K (.out b o::L):=by
 have H:=hQd (h.allocRaw #[Z (bb d),I O p,I O e,V q l.length cap] 30);have HR:=hQd hr;have HK:=hQd hk;have HF:=hQd hf;have HIL2:=hQd hil;have g0:(r==0)=false:=by rw[beq_eq_false_iff_ne];exact h0
 have HT:=hQd g0;have HO:=hQd (show(if r=0 then o else o.fail r)=o by rw[if_neg h0];exact OutS.fail_stuck hs r);clear h hr hk hf hil h0 g0 hs;go_enter Tryz.func99,Tryz.ntmps99;go_wp2_with (go_at_call 154;(with_reducible refine(zJa b _ _ d p e l q cap _ _ HR.out HIL2.out HF.out HT.out HO.out HK.out H.out.p1).mono ?_);rintro e_ wn ⟨rfl,h⟩;obtain⟨d0,d1,d2,d3⟩:=uR4 h.p1;simp at d0 d1 d2 d3;replace H:=hQd h;clear h)
 (try simp only[Exit.inBlock,Exit.then]);refine bodyPost_ret (results_none rfl _ _ _) rfl ?_
 exact⟨rfl,H.out.p1.drop⟩
theorem zLE(b:Nat)(o:OutS)(d:Bs)(p e:Int)(l:List (TopS×Value))(q:Option Addr)(cap:Nat)(hs:o.err≠0)(hr:o.ok 1000000)(hk0:addE d p e (l.map (·.1))=0)(hp:p<9223372036854775808)(hf:FewT l)(hfit:zC7 (l.map (·.1)))(hk:K.has (Know.tops (V q l.length cap) l))(h:St W0 w K (.out b o::L)):
 Calls Jb 99 #[.agg #[Z (bb d),I O p,I O e,V q l.length cap],zAc b] w fun en w'=>en=Y (.tuple #[])∧St W0 w' K (.out b o::L):=by
 have H:=hQd (h.allocRaw #[Z (bb d),I O p,I O e,V q l.length cap] 30);have hck:=zCq (zFr hk0).1;have hkr:=zH8 hck.1;have hwt:=zDR hck.2;have HK0:=hQd hk0;have HK:=hQd hk;have HF:=hQd hf;have HFIT:=hQd hfit;have HS:=hQd hs;have HR:=hQd hr;have HIL2:=hQd (show d.length≤140737488355328 by omega);have HD:=hQd (show d.length≤900000 by omega);have HT:=hQd (show((0:Int)==0)=true by rfl);have HO:=hQd (show(if (0:Int)=0 then o else o.fail 0)=o by rfl);have HP:=hQd (show -9223372036854775808≤p∧p<9223372036854775808 by omega);have HE:=hQd (show -9223372036854775808≤e∧e<9223372036854775808 by omega);clear h hs hr hk0 hp hf hfit hk hck hkr hwt;go_enter Tryz.func99,Tryz.ntmps99
 go_wp2_with (first
  |(go_at_call 154;(with_reducible refine(zJa b _ _ d p e l q cap _ _ HK0.out HIL2.out HF.out HT.out HO.out HK.out H.out.p1).mono ?_);rintro e_ wn ⟨rfl,h⟩;obtain⟨d0,d1,d2,d3⟩:=uR4 h.p1;simp at d0 d1 d2 d3;replace H:=hQd h;clear h)
  |(go_at_call 89;(with_reducible refine(zIG b o d HS.out HR.out HD.out H.out).mono ?_);rintro e_ wn ⟨rfl,h⟩;obtain⟨d0,d1,d2,d3⟩:=uR4 h.p1;simp at d0 d1 d2 d3;replace H:=hQd h;clear h)
  |(go_at_call 157;(with_reducible refine(zEg b o p e HS.out HR.out HP.out HE.out H.out).mono ?_);rintro e_ wn ⟨rfl,h⟩;obtain⟨d0,d1,d2,d3⟩:=uR4 h.p1;simp at d0 d1 d2 d3;replace H:=hQd h;clear h)
  |(go_at_call 92;(with_reducible refine(zF9 b o l q cap HS.out HR.out HFIT.out HK.out H.out).mono ?_);rintro e_ wn ⟨rfl,h⟩;obtain⟨d0,d1,d2,d3⟩:=uR4 h.p1;simp at d0 d1 d2 d3;replace H:=hQd h;clear h))
 go_end0;exact⟨rfl,H.out.p1.drop⟩
theorem zJp(b:Nat)(o:OutS)(r:Int)(id:Bs)(p e:Int)(c:Bool)(hs:o.err≠0)(hr:chkW id p e=r)(h0:r≠0)(hil:id.length≤140737488355328)(h:St W0 w K (.out b o::L)):
 Calls Jb 100 #[.agg #[Z (bb id),I O p,I O e,U c],zAc b] w fun en w'=>en=Y (.tuple #[])∧St W0 w' K (.out b o::L):=by
 have H:=hQd (h.allocRaw #[Z (bb id),I O p,I O e,U c] 32);have HR:=hQd hr;have HIL2:=hQd hil;have g0:(r==0)=false:=by rw[beq_eq_false_iff_ne];exact h0
 have HT:=hQd g0;have HO:=hQd (show(if r=0 then o else o.fail r)=o by rw[if_neg h0];exact OutS.fail_stuck hs r);clear h hr hil h0 g0 hs;go_enter Tryz.func100,Tryz.ntmps100;go_wp2_with (go_at_call 154;(with_reducible refine(zI9 b _ _ id p e c _ _ HR.out HT.out HO.out HIL2.out H.out.p1).mono ?_);rintro e_ wn ⟨rfl,h⟩;obtain⟨d0,d1,d2,d3⟩:=uR4 h.p1;simp at d0 d1 d2 d3;replace H:=hQd h;clear h)
 (try simp only[Exit.inBlock,Exit.then]);refine bodyPost_ret (results_none rfl _ _ _) rfl ?_
 exact⟨rfl,H.out.p1.drop⟩
theorem zJ6(b:Nat)(o:OutS)(hs:o.err≠0)(hr:o.ok 1000000)(h:St W0 w K (.out b o::L)):
 Calls Jb 160 #[zAc b,U true] w fun en w'=>en=Y (.tuple #[])∧St W0 w' K (.out b o::L):=by
 have hb:=zII b o 1 h (by unfold OutS.ok at hr ⊢;omega);rw[OutS.put_err hs]at hb;have HB:=hQd hb;clear h hs hr hb;go_enter Tryz.func160,Tryz.ntmps160;go_wp2_with (go_at_call 103;refine HB.out.mono ?_;rintro e_ wn ⟨rfl,h⟩;have H:=hQd h;clear h);go_end0;exact⟨rfl,H.out⟩
theorem zIH(b:Nat)(o:OutS)(hs:o.err≠0)(hr:o.ok 1000000)(h:St W0 w K (.out b o::L)):
 Calls Jb 160 #[zAc b,U false] w fun en w'=>en=Y (.tuple #[])∧St W0 w' K (.out b o::L):=by
 have hb:=zII b o 0 h (by unfold OutS.ok at hr ⊢;omega);rw[OutS.put_err hs]at hb;have HB:=hQd hb;clear h hs hr hb;go_enter Tryz.func160,Tryz.ntmps160;go_wp2_with (go_at_call 103;refine HB.out.mono ?_;rintro e_ wn ⟨rfl,h⟩;have H:=hQd h;clear h);go_end0;exact⟨rfl,H.out⟩
theorem zLQ(b:Nat)(o:OutS)(c:Bool)(hs:o.err≠0)(hr:o.ok 1000000)(h:St W0 w K (.out b o::L)):
 Calls Jb 160 #[zAc b,U c] w fun en w'=>en=Y (.tuple #[])∧St W0 w' K (.out b o::L):=by
 cases c with
 |true=>exact zJ6 b o hs hr h
 |false=>exact zIH b o hs hr h
theorem zK6(b:Nat)(o:OutS)(id:Bs)(p e:Int)(c:Bool)(hs:o.err≠0)(hr:o.ok 1000000)(hk0:chkW id p e=0)(hp:p<9223372036854775808)(h:St W0 w K (.out b o::L)):
 Calls Jb 100 #[.agg #[Z (bb id),I O p,I O e,U c],zAc b] w fun en w'=>en=Y (.tuple #[])∧St W0 w' K (.out b o::L):=by
 have H:=hQd (h.allocRaw #[Z (bb id),I O p,I O e,U c] 32);have hck:=zCq hk0;have hkr:=zH8 hck.1;have hwt:=zDR hck.2;have HK0:=hQd hk0;have HS:=hQd hs;have HR:=hQd hr;have HIL2:=hQd (show id.length≤140737488355328 by omega);have HD:=hQd (show id.length≤900000 by omega);have HT:=hQd (show((0:Int)==0)=true by rfl);have HO:=hQd (show(if (0:Int)=0 then o else o.fail 0)=o by rfl);have HP:=hQd (show -9223372036854775808≤p∧p<9223372036854775808 by omega);have HE:=hQd (show -9223372036854775808≤e∧e<9223372036854775808 by omega);clear h hs hr hk0 hp hck hkr hwt;go_enter Tryz.func100,Tryz.ntmps100
 go_wp2_with (first
  |(go_at_call 154;(with_reducible refine(zI9 b _ _ id p e c _ _ HK0.out HT.out HO.out HIL2.out H.out.p1).mono ?_);rintro e_ wn ⟨rfl,h⟩;obtain⟨d0,d1,d2,d3⟩:=uR4 h.p1;simp at d0 d1 d2 d3;replace H:=hQd h;clear h)
  |(go_at_call 89;(with_reducible refine(zIG b o id HS.out HR.out HD.out H.out).mono ?_);rintro e_ wn ⟨rfl,h⟩;obtain⟨d0,d1,d2,d3⟩:=uR4 h.p1;simp at d0 d1 d2 d3;replace H:=hQd h;clear h)
  |(go_at_call 157;(with_reducible refine(zEg b o p e HS.out HR.out HP.out HE.out H.out).mono ?_);rintro e_ wn ⟨rfl,h⟩;obtain⟨d0,d1,d2,d3⟩:=uR4 h.p1;simp at d0 d1 d2 d3;replace H:=hQd h;clear h)
  |(go_at_call 160;(with_reducible refine(zLQ b o c HS.out HR.out H.out).mono ?_);rintro e_ wn ⟨rfl,h⟩;obtain⟨d0,d1,d2,d3⟩:=uR4 h.p1;simp at d0 d1 d2 d3;replace H:=hQd h;clear h))
 go_end0;exact⟨rfl,H.out.p1.drop⟩
variable {W0 w:World}{K:Know}{L:List Res}
theorem zHA(b:Nat)(o:OutS)(r:Int)(v:Int)(l:List MarkR)(q:Option Addr)(cap:Nat)(hs:o.err≠0)(hE:zAE v (l.map MarkR.m)=r)(h0:r≠0)(hf:∀x∈l,x.Fit)(hn:l.length≤1000000)(hk:K.has (Know.marks (V q l.length cap) l))(h:St W0 w K (.out b o::L)):
 Calls Jb 101 #[zAc b,V q l.length cap,I O v] w fun en w'=>en=Y (.tuple #[])∧St W0 w' K (.out b o::L):=by
 have H:=hQd h;have HK:=hQd hk;have HF:=hQd hf;have HN:=hQd hn;have HCK:=hQd hE;have HO:=hQd (show o.fail r=o from OutS.fail_stuck hs r);have g0:(r==0)=false:=by rw[beq_eq_false_iff_ne];exact h0
 have g1:(r !=0)=true:=by simp[bne,g0]
 clear h hk hf hn hE h0 hs;go_enter Tryz.func101,Tryz.ntmps101
 go_wp2_with (first
  |(go_at_call 161;(with_reducible refine(zBJ v l q cap _ HCK.out HF.out HN.out HK.out H.out).zM ?_);clear H;intro wn H)
  |(go_at_call 95;(with_reducible refine(zDz b _ _ _ HO.out H.out).zM ?_);clear H;intro wn H))
 (try simp only[Exit.inBlock,Exit.then]);refine bodyPost_ret (results_none rfl _ _ _) rfl ?_
 exact⟨rfl,H.out⟩
theorem zJb(b:Nat)(o:OutS)(v:Int)(l:List MarkR)(q:Option Addr)(cap:Nat)(hs:o.err≠0)(hr:o.ok 1000000)(hE:zAE v (l.map MarkR.m)=0)(hf:∀x∈l,x.Fit)(hfit:∀x∈l,zC7 x.m.tops)(hn:l.length≤1000000)(hk:K.has (Know.marks (V q l.length cap) l))(h:St W0 w K (.out b o::L)):
 Calls Jb 101 #[zAc b,V q l.length cap,I O v] w fun en w'=>en=Y (.tuple #[])∧St W0 w' K (.out b o::L):=by
 have H:=hQd h;have HK:=hQd hk;have HF:=hQd hf;have HFIT:=hQd hfit;have HS:=hQd hs;have HR:=hQd hr;have HN:=hQd hn;have HCK:=hQd hE;have HALL:=hQd (zCS hE).2;have hni:(l.length:Int)≤1000000:=by omega
 have HLN:=hQd (show -9223372036854775808≤(l.length:Int)∧(l.length:Int)<9223372036854775808 by omega);clear h hk hf hfit hn hE hs hr;go_enter Tryz.func101,Tryz.ntmps101
 go_wp2_with (first
  |(go_at_call 161;(with_reducible refine(zBJ v l q cap _ HCK.out HF.out HN.out HK.out H.out).zM ?_);clear H;intro wn H)
  |(go_at_call 50;(with_reducible refine(zBo b o _ _ HS.out HR.out HLN.out H.out).zM ?_);clear H;intro wn H))
 go_loopw [23] (fun iv wr=>∃k:Nat,k≤l.length∧iv=I O k∧St W0 wr K (.out b o::L)) (fun iv _=>l.length - (intOf iv).toNat)
 case atStart=>exact⟨0,Jd _,rfl,H.out⟩
 case round=>
  obtain⟨k,hkl,rfl,hst⟩:=hrel;clear H;have H:=hQd hst;clear hst
  by_cases hlt:k<l.length
  ·as_aux_lemma=>
   obtain⟨b0,off,hqq⟩:=zCR HK.out H.out oM;subst hqq;obtain⟨x,hx⟩:=eX (l[k]);have hmem:x∈l:=hx ▸ Ji hlt;have hxk:=zBm HK.out hmem;have hcell:=zBK HK.out H.out k hlt x hx;have hmk:k<(l.map MarkR.m).length:=by rw[Jj];exact hlt
   have hmg:(l.map MarkR.m)[k]=x.m:=by rw[List.getElem_map,hx]
   obtain⟨hxl,hxf,hxr⟩:=HF.out x hmem;obtain⟨⟨p,e,c,tl,co⟩,xl,xq,xcap⟩:=x;obtain⟨c0,c1,c2,c3,c4⟩:wr.cell? ⟨b0,off+k*5,none⟩=some (I O p)∧wr.cell? ⟨b0,off+k*5+1,none⟩=some (I O e)∧wr.cell? ⟨b0,off+k*5+2,none⟩=some (U c)∧wr.cell? ⟨b0,off+k*5+3,none⟩=some (V xq xl.length xcap)∧wr.cell? ⟨b0,off+k*5+4,none⟩=some (I O co):=hcell;have HXK:=hQd (show K.has (Know.tops (V xq xl.length xcap) xl)from hxk);have hkn:(k:Int)<(l.length:Int):=by omega
   have hft:=HFIT.out _ hmem;have her:=HALL.out (⟨p,e,c,tl,co⟩:MarkS) (by have hz:=Ji hmk;rw[hmg]at hz;exact hz);obtain⟨hw,hco,_,_⟩:=zJe (show mErr v p e tl co=0 from her);have hwt:=zDR hw;have HP:=hQd (show -9223372036854775808≤p∧p<9223372036854775808 by have:=hxr.1.2;simp only at this;omega);have HE:=hQd (show -9223372036854775808≤e∧e<9223372036854775808 by omega);have HC:=hQd (show -9223372036854775808≤co∧co<9223372036854775808 by omega);have HFT:=hQd (show zC7 (xl.map (·.1)) by rw[show(xl.map (·.1))=tl from hxl];exact hft);obtain⟨tb,htb⟩:=eX wr.heap.size;have h:=(H.out.allocRaw #[I O p,I O e,U c,V xq xl.length xcap,I O co] 175).p1;rw[htb]at h;obtain⟨d0,d1,d2,d3,d4⟩:=uR5 h.p1;simp at d0 d1 d2 d3 d4;clear H;have H:=hQd h;clear h hx hmem hxk hmk hmg hxl hxf hxr hft her hw hco hwt
   by_cases hv:v=1
   ·subst hv
    go_wp2_with (first
  |(go_at_call 50;(with_reducible refine(zBo b o p _ HS.out HR.out HP.out H.out).mono ?_);rintro e_ wn ⟨rfl,h⟩;obtain⟨d0,d1,d2,d3,d4⟩:=uR5 h.p1;simp at d0 d1 d2 d3 d4;replace H:=hQd h;clear h)
  |(go_at_call 50;(with_reducible refine(zBo b o e _ HS.out HR.out HE.out H.out).mono ?_);rintro e_ wn ⟨rfl,h⟩;obtain⟨d0,d1,d2,d3,d4⟩:=uR5 h.p1;simp at d0 d1 d2 d3 d4;replace H:=hQd h;clear h)
  |(go_at_call 160;(with_reducible refine(zLQ b o c HS.out HR.out H.out).mono ?_);rintro e_ wn ⟨rfl,h⟩;obtain⟨d0,d1,d2,d3,d4⟩:=uR5 h.p1;simp at d0 d1 d2 d3 d4;replace H:=hQd h;clear h)
  |(go_at_call 92;(with_reducible refine(zF9 b o xl xq xcap HS.out HR.out HFT.out HXK.out H.out).mono ?_);rintro e_ wn ⟨rfl,h⟩;obtain⟨d0,d1,d2,d3,d4⟩:=uR5 h.p1;simp at d0 d1 d2 d3 d4;replace H:=hQd h;clear h)
  |(go_at_call 50;(with_reducible refine(zBo b o co _ HS.out HR.out HC.out H.out).mono ?_);rintro e_ wn ⟨rfl,h⟩;obtain⟨d0,d1,d2,d3,d4⟩:=uR5 h.p1;simp at d0 d1 d2 d3 d4;replace H:=hQd h;clear h))
    go_roundw
    case rel=>exact⟨k+1,hlt,by go_num,H.out.p1.drop⟩
    case measure=>first|(simp[intOf];done)|(simp[intOf];omega)
   ·have gv:(v==1)=false:=by rw[beq_eq_false_iff_ne];exact hv
    clear hv
    go_wp2_with (first
  |(go_at_call 50;(with_reducible refine(zBo b o p _ HS.out HR.out HP.out H.out).mono ?_);rintro e_ wn ⟨rfl,h⟩;obtain⟨d0,d1,d2,d3,d4⟩:=uR5 h.p1;simp at d0 d1 d2 d3 d4;replace H:=hQd h;clear h)
  |(go_at_call 50;(with_reducible refine(zBo b o e _ HS.out HR.out HE.out H.out).mono ?_);rintro e_ wn ⟨rfl,h⟩;obtain⟨d0,d1,d2,d3,d4⟩:=uR5 h.p1;simp at d0 d1 d2 d3 d4;replace H:=hQd h;clear h)
  |(go_at_call 160;(with_reducible refine(zLQ b o c HS.out HR.out H.out).mono ?_);rintro e_ wn ⟨rfl,h⟩;obtain⟨d0,d1,d2,d3,d4⟩:=uR5 h.p1;simp at d0 d1 d2 d3 d4;replace H:=hQd h;clear h)
  |(go_at_call 92;(with_reducible refine(zF9 b o xl xq xcap HS.out HR.out HFT.out HXK.out H.out).mono ?_);rintro e_ wn ⟨rfl,h⟩;obtain⟨d0,d1,d2,d3,d4⟩:=uR5 h.p1;simp at d0 d1 d2 d3 d4;replace H:=hQd h;clear h)
  |(go_at_call 50;(with_reducible refine(zBo b o co _ HS.out HR.out HC.out H.out).mono ?_);rintro e_ wn ⟨rfl,h⟩;obtain⟨d0,d1,d2,d3,d4⟩:=uR5 h.p1;simp at d0 d1 d2 d3 d4;replace H:=hQd h;clear h))
    go_roundw
    case rel=>exact⟨k+1,hlt,by go_num,H.out.p1.drop⟩
    case measure=>first|(simp[intOf];done)|(simp[intOf];omega)
  ·obtain rfl:k=l.length:=by omega
   go_wp2;go_end0;exact⟨rfl,H.out⟩
variable {W0 w:World}{K:Know}{L:List Res}
def zSA (x:PartR):Prop:=(0≤x.idx∧x.idx≤2147483647)∧∃s:Bs,s.length≤280000∧∀(W0 w:World) (K:Know) (L:List Res),K.has (Know.bats (V x.q x.l.length x.cap) x.l)→St W0 w K L→Calls Jb 208 #[V x.q x.l.length x.cap] w fun en w'=>en=Y (.tuple #[Z (bb s),I O 0])∧St W0 w' K L
def PTopW (x:PTop):Prop:=x.name.length≤32767∧x.l.length≤100000∧∀y∈x.l,zSA y
theorem PutP.toW{x:PartR}(h:PutP x):zSA x:=⟨h.idx,encB x.l,h.len,fun _ _ _ _ hk hs=>zRb x.l x.q x.cap (encB x.l) 0 (zLD h.err) h.fit h.small h.few hk hs⟩
theorem PutT.toW{x:PTop}(h:PutT x):PTopW x:=⟨h.name,h.few,fun y hy=>(h.parts y hy).toW⟩
theorem zHy(po:Nat)(o:OutS)(nl:Bool)(dd:Bs)(ac tm v:Int)(l:List PTop)(q:Option Addr)(cap:Nat)(hs:o.err≠0)(hdd:dd.length≤140737488355328)(hf:∀x∈l,CkT x)(hll:l.length≤4398046511104)(e:Int)(he:zA9 ⟨nl,dd⟩ ac tm v l=e)(h0:e≠0)(hk:K.has (Know.ptops (V q l.length cap) l))(h:St W0 w K (.out po o::L)):
 Calls Jb 97 #[.agg #[U nl,Z (bb dd),I O ac,I O tm,V q l.length cap],zAc po,I O v] w fun en w'=>en=Y (.tuple #[])∧St W0 w' K (.out po o::L):=by
 obtain⟨rb,hrb⟩:=eX w.heap.size;have g1:=(h.allocRaw #[U nl,Z (bb dd),I O ac,I O tm,V q l.length cap] 36).p1;rw[hrb]at g1;obtain⟨z0,z1,z2,z3,z4⟩:=uR5 g1.p1;simp at z0 z1 z2 z3 z4;have H:=hQd g1;have HK:=hQd hk;have HCF:=hQd hf;have HLL:=hQd hll;have HDD:=hQd hdd;have HER:=hQd he;have HO:=hQd (show o.fail e=o from OutS.fail_stuck hs e);have e1:(e==0)=false:=by rw[beq_eq_false_iff_ne];exact h0
 have e3:(e !=0)=true:=by simp[bne,e1]
 clear h g1 hk hf hll hdd he h0 hs;go_enter Tryz.func97,Tryz.ntmps97
 go_wp2_with (first
  |(go_at_call 152;clear z0 z1 z2 z3 z4;(with_reducible refine(zCz nl dd ac tm v l q cap HDD.out HCF.out HLL.out e HER.out HK.out H.out).mono ?_);rintro e_ wn ⟨rfl,h⟩;obtain⟨z0,z1,z2,z3,z4⟩:=uR5 h.p1;simp at z0 z1 z2 z3 z4;replace H:=hQd h;clear h)
  |(go_at_call 95;(with_reducible refine(zDz po _ _ _ HO.out H.out).zM ?_);clear H;intro wn H))
 (try simp only[Exit.inBlock,Exit.then]);refine bodyPost_ret (results_none rfl _ _ _) rfl ?_
 exact⟨rfl,H.out.p1.drop⟩
theorem zMr(po:Nat)(o:OutS)(idx:Int)(l:List BatR)(q:Option Addr)(cap:Nat)(hs:o.err≠0)(hr:o.ok 1000000)(hp:zSA ⟨idx,l,q,cap⟩)(hk:K.has (Know.bats (V q l.length cap) l))(h:St W0 w K (.out po o::L)):
 Calls Jb 153 #[zAc po,.agg #[I O idx,V q l.length cap]] w fun en w'=>en=Y (.tuple #[])∧St W0 w' K (.out po o::L):=by
 obtain⟨rb,hrb⟩:=eX w.heap.size;have g1:=(h.allocRaw #[I O idx,V q l.length cap] 181).p1;rw[hrb]at g1;obtain⟨y0,y1⟩:=uR2 g1.p1;simp at y0 y1;obtain⟨hix,s,hsl,hall⟩:=hp;simp only at hix hall;have H:=hQd g1;have HK:=hQd hk;have HS:=hQd hs;have HR:=hQd hr;have HA:=hQd hall;have HR8:=hQd (show -9223372036854775808≤idx∧idx<9223372036854775808 by omega);have HSL:=hQd (show s.length≤900000 by omega);clear h g1 hk hix hsl hall hs hr;go_enter Tryz.func153,Tryz.ntmps153
 go_wp2_with (first
  |(go_at_call 208;clear y0 y1;(with_reducible refine(HA.out _ _ _ _ HK.out H.out).mono ?_);rintro e_ wn ⟨rfl,h⟩;obtain⟨y0,y1⟩:=uR2 h.p1;simp at y0 y1;replace H:=hQd h;clear h)
  |(go_at_call 50;(with_reducible refine(zBo po o idx _ HS.out HR.out HR8.out H.out).zM ?_);clear H;intro wn H)
  |(go_at_call 144;(with_reducible refine(zNw s H.out).zM ?_);clear H;intro wn H)
  |(go_at_call 96;(with_reducible refine(zFN po o false s _ HS.out HR.out HSL.out H.out).zM ?_);clear H;intro wn H))
 go_end0;exact⟨rfl,H.out.p1.drop⟩
theorem zIZ(po:Nat)(o:OutS)(nl:Bool)(dd:Bs)(ac tm v:Int)(l:List PTop)(q:Option Addr)(cap:Nat)(hs:o.err≠0)(hr:o.ok 1000000)(hdd:dd.length≤140737488355328)(hf:∀x∈l,CkT x)(hll:l.length≤1000000)(he:zA9 ⟨nl,dd⟩ ac tm v l=0)(hd2:dd.length≤32767)(hac: -32768≤ac∧ac<32768)(htm:0≤tm∧tm<2147483648)(hpt:∀x∈l,PTopW x)(hk:K.has (Know.ptops (V q l.length cap) l))(h:St W0 w K (.out po o::L)):
  Calls Jb 97 #[.agg #[U nl,Z (bb dd),I O ac,I O tm,V q l.length cap],zAc po,I O v] w fun en w'=>en=Y (.tuple #[])∧St W0 w' K (.out po o::L):=by
 obtain⟨rb,hrb⟩:=eX w.heap.size;have g1:=(h.allocRaw #[U nl,Z (bb dd),I O ac,I O tm,V q l.length cap] 36).p1;rw[hrb]at g1;obtain⟨z0,z1,z2,z3,z4⟩:=uR5 g1.p1;simp at z0 z1 z2 z3 z4;have H:=hQd g1;have HK:=hQd hk;have HCF:=hQd hf;have HLL:=hQd hll;have HDD:=hQd hdd;have HER:=hQd he;have HS:=hQd hs;have HR:=hQd hr;have HD2:=hQd (show dd.length≤900000 by omega);have RA:=hQd (show -9223372036854775808≤ac∧ac<9223372036854775808 by omega);have RT:=hQd (show -9223372036854775808≤tm∧tm<9223372036854775808 by omega);have RL:=hQd (show -9223372036854775808≤(l.length:Int)∧(l.length:Int)<9223372036854775808 by omega);have HPT:=hQd hpt;have hni:(l.length:Int)≤4398046511104:=by omega
 clear h g1 hk hf hll hdd he hs hr hd2 hac htm hpt;go_enter Tryz.func97,Tryz.ntmps97
 go_wp2_with (first
  |(go_at_call 152;clear z0 z1 z2 z3 z4;(with_reducible refine(zCz nl dd ac tm v l q cap HDD.out HCF.out (Nat.le_trans HLL.out dD) 0 HER.out HK.out H.out).mono ?_);rintro e_ wn ⟨rfl,h⟩;obtain⟨z0,z1,z2,z3,z4⟩:=uR5 h.p1;simp at z0 z1 z2 z3 z4;replace H:=hQd h;clear h)
  |(go_at_call 96;clear z0 z1 z2 z3 z4;(with_reducible refine(zFN po o nl dd _ HS.out HR.out HD2.out H.out).mono ?_);rintro e_ wn ⟨rfl,h⟩;obtain⟨z0,z1,z2,z3,z4⟩:=uR5 h.p1;simp at z0 z1 z2 z3 z4;replace H:=hQd h;clear h)
  |(go_at_call 50;clear z0 z1 z2 z3 z4;(with_reducible refine(zBo po o ac _ HS.out HR.out RA.out H.out).mono ?_);rintro e_ wn ⟨rfl,h⟩;obtain⟨z0,z1,z2,z3,z4⟩:=uR5 h.p1;simp at z0 z1 z2 z3 z4;replace H:=hQd h;clear h)
  |(go_at_call 50;clear z0 z1 z2 z3 z4;(with_reducible refine(zBo po o tm _ HS.out HR.out RT.out H.out).mono ?_);rintro e_ wn ⟨rfl,h⟩;obtain⟨z0,z1,z2,z3,z4⟩:=uR5 h.p1;simp at z0 z1 z2 z3 z4;replace H:=hQd h;clear h)
  |(go_at_call 50;clear z0 z1 z2 z3 z4;(with_reducible refine(zBo po o l.length _ HS.out HR.out RL.out H.out).mono ?_);rintro e_ wn ⟨rfl,h⟩;obtain⟨z0,z1,z2,z3,z4⟩:=uR5 h.p1;simp at z0 z1 z2 z3 z4;replace H:=hQd h;clear h))
 clear z0 z1 z2 z3 z4;go_loopw [39] (fun iv wr=>∃k:Nat,k≤l.length∧iv=I O k∧St W0 wr K (.out po o::.raw rb #[U nl,Z (bb dd),I O ac,I O tm,V q l.length cap] 36::L)) (fun iv _=>l.length - (intOf iv).toNat)
 case atStart=>exact⟨0,Jd _,rfl,H.out⟩
 case round=>
  obtain⟨k,hkl,rfl,hst⟩:=hrel;clear H;have H:=hQd hst;clear hst
  by_cases hlt:k<l.length
  · obtain⟨bk,off,hqq⟩:=zCk HK.out H.out oM;obtain⟨x,hx⟩:=eX (l[k]);have hmem:x∈l:=hx ▸ Ji hlt;have hpx:=HPT.out x hmem;have HK':=HK.out;rw[hqq]at HK';obtain⟨c0,c1⟩:=zBl HK' H.out k hlt x hx;have HXK0:=zA7 HK.out hmem;have hkn:(k:Int)<(l.length:Int):=by omega
    obtain⟨nm,xl,xq,xcap⟩:=x;simp only at c0 c1 HXK0;have hxl:xl.length≤100000:=hpx.2.1;have hxi:(xl.length:Int)≤100000:=by omega
    have HNM:=hQd (show nm.length≤900000 by have h9:nm.length≤32767:=hpx.1;omega);have RX:=hQd (show -9223372036854775808≤(xl.length:Int)∧(xl.length:Int)<9223372036854775808 by omega);have HXK:=hQd HXK0;have HPP:=hQd (show ∀y∈xl,zSA y from hpx.2.2);subst hqq;clear hx hmem hpx HK' HXK0 hxl
    go_wp2_with (first
  |(go_at_call 89;(with_reducible refine(zIG po o nm HS.out HR.out HNM.out ((H.out.allocRaw #[Z (bb nm),V xq xl.length xcap] 178).p1)).mono ?_);rintro e_ wn ⟨rfl,h⟩;obtain⟨y0,y1⟩:=uR2 h.p1;simp at y0 y1;replace H:=hQd h;clear h)
  |(go_at_call 50;clear y0 y1;(with_reducible refine(zBo po o xl.length _ HS.out HR.out RX.out H.out).mono ?_);rintro e_ wn ⟨rfl,h⟩;have y1:=h.p1.rawCell 1;simp at y1;replace H:=hQd h;clear h))
    clear y1;go_loopw [55] (fun jv wr=>∃j:Nat,j≤xl.length∧jv=I O j∧St W0 wr K (.out po o::.raw rb #[U nl,Z (bb dd),I O ac,I O tm,V (some ⟨bk,off,none⟩) l.length cap] 36::L)) (fun jv _=>xl.length - (intOf jv).toNat)
    case atStart=>exact⟨0,Jd _,rfl,H.out.p1.drop⟩
    case round=>
     obtain⟨j,hjl,rfl,hst⟩:=hrel;clear H c0 c1;have H:=hQd hst;clear hst
     by_cases hjt:j<xl.length
     · obtain⟨pk,poff,hpq⟩:=zBW HXK.out H.out oM;subst hpq;obtain⟨y,hy⟩:=eX (xl[j]);have hmem:y∈xl:=hy ▸ Ji hjt;have hpy:=HPP.out y hmem;obtain⟨d0,d1⟩:=zA8 HXK.out H.out j hjt y hy;have HYK0:=zBh HXK.out hmem;have hjn:(j:Int)<(xl.length:Int):=by omega
       obtain⟨yi,yl,yq,ycap⟩:=y;simp only at d0 d1 HYK0;have HYK:=hQd HYK0;have HPY:=hQd hpy;clear hy hmem hpy HYK0;go_wp2_with (go_at_call 153;(with_reducible refine(zMr po o yi yl yq ycap HS.out HR.out HPY.out HYK.out ((H.out.allocRaw #[I O yi,V yq yl.length ycap] 181).p1)).mono ?_);rintro e_ wn ⟨rfl,h⟩;have h:=h.p1.drop;replace H:=hQd h;clear h);go_roundw
       case rel=>exact⟨j+1,hjt,by go_num,H.out⟩
       case measure=>first|(simp[intOf];done)|(simp[intOf];omega)
     · obtain rfl:j=xl.length:=by omega
       go_wp2_with fail;go_roundw
       case rel=>exact⟨k+1,hlt,by go_num,H.out⟩
       case measure=>first|(simp[intOf];done)|(simp[intOf];omega)
  · obtain rfl:k=l.length:=by omega
    go_wp2_with fail;go_end0;exact⟨rfl,H.out.p1.drop⟩
variable {W0 w:World}{K:Know}{L:List Res}
theorem zHB(b:Nat)(o:Bs)(r:Int)(v:Int)(l:List MarkR)(q:Option Addr)(cap:Nat)(hE:zAE v (l.map MarkR.m)=r)(h0:r≠0)(hf:∀x∈l,x.Fit)(hn:l.length≤1000000)(hk:K.has (Know.marks (V q l.length cap) l))(h:St W0 w K (.out b ⟨o,0⟩::L)):
 Calls Jb 101 #[zAc b,V q l.length cap,I O v] w fun en w'=>en=Y (.tuple #[])∧St W0 w' K (.out b ⟨o,r⟩::L):=by
 have H:=hQd h;have HK:=hQd hk;have HF:=hQd hf;have HN:=hQd hn;have HCK:=hQd hE;have HO:=hQd (show(⟨o,0⟩:OutS).fail r=⟨o,r⟩ by rfl);have g0:(r==0)=false:=by rw[beq_eq_false_iff_ne];exact h0
 have g1:(r !=0)=true:=by simp[bne,g0]
 clear h hk hf hn hE h0;go_enter Tryz.func101,Tryz.ntmps101
 go_wp2_with (first
  |(go_at_call 161;(with_reducible refine(zBJ v l q cap _ HCK.out HF.out HN.out HK.out H.out).zM ?_);clear H;intro wn H)
  |(go_at_call 95;(with_reducible refine(zDz b _ _ _ HO.out H.out).zM ?_);clear H;intro wn H))
 (try simp only[Exit.inBlock,Exit.then]);refine bodyPost_ret (results_none rfl _ _ _) rfl ?_
 exact⟨rfl,H.out⟩
theorem zJc(b:Nat)(o o2:Bs)(v:Int)(l:List MarkR)(q:Option Addr)(cap:Nat)(he:o++zEz v (l.map MarkR.m)=o2)(hE:zAE v (l.map MarkR.m)=0)(hf:∀x∈l,x.Fit)(hfit:∀x∈l,zC7 x.m.tops∧(encM v x.m).length≤2000)(hn:l.length≤20)(hol:o.length≤100000)(hk:K.has (Know.marks (V q l.length cap) l))(h:St W0 w K (.out b ⟨o,0⟩::L)):
 Calls Jb 101 #[zAc b,V q l.length cap,I O v] w fun en w'=>en=Y (.tuple #[])∧St W0 w' K (.out b ⟨o2,0⟩::L):=by
 have H:=hQd h;have HK:=hQd hk;have HF:=hQd hf;have HFIT:=hQd hfit;have HE:=hQd he;have HOL:=hQd hol;have HN:=hQd (show l.length≤1000000 by omega);have HCK:=hQd hE;have HALL:=hQd (zCS hE).2;have hni:(l.length:Int)≤20:=by omega
 have hle:=zMv v (l.map MarkR.m);obtain⟨A,hA⟩:=eX (o++preM v (l.map MarkR.m) 0);have HA:=hQd (show o++zAa (l.length:Int) (4:Int).toNat=A by rw[←hA,zP8,Jj]);have HFL:=hQd (zC1 (l.length:Int) oM);have HR0:=hQd (show o.length≤100000000000000 by omega)
 have HLE:=hQd (fun k hk=>zMv v (l.map MarkR.m) k hk (by rw[Jj];exact hn) (fun m hm=>by
  obtain⟨x,hx,rfl⟩:=List.mem_map.1 hm
  exact(hfit x hx).2))
 clear h hk hf hfit he hn hE hol hle;go_enter Tryz.func101,Tryz.ntmps101
 go_wp2_with (first
  |(go_at_call 161;(with_reducible refine(zBJ v l q cap _ HCK.out HF.out HN.out HK.out H.out).zM ?_);clear H;intro wn H)
  |(go_at_call 50;(with_reducible refine(zBH b _ _ _ 4 HA.out HFL.out HR0.out H.out).zM ?_);clear H;intro wn H))
 go_loopw [23] (fun iv wr=>∃k:Nat,k≤l.length∧iv=I O k∧St W0 wr K (.out b ⟨o++preM v (l.map MarkR.m) k,0⟩::L)) (fun iv _=>l.length - (intOf iv).toNat)
 case atStart=>exact⟨0,Jd _,rfl,by rw[hA];exact H.out⟩
 case round=>
  obtain⟨k,hkl,rfl,hst⟩:=hrel;clear H hA;have H:=hQd hst;clear hst
  by_cases hlt:k<l.length
  ·as_aux_lemma=>
   obtain⟨b0,off,hqq⟩:=zCR HK.out H.out oM;subst hqq;obtain⟨x,hx⟩:=eX (l[k]);have hmem:x∈l:=hx ▸ Ji hlt;have hxk:=zBm HK.out hmem;have hcell:=zBK HK.out H.out k hlt x hx;have hmk:k<(l.map MarkR.m).length:=by rw[Jj];exact hlt
   have hmg:(l.map MarkR.m)[k]=x.m:=by rw[List.getElem_map,hx]
   obtain⟨hxl,hxf,hxr⟩:=HF.out x hmem;obtain⟨⟨p,e,c,tl,co⟩,xl,xq,xcap⟩:=x;obtain⟨c0,c1,c2,c3,c4⟩:wr.cell? ⟨b0,off+k*5,none⟩=some (I O p)∧wr.cell? ⟨b0,off+k*5+1,none⟩=some (I O e)∧wr.cell? ⟨b0,off+k*5+2,none⟩=some (U c)∧wr.cell? ⟨b0,off+k*5+3,none⟩=some (V xq xl.length xcap)∧wr.cell? ⟨b0,off+k*5+4,none⟩=some (I O co):=hcell;have HXK:=hQd (show K.has (Know.tops (V xq xl.length xcap) xl)from hxk);have HXL:=hQd (show xl.map (·.1)=tl from hxl);have HXF:=hQd (show FewT xl from hxf);have hkn:(k:Int)<(l.length:Int):=by omega
   have hft:=(HFIT.out _ hmem).1;have her:=HALL.out (⟨p,e,c,tl,co⟩:MarkS) (by have hz:=Ji hmk;rw[hmg]at hz;exact hz);obtain⟨hw,hco,_,_⟩:=zJe (show mErr v p e tl co=0 from her);have hwt:=zDR hw;have HF8:=hQd (zFs p (by have:=hxr.1.2;simp only at this;omega));have HF2:=hQd (zC2 e oM);have HF4:=hQd (zC1 co oM);have HFT:=hQd (show zC7 (xl.map fun y=>y.1) by rw[show(xl.map fun y=>y.1)=tl from hxl];exact hft);have hst1:=zP9 v (l.map MarkR.m) k hmk _ hmg;have hle1:=HLE.out (k+1) hmk;have hol:=HOL.out;obtain⟨B0,hB0⟩:=eX (o++preM v (l.map MarkR.m) k);obtain⟨B1,hB1⟩:=eX (B0++zAa p (8:Int).toNat);obtain⟨B2,hB2⟩:=eX (B1++zAa e (2:Int).toNat);obtain⟨B3,hB3⟩:=eX (B2++encO c);obtain⟨B4,hB4⟩:=eX (B3++zA3 tl);obtain⟨B5,hB5⟩:=eX (B4++zAa co (4:Int).toNat)
   have hB6:o++preM v (l.map MarkR.m) (k+1)=B4++(if v=1 then zAa co (4:Int).toNat else[]):=by
    rw[hst1,←hB4,←hB3,←hB2,←hB1,←hB0];unfold encM;simp only[Je]
   have hlen:B4.length≤1000000:=by
    have h6:=congrArg List.length hB6;rw[Jc,Jc]at h6
    omega
   have hl0:B0.length≤100000000000000∧B1.length≤100000000000000∧B2.length≤100000000000000∧B3.length≤1000000∧B4.length≤100000000000000:=by
    have e4:=congrArg List.length hB4;have e3:=congrArg List.length hB3;have e2:=congrArg List.length hB2;have e1:=congrArg List.length hB1;rw[Jc]at e1 e2 e3 e4
    omega
   obtain⟨tb,htb⟩:=eX wr.heap.size;have h:=(H.out.allocRaw #[I O p,I O e,U c,V xq xl.length xcap,I O co] 175).p1;rw[htb]at h;obtain⟨d0,d1,d2,d3,d4⟩:=uR5 h.p1;simp at d0 d1 d2 d3 d4;rw[hB0]at h;have HB1:=hQd hB1;have HB2:=hQd hB2;have HB3:=hQd hB3;have HB4:=hQd (show B3++zA3 (xl.map fun y=>y.1)=B4 by rw[show(xl.map fun y=>y.1)=tl from hxl];exact hB4);have HB5:=hQd hB5;have HL0:=hQd hl0;clear H;have H:=hQd h;clear h hx hmem hxk hmk hmg hxl hxf hxr hft her hw hco hwt hst1 hle1 hol hB0 hB1 hB2 hB3 hB4 hlen hl0
   by_cases hv:v=1
   ·subst hv;rw[if_pos rfl,hB5]at hB6;have HB6:=hQd hB6;clear hB5 hB6
    go_wp2_with (first
  |(go_at_call 50;(with_reducible refine(zBH b B0 B1 p 8 HB1.out HF8.out HL0.out.1 H.out).mono ?_);rintro e_ wn ⟨rfl,h⟩;obtain⟨d0,d1,d2,d3,d4⟩:=uR5 h.p1;simp at d0 d1 d2 d3 d4;replace H:=hQd h;clear h)
  |(go_at_call 50;(with_reducible refine(zBH b B1 B2 e 2 HB2.out HF2.out HL0.out.2.1 H.out).mono ?_);rintro e_ wn ⟨rfl,h⟩;obtain⟨d0,d1,d2,d3,d4⟩:=uR5 h.p1;simp at d0 d1 d2 d3 d4;replace H:=hQd h;clear h)
  |(go_at_call 160;(with_reducible refine(zDU b B2 B3 c HB3.out HL0.out.2.2.1 H.out).mono ?_);rintro e_ wn ⟨rfl,h⟩;obtain⟨d0,d1,d2,d3,d4⟩:=uR5 h.p1;simp at d0 d1 d2 d3 d4;replace H:=hQd h;clear h)
  |(go_at_call 92;(with_reducible refine(zCL b B3 B4 xl xq xcap HB4.out HL0.out.2.2.2.1 HFT.out HXK.out H.out).mono ?_);rintro e_ wn ⟨rfl,h⟩;obtain⟨d0,d1,d2,d3,d4⟩:=uR5 h.p1;simp at d0 d1 d2 d3 d4;replace H:=hQd h;clear h)
  |(go_at_call 50;(with_reducible refine(zBH b B4 B5 co 4 HB5.out HF4.out HL0.out.2.2.2.2 H.out).mono ?_);rintro e_ wn ⟨rfl,h⟩;obtain⟨d0,d1,d2,d3,d4⟩:=uR5 h.p1;simp at d0 d1 d2 d3 d4;replace H:=hQd h;clear h))
    go_roundw
    case rel=>exact⟨k+1,hlt,by go_num,by rw[HB6.out];exact H.out.p1.drop⟩
    case measure=>first|(simp[intOf];done)|(simp[intOf];omega)
   ·rw[if_neg hv,Jp]at hB6;have HB6:=hQd hB6;have gv:(v==1)=false:=by rw[beq_eq_false_iff_ne];exact hv
    clear hB5 hB6 hv
    go_wp2_with (first
  |(go_at_call 50;(with_reducible refine(zBH b B0 B1 p 8 HB1.out HF8.out HL0.out.1 H.out).mono ?_);rintro e_ wn ⟨rfl,h⟩;obtain⟨d0,d1,d2,d3,d4⟩:=uR5 h.p1;simp at d0 d1 d2 d3 d4;replace H:=hQd h;clear h)
  |(go_at_call 50;(with_reducible refine(zBH b B1 B2 e 2 HB2.out HF2.out HL0.out.2.1 H.out).mono ?_);rintro e_ wn ⟨rfl,h⟩;obtain⟨d0,d1,d2,d3,d4⟩:=uR5 h.p1;simp at d0 d1 d2 d3 d4;replace H:=hQd h;clear h)
  |(go_at_call 160;(with_reducible refine(zDU b B2 B3 c HB3.out HL0.out.2.2.1 H.out).mono ?_);rintro e_ wn ⟨rfl,h⟩;obtain⟨d0,d1,d2,d3,d4⟩:=uR5 h.p1;simp at d0 d1 d2 d3 d4;replace H:=hQd h;clear h)
  |(go_at_call 92;(with_reducible refine(zCL b B3 B4 xl xq xcap HB4.out HL0.out.2.2.2.1 HFT.out HXK.out H.out).mono ?_);rintro e_ wn ⟨rfl,h⟩;obtain⟨d0,d1,d2,d3,d4⟩:=uR5 h.p1;simp at d0 d1 d2 d3 d4;replace H:=hQd h;clear h))
    go_roundw
    case rel=>exact⟨k+1,hlt,by go_num,by rw[HB6.out];exact H.out.p1.drop⟩
    case measure=>first|(simp[intOf];done)|(simp[intOf];omega)
  ·obtain rfl:k=l.length:=by omega
   have h:=H.out;rw[show preM v (l.map MarkR.m) l.length=zEz v (l.map MarkR.m) by rw[←zNu,Jj],HE.out]at h;clear H;have H:=hQd h;clear h;go_wp2;go_end0;exact⟨rfl,H.out⟩
end Go.Proofs.YteldcbljedeeiaaGreatDoor
