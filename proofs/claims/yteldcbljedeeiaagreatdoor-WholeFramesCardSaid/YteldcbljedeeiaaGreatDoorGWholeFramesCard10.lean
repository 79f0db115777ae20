/- A text. -/
import Derived.Test.YteldcbljedeeiaaGreatDoorGWholeFramesCard4
import Derived.Test.YteldcbljedeeiaaGreatDoorGWholeFramesCard5
import Derived.Test.YteldcbljedeeiaaGreatDoorGWholeFramesCard6
import Derived.Test.YteldcbljedeeiaaGreatDoorGWholeFramesCard9
import Derived.RegionTactic
import Derived.Deep.RegionHeld3
import Derived.Deep.DeepCutAuto
import Derived.WalkMore
import Derived.Deep.MidRow
import Derived.Test.YteldcbljedeeiaaGreatDoorGWholeFramesCard3
import Derived.BigQuiet
/- A text. -/
namespace Go.Proofs.YteldcbljedeeiaaGreatDoor
open Go.RowKit
set_option maxRecDepth 100000
set_option maxHeartbeats 8000000
open Go.Value renaming bool→U, string→Z, slice→V, int→I, pointer→Ja
open Go.Ending renaming returned→Y
open Go.IntKind renaming i64→O
open _root_.Go.Proofs.Tryz renaming prog→Jb
open _root_.Nat renaming zero_le→Jd, add_assoc→Jm
open _root_.List renaming take_succ_eq_append_getElem→Jf, length_cons→Jn, length_append→Jc, append_nil→Jp, length_drop→Jh, drop_drop→Jk, append_assoc→Je, flatMap_cons→Jg, getElem_mem→Ji, length_map→Jj, take→Jl, drop→Jo
set_option maxHeartbeats 8000000
set_option maxRecDepth 100000
variable {W0 w:World}{K:Know}{L:List Res}
theorem zq37{p:Prop}(h:p:=by simp only[setF,List.setIfInBounds_toArray,List.set_cons_zero,List.set_cons_succ]):p:=h
theorem zRX(v num:Int)(u:Bool)(cs:Bs)(bn:Bool)(bd:Bs)(bt bp be:Int)(ad:Bs)(ap ae:Int)(aq:Option Addr)(al:List (TopS×Value))(acap:Nat)(ed:Bs)(ep ee:Int)(ec:Bool)(mq:Option Addr)(ml:List MarkR)(mcap:Nat)(pn:Bool)(pd:Bs)(pa pt:Int)(pq:Option Addr)(pl:List PTop)(pcap:Nat)(h:St W0 w K L):
 Calls Jb 14 #[.agg #[I O 22,I O v,I O num,U u,Z (bb cs),U bn,Z (bb bd),I O bt,I O bp,I O be,Z (bb ad),I O ap,I O ae,V aq al.length acap,Z (bb ed),I O ep,I O ee,U ec,V mq ml.length mcap,U pn,Z (bb pd),I O pa,I O pt,V pq pl.length pcap]] w fun en w'=>en=Y (.agg #[I O 22,I O v,I O num,U u,Z (bb cs),U bn,Z (bb bd),I O bt,I O bp,I O be,V none 0 0,U false,V none 0 0,U false,Z ⟨#[]⟩,I O 0,I O 0,V none 0 0])∧St W0 w' K L:=by
 obtain⟨ab,hab⟩:=eX w.heap.size;obtain⟨r2,hr2⟩:=eX (ab+1);obtain⟨xb,hxb⟩:=eX (r2+1);have g1:=(h.allocRaw #[I O 22,I O v,I O num,U u,Z (bb cs),U bn,Z (bb bd),I O bt,I O bp,I O be,Z (bb ad),I O ap,I O ae,V aq al.length acap,Z (bb ed),I O ep,I O ee,U ec,V mq ml.length mcap,U pn,Z (bb pd),I O pa,I O pt,V pq pl.length pcap] 38).allocRaw #[I O 0,I O 0,I O 0,U false,Z ⟨#[]⟩,U false,Z ⟨#[]⟩,I O 0,I O 0,I O 0,V none 0 0,U false,V none 0 0,U false,Z ⟨#[]⟩,I O 0,I O 0,V none 0 0] 53;have g2:=g1.allocRaw #[I O 0,I O 0,I O 0,U false,Z ⟨#[]⟩,U false,Z ⟨#[]⟩,I O 0,I O 0,I O 0,V none 0 0,U false,V none 0 0,U false,Z ⟨#[]⟩,I O 0,I O 0,V none 0 0] 53;simp only[World.size_alloc,hab,hr2,hxb]at g1 g2;obtain⟨z0,z1,z2,z3,z4,z5,z6,z7,z8,z9⟩:=uR10 g1.p1;simp at z0 z1 z2 z3 z4 z5 z6 z7 z8 z9;have H:=hQd g1;have HX:=hQd g2;clear h g1 g2;go_enter Tryz.func14,Tryz.ntmps14
 go_upto_region 13 with (first
  |(refine zAd rfl 53 (Operand.tmp 3) (Operand.tmp 6) rfl xb #[I O 22,I O v,I O num,U u,Z (bb cs),U false,Z ⟨#[]⟩,I O 0,I O 0,I O 0,V none 0 0,U false,V none 0 0,U false,Z ⟨#[]⟩,I O 0,I O 0,V none 0 0] rfl rfl (show St W0 _ K (.raw xb #[I O 0,I O 0,I O 0,U false,Z ⟨#[]⟩,U false,Z ⟨#[]⟩,I O 0,I O 0,I O 0,V none 0 0,U false,V none 0 0,U false,Z ⟨#[]⟩,I O 0,I O 0,V none 0 0] 53::.raw r2 #[I O 0,I O 0,I O 0,U false,Z ⟨#[]⟩,U false,Z ⟨#[]⟩,I O 0,I O 0,I O 0,V none 0 0,U false,V none 0 0,U false,Z ⟨#[]⟩,I O 0,I O 0,V none 0 0] 53::.raw ab #[I O 22,I O v,I O num,U u,Z (bb cs),U bn,Z (bb bd),I O bt,I O bp,I O be,Z (bb ad),I O ap,I O ae,V aq al.length acap,Z (bb ed),I O ep,I O ee,U ec,V mq ml.length mcap,U pn,Z (bb pd),I O pa,I O pt,V pq pl.length pcap] 38::L)from HX.out) rfl kR (by simp[Value.oneCell']) ?_;clear HX z0 z1 z2 z3 z4 z5 z6 z7 z8 z9;intro wz h;obtain⟨z0,z1,z2,z3,z4,z5,z6,z7,z8,z9⟩:=uR10 h.p2;simp at z0 z1 z2 z3 z4 z5 z6 z7 z8 z9;replace H:=hQd h;clear h)
  |(refine zBP rfl 47 (Operand.tmp 31) (Operand.tmp 30) rfl xb 5 #[U bn,Z (bb bd),I O bt,I O bp,I O be,V none 0 0,U false] #[I O 22,I O v,I O num,U u,Z (bb cs),U bn,Z (bb bd),I O bt,I O bp,I O be,V none 0 0,U false,V none 0 0,U false,Z ⟨#[]⟩,I O 0,I O 0,V none 0 0] rfl rfl H.out sM zq37 kR (by simp[Value.oneCell']) ?_;intro wz h;replace H:=hQd h;clear h))
 refine wp_region_lit ?_;refine wpList_load_mid rfl 53 (Operand.tmp 3) rfl xb 0 rfl [I O 22,I O v,I O num,U u,Z (bb cs),U bn,Z (bb bd),I O bt,I O bp,I O be,V none 0 0,U false,V none 0 0,U false,Z ⟨#[]⟩,I O 0,I O 0,V none 0 0] _ (St.range H.out) Tryz.underlying53 rfl kR ?_;refine zAd rfl 53 (Operand.tmp 2) (Operand.tmp 72) rfl r2 #[I O 22,I O v,I O num,U u,Z (bb cs),U bn,Z (bb bd),I O bt,I O bp,I O be,V none 0 0,U false,V none 0 0,U false,Z ⟨#[]⟩,I O 0,I O 0,V none 0 0] rfl rfl (H.out).p1 rfl kR (by simp[Value.oneCell']) ?_;intro wz h;replace H:=hQd h;clear h;simp only[Act.put,sA,sB,sC];go_wp2;refine bodyPost_ret (zAw rfl _ _ r2 [I O 22,I O v,I O num,U u,Z (bb cs),U bn,Z (bb bd),I O bt,I O bp,I O be,V none 0 0,U false,V none 0 0,U false,Z ⟨#[]⟩,I O 0,I O 0,V none 0 0] _ rfl (St.range H.out) Tryz.underlying53 rfl kR) rfl ?_;exact⟨rfl,H.out.drop.drop.drop⟩
theorem zRY(v num:Int)(u:Bool)(cs:Bs)(bn:Bool)(bd:Bs)(bt bp be:Int)(ad:Bs)(ap ae:Int)(aq:Option Addr)(al:List (TopS×Value))(acap:Nat)(ed:Bs)(ep ee:Int)(ec:Bool)(mq:Option Addr)(ml:List MarkR)(mcap:Nat)(pn:Bool)(pd:Bs)(pa pt:Int)(pq:Option Addr)(pl:List PTop)(pcap:Nat)(h:St W0 w K L):
 Calls Jb 14 #[.agg #[I O 24,I O v,I O num,U u,Z (bb cs),U bn,Z (bb bd),I O bt,I O bp,I O be,Z (bb ad),I O ap,I O ae,V aq al.length acap,Z (bb ed),I O ep,I O ee,U ec,V mq ml.length mcap,U pn,Z (bb pd),I O pa,I O pt,V pq pl.length pcap]] w fun en w'=>en=Y (.agg #[I O 24,I O v,I O num,U u,Z (bb cs),U false,Z (bb ad),I O 0,I O ap,I O ae,V aq al.length acap,U false,V none 0 0,U false,Z ⟨#[]⟩,I O 0,I O 0,V none 0 0])∧St W0 w' K L:=by
 obtain⟨ab,hab⟩:=eX w.heap.size;obtain⟨r2,hr2⟩:=eX (ab+1);obtain⟨xb,hxb⟩:=eX (r2+1);have g1:=(h.allocRaw #[I O 24,I O v,I O num,U u,Z (bb cs),U bn,Z (bb bd),I O bt,I O bp,I O be,Z (bb ad),I O ap,I O ae,V aq al.length acap,Z (bb ed),I O ep,I O ee,U ec,V mq ml.length mcap,U pn,Z (bb pd),I O pa,I O pt,V pq pl.length pcap] 38).allocRaw #[I O 0,I O 0,I O 0,U false,Z ⟨#[]⟩,U false,Z ⟨#[]⟩,I O 0,I O 0,I O 0,V none 0 0,U false,V none 0 0,U false,Z ⟨#[]⟩,I O 0,I O 0,V none 0 0] 53;have g2:=g1.allocRaw #[I O 0,I O 0,I O 0,U false,Z ⟨#[]⟩,U false,Z ⟨#[]⟩,I O 0,I O 0,I O 0,V none 0 0,U false,V none 0 0,U false,Z ⟨#[]⟩,I O 0,I O 0,V none 0 0] 53;simp only[World.size_alloc,hab,hr2,hxb]at g1 g2;obtain⟨z0,z1,z2,z3,z4⟩:=uR5 g1.p1;have z10:=g1.p1.rawCell 10;have z11:=g1.p1.rawCell 11;have z12:=g1.p1.rawCell 12;have z13:=g1.p1.rawCell 13;simp at z0 z1 z2 z3 z4 z10 z11 z12 z13;have H:=hQd g1;have HX:=hQd g2;clear h g1 g2;go_enter Tryz.func14,Tryz.ntmps14
 go_upto_region 13 with (first
  |(refine zAd rfl 53 (Operand.tmp 3) (Operand.tmp 6) rfl xb #[I O 24,I O v,I O num,U u,Z (bb cs),U false,Z ⟨#[]⟩,I O 0,I O 0,I O 0,V none 0 0,U false,V none 0 0,U false,Z ⟨#[]⟩,I O 0,I O 0,V none 0 0] rfl rfl (show St W0 _ K (.raw xb #[I O 0,I O 0,I O 0,U false,Z ⟨#[]⟩,U false,Z ⟨#[]⟩,I O 0,I O 0,I O 0,V none 0 0,U false,V none 0 0,U false,Z ⟨#[]⟩,I O 0,I O 0,V none 0 0] 53::.raw r2 #[I O 0,I O 0,I O 0,U false,Z ⟨#[]⟩,U false,Z ⟨#[]⟩,I O 0,I O 0,I O 0,V none 0 0,U false,V none 0 0,U false,Z ⟨#[]⟩,I O 0,I O 0,V none 0 0] 53::.raw ab #[I O 24,I O v,I O num,U u,Z (bb cs),U bn,Z (bb bd),I O bt,I O bp,I O be,Z (bb ad),I O ap,I O ae,V aq al.length acap,Z (bb ed),I O ep,I O ee,U ec,V mq ml.length mcap,U pn,Z (bb pd),I O pa,I O pt,V pq pl.length pcap] 38::L)from HX.out) rfl kR (by simp[Value.oneCell']) ?_;clear HX z0 z1 z2 z3 z4 z10 z11 z12 z13;intro wz h;obtain⟨z0,z1,z2,z3,z4⟩:=uR5 h.p2;have z10:=h.p2.rawCell 10;have z11:=h.p2.rawCell 11;have z12:=h.p2.rawCell 12;have z13:=h.p2.rawCell 13;simp at z0 z1 z2 z3 z4 z10 z11 z12 z13;replace H:=hQd h;clear h)
  |(refine zBP rfl 47 (Operand.tmp 48) (Operand.tmp 47) rfl xb 5 #[U false,Z (bb ad),I O 0,I O ap,I O ae,V aq al.length acap,U false] #[I O 24,I O v,I O num,U u,Z (bb cs),U false,Z (bb ad),I O 0,I O ap,I O ae,V aq al.length acap,U false,V none 0 0,U false,Z ⟨#[]⟩,I O 0,I O 0,V none 0 0] rfl rfl H.out sM zq37 kR (by simp[Value.oneCell']) ?_;intro wz h;replace H:=hQd h;clear h))
 refine wp_region_lit ?_;refine wpList_load_mid rfl 53 (Operand.tmp 3) rfl xb 0 rfl [I O 24,I O v,I O num,U u,Z (bb cs),U false,Z (bb ad),I O 0,I O ap,I O ae,V aq al.length acap,U false,V none 0 0,U false,Z ⟨#[]⟩,I O 0,I O 0,V none 0 0] _ (St.range H.out) Tryz.underlying53 rfl kR ?_;refine zAd rfl 53 (Operand.tmp 2) (Operand.tmp 72) rfl r2 #[I O 24,I O v,I O num,U u,Z (bb cs),U false,Z (bb ad),I O 0,I O ap,I O ae,V aq al.length acap,U false,V none 0 0,U false,Z ⟨#[]⟩,I O 0,I O 0,V none 0 0] rfl rfl (H.out).p1 rfl kR (by simp[Value.oneCell']) ?_;intro wz h;replace H:=hQd h;clear h;simp only[Act.put,sA,sB,sC];go_wp2;refine bodyPost_ret (zAw rfl _ _ r2 [I O 24,I O v,I O num,U u,Z (bb cs),U false,Z (bb ad),I O 0,I O ap,I O ae,V aq al.length acap,U false,V none 0 0,U false,Z ⟨#[]⟩,I O 0,I O 0,V none 0 0] _ rfl (St.range H.out) Tryz.underlying53 rfl kR) rfl ?_;exact⟨rfl,H.out.drop.drop.drop⟩
theorem zRW(v num:Int)(u:Bool)(cs:Bs)(bn:Bool)(bd:Bs)(bt bp be:Int)(ad:Bs)(ap ae:Int)(aq:Option Addr)(al:List (TopS×Value))(acap:Nat)(ed:Bs)(ep ee:Int)(ec:Bool)(mq:Option Addr)(ml:List MarkR)(mcap:Nat)(pn:Bool)(pd:Bs)(pa pt:Int)(pq:Option Addr)(pl:List PTop)(pcap:Nat)(h:St W0 w K L):
 Calls Jb 14 #[.agg #[I O 26,I O v,I O num,U u,Z (bb cs),U bn,Z (bb bd),I O bt,I O bp,I O be,Z (bb ad),I O ap,I O ae,V aq al.length acap,Z (bb ed),I O ep,I O ee,U ec,V mq ml.length mcap,U pn,Z (bb pd),I O pa,I O pt,V pq pl.length pcap]] w fun en w'=>en=Y (.agg #[I O 26,I O v,I O num,U u,Z (bb cs),U false,Z (bb ed),I O 0,I O ep,I O ee,V none 0 0,U ec,V none 0 0,U false,Z ⟨#[]⟩,I O 0,I O 0,V none 0 0])∧St W0 w' K L:=by
 obtain⟨ab,hab⟩:=eX w.heap.size;obtain⟨r2,hr2⟩:=eX (ab+1);obtain⟨xb,hxb⟩:=eX (r2+1);have g1:=(h.allocRaw #[I O 26,I O v,I O num,U u,Z (bb cs),U bn,Z (bb bd),I O bt,I O bp,I O be,Z (bb ad),I O ap,I O ae,V aq al.length acap,Z (bb ed),I O ep,I O ee,U ec,V mq ml.length mcap,U pn,Z (bb pd),I O pa,I O pt,V pq pl.length pcap] 38).allocRaw #[I O 0,I O 0,I O 0,U false,Z ⟨#[]⟩,U false,Z ⟨#[]⟩,I O 0,I O 0,I O 0,V none 0 0,U false,V none 0 0,U false,Z ⟨#[]⟩,I O 0,I O 0,V none 0 0] 53;have g2:=g1.allocRaw #[I O 0,I O 0,I O 0,U false,Z ⟨#[]⟩,U false,Z ⟨#[]⟩,I O 0,I O 0,I O 0,V none 0 0,U false,V none 0 0,U false,Z ⟨#[]⟩,I O 0,I O 0,V none 0 0] 53;simp only[World.size_alloc,hab,hr2,hxb]at g1 g2;obtain⟨z0,z1,z2,z3,z4⟩:=uR5 g1.p1;have z14:=g1.p1.rawCell 14;have z15:=g1.p1.rawCell 15;have z16:=g1.p1.rawCell 16;have z17:=g1.p1.rawCell 17;simp at z0 z1 z2 z3 z4 z14 z15 z16 z17;have H:=hQd g1;have HX:=hQd g2;clear h g1 g2;go_enter Tryz.func14,Tryz.ntmps14
 go_upto_region 13 with (first
  |(refine zAd rfl 53 (Operand.tmp 3) (Operand.tmp 6) rfl xb #[I O 26,I O v,I O num,U u,Z (bb cs),U false,Z ⟨#[]⟩,I O 0,I O 0,I O 0,V none 0 0,U false,V none 0 0,U false,Z ⟨#[]⟩,I O 0,I O 0,V none 0 0] rfl rfl (show St W0 _ K (.raw xb #[I O 0,I O 0,I O 0,U false,Z ⟨#[]⟩,U false,Z ⟨#[]⟩,I O 0,I O 0,I O 0,V none 0 0,U false,V none 0 0,U false,Z ⟨#[]⟩,I O 0,I O 0,V none 0 0] 53::.raw r2 #[I O 0,I O 0,I O 0,U false,Z ⟨#[]⟩,U false,Z ⟨#[]⟩,I O 0,I O 0,I O 0,V none 0 0,U false,V none 0 0,U false,Z ⟨#[]⟩,I O 0,I O 0,V none 0 0] 53::.raw ab #[I O 26,I O v,I O num,U u,Z (bb cs),U bn,Z (bb bd),I O bt,I O bp,I O be,Z (bb ad),I O ap,I O ae,V aq al.length acap,Z (bb ed),I O ep,I O ee,U ec,V mq ml.length mcap,U pn,Z (bb pd),I O pa,I O pt,V pq pl.length pcap] 38::L)from HX.out) rfl kR (by simp[Value.oneCell']) ?_;clear HX z0 z1 z2 z3 z4 z14 z15 z16 z17;intro wz h;obtain⟨z0,z1,z2,z3,z4⟩:=uR5 h.p2;have z14:=h.p2.rawCell 14;have z15:=h.p2.rawCell 15;have z16:=h.p2.rawCell 16;have z17:=h.p2.rawCell 17;simp at z0 z1 z2 z3 z4 z14 z15 z16 z17;replace H:=hQd h;clear h)
  |(refine zBP rfl 47 (Operand.tmp 65) (Operand.tmp 64) rfl xb 5 #[U false,Z (bb ed),I O 0,I O ep,I O ee,V none 0 0,U ec] #[I O 26,I O v,I O num,U u,Z (bb cs),U false,Z (bb ed),I O 0,I O ep,I O ee,V none 0 0,U ec,V none 0 0,U false,Z ⟨#[]⟩,I O 0,I O 0,V none 0 0] rfl rfl H.out sM zq37 kR (by simp[Value.oneCell']) ?_;intro wz h;replace H:=hQd h;clear h))
 refine wp_region_lit ?_;refine wpList_load_mid rfl 53 (Operand.tmp 3) rfl xb 0 rfl [I O 26,I O v,I O num,U u,Z (bb cs),U false,Z (bb ed),I O 0,I O ep,I O ee,V none 0 0,U ec,V none 0 0,U false,Z ⟨#[]⟩,I O 0,I O 0,V none 0 0] _ (St.range H.out) Tryz.underlying53 rfl kR ?_;refine zAd rfl 53 (Operand.tmp 2) (Operand.tmp 72) rfl r2 #[I O 26,I O v,I O num,U u,Z (bb cs),U false,Z (bb ed),I O 0,I O ep,I O ee,V none 0 0,U ec,V none 0 0,U false,Z ⟨#[]⟩,I O 0,I O 0,V none 0 0] rfl rfl (H.out).p1 rfl kR (by simp[Value.oneCell']) ?_;intro wz h;replace H:=hQd h;clear h;simp only[Act.put,sA,sB,sC];go_wp2;refine bodyPost_ret (zAw rfl _ _ r2 [I O 26,I O v,I O num,U u,Z (bb cs),U false,Z (bb ed),I O 0,I O ep,I O ee,V none 0 0,U ec,V none 0 0,U false,Z ⟨#[]⟩,I O 0,I O 0,V none 0 0] _ rfl (St.range H.out) Tryz.underlying53 rfl kR) rfl ?_;exact⟨rfl,H.out.drop.drop.drop⟩
theorem zRV(v num:Int)(u:Bool)(cs:Bs)(bn:Bool)(bd:Bs)(bt bp be:Int)(ad:Bs)(ap ae:Int)(aq:Option Addr)(al:List (TopS×Value))(acap:Nat)(ed:Bs)(ep ee:Int)(ec:Bool)(mq:Option Addr)(ml:List MarkR)(mcap:Nat)(pn:Bool)(pd:Bs)(pa pt:Int)(pq:Option Addr)(pl:List PTop)(pcap:Nat)(hml:ml.length≤1000000)(hmf:∀x∈ml,x.Fit)(hk:K.has (Know.marks (V mq ml.length mcap) ml))(h:St W0 w K L):
 Calls Jb 14 #[.agg #[I O 27,I O v,I O num,U u,Z (bb cs),U bn,Z (bb bd),I O bt,I O bp,I O be,Z (bb ad),I O ap,I O ae,V aq al.length acap,Z (bb ed),I O ep,I O ee,U ec,V mq ml.length mcap,U pn,Z (bb pd),I O pa,I O pt,V pq pl.length pcap]] w fun en w'=>∃(q2:Option Addr) (cap2:Nat),en=Y (.agg #[I O 27,I O v,I O num,U u,Z (bb cs),U false,Z ⟨#[]⟩,I O 0,I O 0,I O 0,V none 0 0,U false,V q2 ml.length cap2,U false,Z ⟨#[]⟩,I O 0,I O 0,V none 0 0])∧St W0 w' (K.and (Know.marks (V q2 ml.length cap2) ml)) L:=by
 obtain⟨ab,hab⟩:=eX w.heap.size;obtain⟨r2,hr2⟩:=eX (ab+1);obtain⟨xb,hxb⟩:=eX (r2+1);have g1:=(h.allocRaw #[I O 27,I O v,I O num,U u,Z (bb cs),U bn,Z (bb bd),I O bt,I O bp,I O be,Z (bb ad),I O ap,I O ae,V aq al.length acap,Z (bb ed),I O ep,I O ee,U ec,V mq ml.length mcap,U pn,Z (bb pd),I O pa,I O pt,V pq pl.length pcap] 38).allocRaw #[I O 0,I O 0,I O 0,U false,Z ⟨#[]⟩,U false,Z ⟨#[]⟩,I O 0,I O 0,I O 0,V none 0 0,U false,V none 0 0,U false,Z ⟨#[]⟩,I O 0,I O 0,V none 0 0] 53;have g2:=g1.allocRaw #[I O 0,I O 0,I O 0,U false,Z ⟨#[]⟩,U false,Z ⟨#[]⟩,I O 0,I O 0,I O 0,V none 0 0,U false,V none 0 0,U false,Z ⟨#[]⟩,I O 0,I O 0,V none 0 0] 53;simp only[World.size_alloc,hab,hr2,hxb]at g1 g2;obtain⟨z0,z1,z2,z3,z4⟩:=uR5 g1.p1;have z18:=g1.p1.rawCell 18;simp at z0 z1 z2 z3 z4 z18;have H:=hQd g1;have HX:=hQd g2;have HML:=hQd hml;have HMF:=hQd hmf;have HK:=hQd hk;clear hml hmf hk;clear h g1 g2;go_enter Tryz.func14,Tryz.ntmps14
 go_upto_region 13 with (first
  |(refine zAd rfl 53 (Operand.tmp 3) (Operand.tmp 6) rfl xb #[I O 27,I O v,I O num,U u,Z (bb cs),U false,Z ⟨#[]⟩,I O 0,I O 0,I O 0,V none 0 0,U false,V none 0 0,U false,Z ⟨#[]⟩,I O 0,I O 0,V none 0 0] rfl rfl (show St W0 _ K (.raw xb #[I O 0,I O 0,I O 0,U false,Z ⟨#[]⟩,U false,Z ⟨#[]⟩,I O 0,I O 0,I O 0,V none 0 0,U false,V none 0 0,U false,Z ⟨#[]⟩,I O 0,I O 0,V none 0 0] 53::.raw r2 #[I O 0,I O 0,I O 0,U false,Z ⟨#[]⟩,U false,Z ⟨#[]⟩,I O 0,I O 0,I O 0,V none 0 0,U false,V none 0 0,U false,Z ⟨#[]⟩,I O 0,I O 0,V none 0 0] 53::.raw ab #[I O 27,I O v,I O num,U u,Z (bb cs),U bn,Z (bb bd),I O bt,I O bp,I O be,Z (bb ad),I O ap,I O ae,V aq al.length acap,Z (bb ed),I O ep,I O ee,U ec,V mq ml.length mcap,U pn,Z (bb pd),I O pa,I O pt,V pq pl.length pcap] 38::L)from HX.out) rfl kR (by simp[Value.oneCell']) ?_;clear HX z0 z1 z2 z3 z4 z18;intro wz h;obtain⟨z0,z1,z2,z3,z4⟩:=uR5 h.p2;have z18:=h.p2.rawCell 18;simp at z0 z1 z2 z3 z4 z18;replace H:=hQd h;clear h)
  |(go_at_call 57;(with_reducible refine(zR3 ml mq mcap HML.out HMF.out HK.out H.out).mono ?_);rintro e_ wn ⟨v_,rfl,h⟩;obtain⟨q2,cap2,hv⟩:=zH6 (Know.has_right (Know.has_refl _)) h;subst hv;have c12:=h.rawCell 12;have f12:=h.rawFree 12;simp at c12 f12;replace H:=hQd h;clear h))
 refine wp_region_lit ?_;refine wpList_load_mid rfl 53 (Operand.tmp 3) rfl xb 0 rfl [I O 27,I O v,I O num,U u,Z (bb cs),U false,Z ⟨#[]⟩,I O 0,I O 0,I O 0,V none 0 0,U false,V q2 ml.length cap2,U false,Z ⟨#[]⟩,I O 0,I O 0,V none 0 0] _ (St.range (show St W0 _ _ (.raw xb #[I O 27,I O v,I O num,U u,Z (bb cs),U false,Z ⟨#[]⟩,I O 0,I O 0,I O 0,V none 0 0,U false,V q2 ml.length cap2,U false,Z ⟨#[]⟩,I O 0,I O 0,V none 0 0] 53::_)from H.out.rawSet 12 _)) Tryz.underlying53 rfl kR ?_;refine zAd rfl 53 (Operand.tmp 2) (Operand.tmp 72) rfl r2 #[I O 27,I O v,I O num,U u,Z (bb cs),U false,Z ⟨#[]⟩,I O 0,I O 0,I O 0,V none 0 0,U false,V q2 ml.length cap2,U false,Z ⟨#[]⟩,I O 0,I O 0,V none 0 0] rfl rfl ((show St W0 _ _ (.raw xb #[I O 27,I O v,I O num,U u,Z (bb cs),U false,Z ⟨#[]⟩,I O 0,I O 0,I O 0,V none 0 0,U false,V q2 ml.length cap2,U false,Z ⟨#[]⟩,I O 0,I O 0,V none 0 0] 53::_)from H.out.rawSet 12 _)).p1 rfl kR (by simp[Value.oneCell']) ?_;intro wz h;replace H:=hQd h;clear h;simp only[Act.put,sA,sB,sC];go_wp2;refine bodyPost_ret (zAw rfl _ _ r2 [I O 27,I O v,I O num,U u,Z (bb cs),U false,Z ⟨#[]⟩,I O 0,I O 0,I O 0,V none 0 0,U false,V q2 ml.length cap2,U false,Z ⟨#[]⟩,I O 0,I O 0,V none 0 0] _ rfl (St.range H.out) Tryz.underlying53 rfl kR) rfl ?_;exact⟨q2,cap2,rfl,H.out.drop.drop.drop⟩
theorem zRU(v num:Int)(u:Bool)(cs:Bs)(bn:Bool)(bd:Bs)(bt bp be:Int)(ad:Bs)(ap ae:Int)(aq:Option Addr)(al:List (TopS×Value))(acap:Nat)(ed:Bs)(ep ee:Int)(ec:Bool)(mq:Option Addr)(ml:List MarkR)(mcap:Nat)(pn:Bool)(pd:Bs)(pa pt:Int)(pq:Option Addr)(pl:List PTop)(pcap:Nat)(hpl:pl.length≤3518437208780)(hpf:∀x∈pl,x.l.length≤4398046511104)(hk:K.has (Know.ptops (V pq pl.length pcap) pl))(h:St W0 w K L):
 Calls Jb 14 #[.agg #[I O 0,I O v,I O num,U u,Z (bb cs),U bn,Z (bb bd),I O bt,I O bp,I O be,Z (bb ad),I O ap,I O ae,V aq al.length acap,Z (bb ed),I O ep,I O ee,U ec,V mq ml.length mcap,U pn,Z (bb pd),I O pa,I O pt,V pq pl.length pcap]] w fun en w'=>∃(q2:Option Addr) (cap2:Nat) (l2:List PTop) (K2:Know),en=Y (.agg #[I O 0,I O v,I O num,U u,Z (bb cs),U false,Z ⟨#[]⟩,I O 0,I O 0,I O 0,V none 0 0,U false,V none 0 0,U pn,Z (bb pd),I O pa,I O pt,V q2 l2.length cap2])∧l2.map PTop.nl=pl.map PTop.nl∧K2.has K∧K2.has (Know.ptops (V q2 l2.length cap2) l2)∧St W0 w' K2 L:=by
 obtain⟨ab,hab⟩:=eX w.heap.size;obtain⟨r2,hr2⟩:=eX (ab+1);obtain⟨xb,hxb⟩:=eX (r2+1);have g1:=(h.allocRaw #[I O 0,I O v,I O num,U u,Z (bb cs),U bn,Z (bb bd),I O bt,I O bp,I O be,Z (bb ad),I O ap,I O ae,V aq al.length acap,Z (bb ed),I O ep,I O ee,U ec,V mq ml.length mcap,U pn,Z (bb pd),I O pa,I O pt,V pq pl.length pcap] 38).allocRaw #[I O 0,I O 0,I O 0,U false,Z ⟨#[]⟩,U false,Z ⟨#[]⟩,I O 0,I O 0,I O 0,V none 0 0,U false,V none 0 0,U false,Z ⟨#[]⟩,I O 0,I O 0,V none 0 0] 53;have g2:=g1.allocRaw #[I O 0,I O 0,I O 0,U false,Z ⟨#[]⟩,U false,Z ⟨#[]⟩,I O 0,I O 0,I O 0,V none 0 0,U false,V none 0 0,U false,Z ⟨#[]⟩,I O 0,I O 0,V none 0 0] 53;simp only[World.size_alloc,hab,hr2,hxb]at g1 g2;obtain⟨z0,z1,z2,z3,z4⟩:=uR5 g1.p1;have z19:=g1.p1.rawCell 19;have z20:=g1.p1.rawCell 20;have z21:=g1.p1.rawCell 21;have z22:=g1.p1.rawCell 22;have z23:=g1.p1.rawCell 23;simp at z0 z1 z2 z3 z4 z19 z20 z21 z22 z23;have H:=hQd g1;have HX:=hQd g2;have HPL:=hQd hpl;have HPF:=hQd hpf;have HK:=hQd hk;clear hpl hpf hk;clear h g1 g2;go_enter Tryz.func14,Tryz.ntmps14
 go_upto_region 13 with (first
  |(refine zAd rfl 53 (Operand.tmp 3) (Operand.tmp 6) rfl xb #[I O 0,I O v,I O num,U u,Z (bb cs),U false,Z ⟨#[]⟩,I O 0,I O 0,I O 0,V none 0 0,U false,V none 0 0,U false,Z ⟨#[]⟩,I O 0,I O 0,V none 0 0] rfl rfl (show St W0 _ K (.raw xb #[I O 0,I O 0,I O 0,U false,Z ⟨#[]⟩,U false,Z ⟨#[]⟩,I O 0,I O 0,I O 0,V none 0 0,U false,V none 0 0,U false,Z ⟨#[]⟩,I O 0,I O 0,V none 0 0] 53::.raw r2 #[I O 0,I O 0,I O 0,U false,Z ⟨#[]⟩,U false,Z ⟨#[]⟩,I O 0,I O 0,I O 0,V none 0 0,U false,V none 0 0,U false,Z ⟨#[]⟩,I O 0,I O 0,V none 0 0] 53::.raw ab #[I O 0,I O v,I O num,U u,Z (bb cs),U bn,Z (bb bd),I O bt,I O bp,I O be,Z (bb ad),I O ap,I O ae,V aq al.length acap,Z (bb ed),I O ep,I O ee,U ec,V mq ml.length mcap,U pn,Z (bb pd),I O pa,I O pt,V pq pl.length pcap] 38::L)from HX.out) rfl kR (by simp[Value.oneCell']) ?_;clear HX z0 z1 z2 z3 z4 z19 z20 z21 z22 z23;intro wz h;obtain⟨z0,z1,z2,z3,z4⟩:=uR5 h.p2;have z19:=h.p2.rawCell 19;have z20:=h.p2.rawCell 20;have z21:=h.p2.rawCell 21;have z22:=h.p2.rawCell 22;have z23:=h.p2.rawCell 23;simp at z0 z1 z2 z3 z4 z19 z20 z21 z22 z23;replace H:=hQd h;clear h)
  |(go_at_call 56;(with_reducible refine(of20 pn pd pa pt pl pq pcap HPL.out HPF.out HK.out H.out).mono ?_);rintro e_ wn ⟨q2,cap2,l2,K2,rfl,hnl,hkk,hk2,h⟩;have HNL:=hQd hnl;have HKK:=hQd hkk;have HK2:=hQd hk2;clear hnl hkk hk2;replace H:=hQd h;clear h)
  |(refine zBP rfl 51 (Operand.tmp 15) (Operand.tmp 14) rfl xb 13 #[U pn,Z (bb pd),I O pa,I O pt,V q2 l2.length cap2] #[I O 0,I O v,I O num,U u,Z (bb cs),U false,Z ⟨#[]⟩,I O 0,I O 0,I O 0,V none 0 0,U false,V none 0 0,U pn,Z (bb pd),I O pa,I O pt,V q2 l2.length cap2] rfl rfl H.out sM zq37 kR (by simp[Value.oneCell']) ?_;intro wz h;replace H:=hQd h;clear h))
 refine wp_region_lit ?_;refine wpList_load_mid rfl 53 (Operand.tmp 3) rfl xb 0 rfl [I O 0,I O v,I O num,U u,Z (bb cs),U false,Z ⟨#[]⟩,I O 0,I O 0,I O 0,V none 0 0,U false,V none 0 0,U pn,Z (bb pd),I O pa,I O pt,V q2 l2.length cap2] _ (St.range H.out) Tryz.underlying53 rfl kR ?_;refine zAd rfl 53 (Operand.tmp 2) (Operand.tmp 72) rfl r2 #[I O 0,I O v,I O num,U u,Z (bb cs),U false,Z ⟨#[]⟩,I O 0,I O 0,I O 0,V none 0 0,U false,V none 0 0,U pn,Z (bb pd),I O pa,I O pt,V q2 l2.length cap2] rfl rfl (H.out).p1 rfl kR (by simp[Value.oneCell']) ?_;intro wz h;replace H:=hQd h;clear h;simp only[Act.put,sA,sB,sC];go_wp2;refine bodyPost_ret (zAw rfl _ _ r2 [I O 0,I O v,I O num,U u,Z (bb cs),U false,Z ⟨#[]⟩,I O 0,I O 0,I O 0,V none 0 0,U false,V none 0 0,U pn,Z (bb pd),I O pa,I O pt,V q2 l2.length cap2] _ rfl (St.range H.out) Tryz.underlying53 rfl kR) rfl ?_;exact⟨q2,cap2,l2,K2,rfl,HNL.out,HKK.out,HK2.out,H.out.drop.drop.drop⟩
set_option maxHeartbeats 8000000
variable {W0 w:World}{K:Know}{L:List Res}
theorem zDz(p:Nat)(o o2:OutS)(e:Int)(hx:o.fail e=o2)(h:St W0 w K (.out p o::L)):
 Calls Jb 95 #[zAc p,I O e] w fun en w'=>en=Y (.tuple #[])∧St W0 w' K (.out p o2::L):=by
 subst hx;exact zDW p o e h
theorem zI9(b:Nat)(o o2:OutS)(id:Bs)(p e:Int)(c:Bool)(r:Int)(t:Bool)(hr:chkW id p e=r)(ht:(r==0)=t)(ho:(if r=0 then o else o.fail r)=o2)(hl:id.length≤140737488355328)(h:St W0 w K (.out b o::L)):
 Calls Jb 154 #[zAc b,.func (.func 159) #[.agg #[Z (bb id),I O p,I O e,U c]] #[]] w fun en w'=>en=Y (U t)∧St W0 w' K (.out b o2::L):=by
 have H:=hQd h;have HR:=hQd hr;have HL:=hQd hl;clear h hr hl
 by_cases h0:r=0
 ·rw[if_pos h0]at ho;subst ho h0;obtain rfl:true=t:=ht;go_enter Tryz.func154,Tryz.ntmps154;go_wp2_with (go_at_call 159;go_loud ((with_reducible refine(zGU id p e c _ HR.out HL.out H.out).mono ?_));rintro e_ wn ⟨rfl,h⟩;replace H:=hQd h;clear h);go_ret;exact⟨rfl,H.out⟩
 ·rw[if_neg h0]at ho;have HO:=hQd ho;have g0:(r==0)=false:=by rw[beq_eq_false_iff_ne];exact h0
  have g00:(r !=0)=true:=by simp[bne,g0]
  rw[g0]at ht;subst ht;clear ho h0;go_enter Tryz.func154,Tryz.ntmps154
  go_wp2_with (first
  |(go_at_call 159;(with_reducible refine(zGU id p e c _ HR.out HL.out H.out).zM ?_);clear H;intro wn H)
  |(go_at_call 95;(with_reducible refine(zDz b _ _ _ HO.out H.out).zM ?_);clear H;intro wn H))
  go_ret;exact⟨rfl,H.out⟩
variable {W0 w:World}{K:Know}{L:List Res}
theorem zCq{id:Bs}{p e:Int}(h:chkW id p e=0):zAu id=true∧who p e=true:=by
 unfold chkW at h
 by_cases h1:zAu id=false
 ·rw[if_pos h1]at h;cases h
 ·rw[if_neg h1]at h
  by_cases h2:who p e=false
  ·rw[if_pos h2]at h;cases h
  ·exact⟨by simpa using h1,by simpa using h2⟩
theorem zCM(b:Nat)(o o1 o2:Bs)(p e:Int)(h1:o++zAa p (8:Int).toNat=o1)(h2:o1++zAa e (2:Int).toNat=o2)(hf8:fits p 8)(hf2:fits e 2)(hl:o.length≤100000000)(h:St W0 w K (.out b ⟨o,0⟩::L)):
 Calls Jb 157 #[zAc b,I O p,I O e] w fun en w'=>en=Y (.tuple #[])∧St W0 w' K (.out b ⟨o2,0⟩::L):=by
 have H:=hQd h;have H1:=hQd h1;have H2:=hQd h2;have HF8:=hQd hf8;have HF2:=hQd hf2;have HL:=hQd (show o.length≤100000000000000 by omega);have HL2:=hQd (show o1.length≤100000000000000 by rw[←h1,Jc,zAb];have:(8:Int).toNat=8:=rfl;omega);clear h h1 h2 hf8 hf2 hl;go_enter Tryz.func157,Tryz.ntmps157
 go_wp2_with (first
  |(go_at_call 50;(with_reducible refine(zBH b o o1 p 8 H1.out HF8.out HL.out H.out).zM ?_);clear H;intro wn H)
  |(go_at_call 50;(with_reducible refine(zBH b o1 o2 e 2 H2.out HF2.out HL2.out H.out).zM ?_);clear H;intro wn H))
 go_end0;exact⟨rfl,H.out⟩
theorem zK7(b:Nat)(o o1 o2 o3 o4:Bs)(id:Bs)(p e:Int)(c:Bool)(h1:o++encF 2 ⟨false,id⟩=o1)(h2:o1++zAa p (8:Int).toNat=o2)(h3:o2++zAa e (2:Int).toNat=o3)(h4:o3++encO c=o4)(hk:chkW id p e=0)(hil:id.length≤32767)(hp:p<9223372036854775808)(hl:o.length≤1000000)(h:St W0 w K (.out b ⟨o,0⟩::L)):
 Calls Jb 100 #[.agg #[Z (bb id),I O p,I O e,U c],zAc b] w fun en w'=>en=Y (.tuple #[])∧St W0 w' K (.out b ⟨o4,0⟩::L):=by
 have hw:=zDR (zCq hk).2;have h0:=h.allocRaw #[Z (bb id),I O p,I O e,U c] 32;have H:=hQd h0;have H1:=hQd h1;have H2:=hQd h2;have H3:=hQd h3;have H4:=hQd h4;have HK:=hQd hk;have HIL:=hQd hil;have HIL2:=hQd (show id.length≤140737488355328 by omega);have HF8:=hQd (zFs p oM);have HF2:=hQd (zC2 e oM);have hl1:o1.length=o.length+(id.length+2):=by rw[←h1,Jc];unfold encF;rw[Jc,zAb];simp only;omega
 have hl2:o2.length=o1.length+8:=by rw[←h2,Jc,zAb];rfl
 have hl3:o3.length=o2.length+2:=by rw[←h3,Jc,zAb];rfl
 have HL:=hQd (show o.length≤100000000000000 by omega);have HL1:=hQd (show o1.length≤100000000 by omega);have HL3:=hQd (show o3.length≤100000000000000 by omega);have HT:=hQd (show((0:Int)==0)=true by rfl);have HO:=hQd (show(if (0:Int)=0 then(⟨o,0⟩:OutS)else(⟨o,0⟩:OutS).fail 0)=⟨o,0⟩ by rfl);clear h h0 h1 h2 h3 h4 hk hil hp hl hl1 hl2 hl3 hw;go_enter Tryz.func100,Tryz.ntmps100
 go_wp2_with (first
  |(go_at_call 154;(with_reducible refine(zI9 b _ _ id p e c _ _ HK.out HT.out HO.out HIL2.out H.out.p1).mono ?_);rintro e_ wn ⟨rfl,h⟩;obtain⟨d0,d1,d2,d3⟩:=uR4 h.p1;simp at d0 d1 d2 d3;replace H:=hQd h;clear h)
  |(go_at_call 89;(with_reducible refine(zCY b o o1 id H1.out HIL.out HL.out H.out).mono ?_);rintro e_ wn ⟨rfl,h⟩;obtain⟨d0,d1,d2,d3⟩:=uR4 h.p1;simp at d0 d1 d2 d3;replace H:=hQd h;clear h)
  |(go_at_call 157;(with_reducible refine(zCM b o1 o2 o3 p e H2.out H3.out HF8.out HF2.out HL1.out H.out).mono ?_);rintro e_ wn ⟨rfl,h⟩;obtain⟨d0,d1,d2,d3⟩:=uR4 h.p1;simp at d0 d1 d2 d3;replace H:=hQd h;clear h)
  |(go_at_call 160;(with_reducible refine(zDU b o3 o4 c H4.out HL3.out H.out).zM ?_);clear H;intro wn H))
 go_end0;exact⟨rfl,H.out.p1.drop⟩
theorem zCo(b:Nat)(i i1 i2:InS)(p e:Int)(h1:i.int 8=(p,i1))(h2:i1.int 2=(e,i2))(h:St W0 w K (.inp b i::L)):
 Calls Jb 176 #[zAe b] w fun en w'=>en=Y (.tuple #[I O p,I O e])∧St W0 w' K (.inp b i2::L):=by
 have H:=hQd h;have H1:=hQd h1;have H2:=hQd h2;clear h h1 h2;go_enter Tryz.func176,Tryz.ntmps176
 go_wp2_with (first
  |(go_at_call 66;(with_reducible refine(zCw b _ _ _ 8 H1.out H.out).zM ?_);clear H;intro wn H)
  |(go_at_call 66;(with_reducible refine(zCw b _ _ _ 2 H2.out H.out).zM ?_);clear H;intro wn H))
 go_ret2;exact⟨rfl,H.out⟩
variable {W0 w:World}{K:Know}{L:List Res}
theorem zDs(v:Int)(nl:Bool)(d:Bs)(tm p e:Int)(r:Bool)(hr:was v p e=r)(h:St W0 w K L):
   Calls Jb 209 #[.agg #[U nl,Z (bb d),I O tm,I O p,I O e],I O v] w fun en w'=>en=Y (U r)∧St W0 w' K L:=by
 have H:=hQd (h.allocRaw #[U nl,Z (bb d),I O tm,I O p,I O e] 27);subst hr;obtain⟨c,hc⟩:=eX (who p e);have HW:=hQd hc;unfold was;rw[hc];clear h hc
 by_cases h1:p= -1
 · have g1:(p== -1)=true:=by rw[beq_iff_eq];exact h1
   by_cases h2:e= -1
   · have g2:(e== -1)=true:=by rw[beq_iff_eq];exact h2
     rw[g1,g2];clear h1 h2;go_enter Tryz.func209,Tryz.ntmps209
     go_wp2_with (first
   |(go_at_call 241;(with_reducible refine(zBg p e _ HW.out H.out).zM ?_);clear H;intro wn H))
     go_ret;exact⟨rfl,H.out.drop⟩
   · have g2:(e== -1)=false:=by rw[beq_eq_false_iff_ne];exact h2
     rw[g1,g2];clear h1 h2
     by_cases h3:v=1
     · have g3:(v==1)=true:=by rw[beq_iff_eq];exact h3
       rw[g3];clear h3
       cases c with
       |true=>
        go_enter Tryz.func209,Tryz.ntmps209
        go_wp2_with (first
   |(go_at_call 241;(with_reducible refine(zBg p e _ HW.out H.out).zM ?_);clear H;intro wn H))
        go_ret;exact⟨rfl,H.out.drop⟩
       |false=>
        go_enter Tryz.func209,Tryz.ntmps209
        go_wp2_with (first
   |(go_at_call 241;(with_reducible refine(zBg p e _ HW.out H.out).zM ?_);clear H;intro wn H))
        go_ret;exact⟨rfl,H.out.drop⟩
     · have g3:(v==1)=false:=by rw[beq_eq_false_iff_ne];exact h3
       rw[g3];clear h3;go_enter Tryz.func209,Tryz.ntmps209
       go_wp2_with (first
   |(go_at_call 241;(with_reducible refine(zBg p e _ HW.out H.out).zM ?_);clear H;intro wn H))
       go_ret;exact⟨rfl,H.out.drop⟩
 · have g1:(p== -1)=false:=by rw[beq_eq_false_iff_ne];exact h1
   rw[g1];clear h1
   by_cases h3:v=1
   · have g3:(v==1)=true:=by rw[beq_iff_eq];exact h3
     rw[g3];clear h3
     cases c with
     |true=>
       go_enter Tryz.func209,Tryz.ntmps209
       go_wp2_with (first
   |(go_at_call 241;(with_reducible refine(zBg p e _ HW.out H.out).zM ?_);clear H;intro wn H))
       go_ret;exact⟨rfl,H.out.drop⟩
     |false=>
       go_enter Tryz.func209,Tryz.ntmps209
       go_wp2_with (first
   |(go_at_call 241;(with_reducible refine(zBg p e _ HW.out H.out).zM ?_);clear H;intro wn H))
       go_ret;exact⟨rfl,H.out.drop⟩
   · have g3:(v==1)=false:=by rw[beq_eq_false_iff_ne];exact h3
     rw[g3];clear h3;go_enter Tryz.func209,Tryz.ntmps209
     go_wp2_with (first
   |(go_at_call 241;(with_reducible refine(zBg p e _ HW.out H.out).zM ?_);clear H;intro wn H))
     go_ret;exact⟨rfl,H.out.drop⟩
theorem zAH(u:Bool)(d:Bs)(r:Bool)(hr:(⟨u,d⟩:BlobS).right=r)(h:St W0 w K L):
 Calls Jb 149 #[.agg #[U u,Z (bb d)]] w fun en w'=>en=Y (U r)∧St W0 w' K L:=by
 subst hr;exact zCG ⟨u,d⟩ h
theorem zLy(v:Int)(nl:Bool)(d:Bs)(tm p e:Int)(r:Int)(hr:begE v nl d tm p e=r)(hl:d.length≤140737488355328)(h:St W0 w K L):
  Calls Jb 156 #[.agg #[U nl,Z (bb d),I O tm,I O p,I O e],I O v] w fun en w'=>en=Y (I O r)∧St W0 w' K L:=by
 have H:=hQd (h.allocRaw #[U nl,Z (bb d),I O tm,I O p,I O e] 27);have HDL:=hQd hl;clear h hl
 cases nl with
 |true=>
  by_cases hd:d=[]
  · subst hd;have HBR:=hQd (show(⟨true,[]⟩:BlobS).right=true from rfl);rw[show begE v true [] tm p e=if tm<0∨2147483647<tm then 11 else if was v p e=false then 11 else 0 by unfold begE;rw[show idOk true []=true from rfl];rfl]at hr
    by_cases h1:tm<0
    · rw[if_pos (.inl h1)]at hr;subst hr;go_enter Tryz.func156,Tryz.ntmps156
      go_wp2_with (first
  |(go_at_call 149;(with_reducible refine(zAH _ [] _ HBR.out H.out).mono ?_);rintro e_ wn ⟨rfl,h⟩;obtain⟨c0,c1,c2,c3,c4⟩:=uR5 h;simp at c0 c1 c2 c3 c4;replace H:=hQd h;clear h)
  |(go_at_call 209;(with_reducible refine(zDs v true [] tm p e _ HWS.out H.out).zM ?_);clear H;intro wn H))
      go_ret;exact⟨rfl,H.out.drop⟩
    by_cases h2:2147483647<tm
    · rw[if_pos (.inr h2)]at hr;subst hr;go_enter Tryz.func156,Tryz.ntmps156
      go_wp2_with (first
  |(go_at_call 149;(with_reducible refine(zAH _ [] _ HBR.out H.out).mono ?_);rintro e_ wn ⟨rfl,h⟩;obtain⟨c0,c1,c2,c3,c4⟩:=uR5 h;simp at c0 c1 c2 c3 c4;replace H:=hQd h;clear h)
  |(go_at_call 209;(with_reducible refine(zDs v true [] tm p e _ HWS.out H.out).zM ?_);clear H;intro wn H))
      go_ret;exact⟨rfl,H.out.drop⟩
    rw[if_neg oM]at hr;obtain⟨ws,hws⟩:=eX (was v p e);have HWS:=hQd hws;rw[hws]at hr;clear hws
    cases ws with
    |true=>
      obtain rfl:(0:Int)=r:=hr;go_enter Tryz.func156,Tryz.ntmps156
      go_wp2_with (first
  |(go_at_call 149;(with_reducible refine(zAH _ [] _ HBR.out H.out).mono ?_);rintro e_ wn ⟨rfl,h⟩;obtain⟨c0,c1,c2,c3,c4⟩:=uR5 h;simp at c0 c1 c2 c3 c4;replace H:=hQd h;clear h)
  |(go_at_call 209;(with_reducible refine(zDs v true [] tm p e _ HWS.out H.out).zM ?_);clear H;intro wn H))
      go_ret;exact⟨rfl,H.out.drop⟩
    |false=>
      obtain rfl:(11:Int)=r:=hr;go_enter Tryz.func156,Tryz.ntmps156
      go_wp2_with (first
  |(go_at_call 149;(with_reducible refine(zAH _ [] _ HBR.out H.out).mono ?_);rintro e_ wn ⟨rfl,h⟩;obtain⟨c0,c1,c2,c3,c4⟩:=uR5 h;simp at c0 c1 c2 c3 c4;replace H:=hQd h;clear h)
  |(go_at_call 209;(with_reducible refine(zDs v true [] tm p e _ HWS.out H.out).zM ?_);clear H;intro wn H))
      go_ret;exact⟨rfl,H.out.drop⟩
  · have HBR:=hQd (show(⟨true,d⟩:BlobS).right=false by unfold BlobS.right;cases d with|nil=>exact absurd rfl hd|cons _ _=>rfl);have hid:idOk true d=false:=by cases d with|nil=>exact absurd rfl hd|cons _ _=>rfl
    obtain rfl:(4:Int)=r:=by rw[←hr];unfold begE;rw[hid];rfl
    clear hr hid hd;go_enter Tryz.func156,Tryz.ntmps156
    go_wp2_with (first
  |(go_at_call 149;(with_reducible refine(zAH _ d _ HBR.out H.out).mono ?_);rintro e_ wn ⟨rfl,h⟩;obtain⟨c0,c1,c2,c3,c4⟩:=uR5 h;simp at c0 c1 c2 c3 c4;replace H:=hQd h;clear h))
    go_ret;exact⟨rfl,H.out.drop⟩
 |false=>
  have HBR:=hQd (show(⟨false,d⟩:BlobS).right=true from rfl);obtain⟨kr,hkr⟩:=eX (zAu d);have HKR:=hQd hkr
  cases kr with
  |true=>
    have hid:idOk false d=true:=hkr;rw[show begE v false d tm p e=if tm<0∨2147483647<tm then 11 else if was v p e=false then 11 else 0 by unfold begE;rw[hid];rfl]at hr;clear hid hkr
    by_cases h1:tm<0
    · rw[if_pos (.inl h1)]at hr;subst hr;go_enter Tryz.func156,Tryz.ntmps156
      go_wp2_with (first
  |(go_at_call 149;(with_reducible refine(zAH _ d _ HBR.out H.out).mono ?_);rintro e_ wn ⟨rfl,h⟩;obtain⟨c0,c1,c2,c3,c4⟩:=uR5 h;simp at c0 c1 c2 c3 c4;replace H:=hQd h;clear h)
  |(go_at_call 88;(with_reducible refine(zBn d _ HDL.out HKR.out H.out).mono ?_);rintro e_ wn ⟨rfl,h⟩;obtain⟨c0,c1,c2,c3,c4⟩:=uR5 h;simp at c0 c1 c2 c3 c4;replace H:=hQd h;clear h)
  |(go_at_call 209;(with_reducible refine(zDs v false d tm p e _ HWS.out H.out).zM ?_);clear H;intro wn H))
      go_ret;exact⟨rfl,H.out.drop⟩
    by_cases h2:2147483647<tm
    · rw[if_pos (.inr h2)]at hr;subst hr;go_enter Tryz.func156,Tryz.ntmps156
      go_wp2_with (first
  |(go_at_call 149;(with_reducible refine(zAH _ d _ HBR.out H.out).mono ?_);rintro e_ wn ⟨rfl,h⟩;obtain⟨c0,c1,c2,c3,c4⟩:=uR5 h;simp at c0 c1 c2 c3 c4;replace H:=hQd h;clear h)
  |(go_at_call 88;(with_reducible refine(zBn d _ HDL.out HKR.out H.out).mono ?_);rintro e_ wn ⟨rfl,h⟩;obtain⟨c0,c1,c2,c3,c4⟩:=uR5 h;simp at c0 c1 c2 c3 c4;replace H:=hQd h;clear h)
  |(go_at_call 209;(with_reducible refine(zDs v false d tm p e _ HWS.out H.out).zM ?_);clear H;intro wn H))
      go_ret;exact⟨rfl,H.out.drop⟩
    rw[if_neg oM]at hr;obtain⟨ws,hws⟩:=eX (was v p e);have HWS:=hQd hws;rw[hws]at hr;clear hws
    cases ws with
    |true=>
      obtain rfl:(0:Int)=r:=hr;go_enter Tryz.func156,Tryz.ntmps156
      go_wp2_with (first
  |(go_at_call 149;(with_reducible refine(zAH _ d _ HBR.out H.out).mono ?_);rintro e_ wn ⟨rfl,h⟩;obtain⟨c0,c1,c2,c3,c4⟩:=uR5 h;simp at c0 c1 c2 c3 c4;replace H:=hQd h;clear h)
  |(go_at_call 88;(with_reducible refine(zBn d _ HDL.out HKR.out H.out).mono ?_);rintro e_ wn ⟨rfl,h⟩;obtain⟨c0,c1,c2,c3,c4⟩:=uR5 h;simp at c0 c1 c2 c3 c4;replace H:=hQd h;clear h)
  |(go_at_call 209;(with_reducible refine(zDs v false d tm p e _ HWS.out H.out).zM ?_);clear H;intro wn H))
      go_ret;exact⟨rfl,H.out.drop⟩
    |false=>
      obtain rfl:(11:Int)=r:=hr;go_enter Tryz.func156,Tryz.ntmps156
      go_wp2_with (first
  |(go_at_call 149;(with_reducible refine(zAH _ d _ HBR.out H.out).mono ?_);rintro e_ wn ⟨rfl,h⟩;obtain⟨c0,c1,c2,c3,c4⟩:=uR5 h;simp at c0 c1 c2 c3 c4;replace H:=hQd h;clear h)
  |(go_at_call 88;(with_reducible refine(zBn d _ HDL.out HKR.out H.out).mono ?_);rintro e_ wn ⟨rfl,h⟩;obtain⟨c0,c1,c2,c3,c4⟩:=uR5 h;simp at c0 c1 c2 c3 c4;replace H:=hQd h;clear h)
  |(go_at_call 209;(with_reducible refine(zDs v false d tm p e _ HWS.out H.out).zM ?_);clear H;intro wn H))
      go_ret;exact⟨rfl,H.out.drop⟩
  |false=>
    have hid:idOk false d=false:=hkr;obtain rfl:(4:Int)=r:=by rw[←hr];unfold begE;rw[hid];rfl
    clear hr hid hkr;go_enter Tryz.func156,Tryz.ntmps156
    go_wp2_with (first
  |(go_at_call 149;(with_reducible refine(zAH _ d _ HBR.out H.out).mono ?_);rintro e_ wn ⟨rfl,h⟩;obtain⟨c0,c1,c2,c3,c4⟩:=uR5 h;simp at c0 c1 c2 c3 c4;replace H:=hQd h;clear h)
  |(go_at_call 88;(with_reducible refine(zBn d _ HDL.out HKR.out H.out).mono ?_);rintro e_ wn ⟨rfl,h⟩;obtain⟨c0,c1,c2,c3,c4⟩:=uR5 h;simp at c0 c1 c2 c3 c4;replace H:=hQd h;clear h))
    go_ret;exact⟨rfl,H.out.drop⟩
theorem zEP(d:Bs)(p e:Int)(l:List (TopS×Value))(q:Option Addr)(cap:Nat)(r:Int)(hr:addE d p e (l.map (·.1))=r)(hl:d.length≤140737488355328)(hf:FewT l)(hk:K.has (Know.tops (V q l.length cap) l))(h:St W0 w K L):
 Calls Jb 158 #[.agg #[Z (bb d),I O p,I O e,V q l.length cap]] w fun en w'=>en=Y (I O r)∧St W0 w' K L:=by
 have H:=hQd (h.allocRaw #[Z (bb d),I O p,I O e,V q l.length cap] 30);have HDL:=hQd hl;have HF:=hQd hf;have HK:=hQd hk;obtain⟨cw,hcw⟩:=eX (chkW d p e);have HC:=hQd hcw;unfold addE at hr;rw[hcw]at hr;clear h hl hf hk hcw
 by_cases h0:cw=0
 ·subst h0;have HE:=hQd (show zHu (l.map (·.1))=r from hr);clear hr;go_enter Tryz.func158,Tryz.ntmps158
  go_wp2_with (first
  |(go_at_call 210;(with_reducible refine(zB8 d p e _ HC.out HDL.out H.out).mono ?_);rintro e_ wn ⟨rfl,h⟩;have c3:=h.rawCell 3;simp at c3;replace H:=hQd h;clear h)
  |(go_at_call 211;(with_reducible refine(zIB l q cap r HE.out HF.out HK.out H.out).zM ?_);clear H;intro wn H))
  go_ret;exact⟨rfl,H.out.drop⟩
 ·rw[if_pos h0]at hr;subst hr;have g1:(cw==0)=false:=by rw[beq_eq_false_iff_ne];exact h0
  have g2:(cw !=0)=true:=by simp[bne,g1]
  clear h0;go_enter Tryz.func158,Tryz.ntmps158
  go_wp2_with (first
  |(go_at_call 210;(with_reducible refine(zB8 d p e _ HC.out HDL.out H.out).mono ?_);rintro e_ wn ⟨rfl,h⟩;have c3:=h.rawCell 3;simp at c3;replace H:=hQd h;clear h))
  go_ret;exact⟨rfl,H.out.drop⟩
theorem zDN(l:List (TopS×Value))(k:Nat)(h:k<l.length)(x:TopS)(hx:l[k].1=x):(l.map (·.1)).take (k+1)=(l.map (·.1)).take k++[x]:=by
 have h2:k<(l.map (·.1)).length:=by simpa using h
 rw[Jf h2,List.getElem_map,hx]
theorem zHr(l m:List (TopS×Value))(k:Nat)(h1:k<l.length)(h2:k<m.length)(x y:TopS)(hx:l[k].1=x)(hy:m[k].1=y)(h:x≠y):l.map (·.1)≠m.map (·.1):=by
 intro he
 apply h
 have e1:(l.map (·.1))[k]? =some x:=by rw[List.getElem?_map,List.getElem?_eq_getElem h1];simp[hx]
 have e2:(m.map (·.1))[k]? =some y:=by rw[List.getElem?_map,List.getElem?_eq_getElem h2];simp[hy]
 rw[he,e2]at e1
 simpa using e1.symm
theorem zLO(l m:List (TopS×Value))(h:l.length≠m.length):l.map (·.1)≠m.map (·.1):=fun hh=>h (by have:=congrArg List.length hh;simpa using this)
def LenT (l:List (TopS×Value)):Prop:=l.length≤140737488355328∧∀x∈l,x.1.parts.length≤9223372036854775807
theorem zGK(a b:List Int)(q1 q2:Option Addr)(cap1 cap2:Nat)(hl:a.length≤9223372036854775807)(hl2:b.length≤9223372036854775807)(r:Bool)(hr:decide (a=b)=r){W0 w:World}{K:Know}{L:List Res}(hka:K.has (Know.flat RI (V q1 a.length cap1) 1 a))(hkb:K.has (Know.flat RI (V q2 b.length cap2) 1 b))(h:St W0 w K L):
 Calls Jb 170 #[V q1 a.length cap1,V q2 b.length cap2] w fun en w'=>en=Y (U r)∧St W0 w' K L:=by
 have H:=hQd h;have HA:=hQd hka;have HB:=hQd hkb;clear h hka hkb
 by_cases hlen:a.length=b.length
 ·have HLEN:=hQd hlen;have HR:=hQd hr;rw[←hlen];clear hr hlen;go_enter Tryz.func170,Tryz.ntmps170;go_wp2;go_loopw [5] (fun iv wr=>∃k:Nat,k≤a.length∧iv=I O k∧Hid (a.take k=b.take k)∧St W0 wr K L) (fun iv _=>a.length - (intOf iv).toNat)
  case atStart=>exact⟨0,Jd _,rfl,hQd sM,H.out⟩
  case round=>
   obtain⟨k,hk,rfl,HEQ,hst⟩:=hrel;clear H;have H:=hQd hst;clear hst
   by_cases hlt:k<a.length
   ·have hltb:k<b.length:=by have:=HLEN.out;omega
    obtain⟨ba,oa,hqa⟩:=zD3 HA.out H.out oM;obtain⟨bb',ob,hqb⟩:=zD3 HB.out H.out oM;subst hqa;subst hqb;have c0:=zCl HA.out H.out k hlt;have c1:=zCl HB.out H.out k hltb;have ea:a.take (k+1)=a.take k++[a.getD k 0]:=by rw[Jf hlt,List.getD_eq_getElem?_getD,List.getElem?_eq_getElem hlt];rfl
    have eb:b.take (k+1)=b.take k++[b.getD k 0]:=by rw[Jf hltb,List.getD_eq_getElem?_getD,List.getElem?_eq_getElem hltb];rfl
    have hne:a.getD k 0≠b.getD k 0→a≠b:=by rintro h rfl;exact h rfl
    obtain⟨x,hx⟩:=eX (a.getD k 0);obtain⟨y,hy⟩:=eX (b.getD k 0);rw[hx]at c0 ea hne;rw[hy]at c1 eb hne;have EA:=hQd (And.intro ea (And.intro eb hne));clear ea eb hne hx hy hltb
    by_cases hxy:x=y
    ·subst hxy;go_wp2
     go_quiet (fail)
     go_wp2;go_roundw
     case rel=>exact⟨k+1,hlt,by go_num,hQd (by rw[EA.out.1,EA.out.2.1,HEQ.out]),H.out.drewN _⟩
     case measure=>first|(simp[intOf];done)|(simp[intOf];omega)
    ·have HNE:=hQd (EA.out.2.2 hxy);go_wp2
     go_quiet (fail)
     go_wp2;go_ret;exact⟨zAo (by rw[←HR.out];exact(decide_eq_false HNE.out).symm),H.out.drewN _⟩
   ·have hke:k=a.length:=by omega
    subst hke;go_wp2;go_ret;refine⟨zAo ?_,H.out⟩;have h:=HEQ.out;rw[List.take_of_length_le oM,List.take_of_length_le (by have:=HLEN.out;omega)]at h;rw[←HR.out];exact(decide_eq_true h).symm
 ·have HR:=hQd hr;have hne:¬((a.length:Int)=(b.length:Int)):=by omega
  have HLEN:=hQd hlen;clear hr hlen;go_enter Tryz.func170,Tryz.ntmps170;go_wp2;go_ret;exact⟨zAo (by rw[←HR.out];exact(decide_eq_false (by rintro rfl;exact HLEN.out rfl)).symm),H.out⟩
theorem zq12{p:Prop}(h:p:=by
 have h:=heq.out
 rwa [List.take_of_length_le sM,List.take_of_length_le (by have:=HLEN.out;simp;omega)]at h):p:=h
theorem zq20{p:Prop}(h:p:=by have HRT:=hQd (show r=true by rw[←HR.out,hall];exact decide_eq_true rfl);clear hall;go_wp2;go_ret;exact⟨zAo HRT.out.symm,H.out⟩):p:=h
theorem zBY(l1 l2:List (TopS×Value))(q1 q2:Option Addr)(cap1 cap2:Nat)(r:Bool)(hr:decide (l1.map (·.1)=l2.map (·.1))=r)(hf1:LenT l1)(hf2:LenT l2){W0 w:World}{K:Know}{L:List Res}(hk1:K.has (Know.tops (V q1 l1.length cap1) l1))(hk2:K.has (Know.tops (V q2 l2.length cap2) l2))(h:St W0 w K L):
 Calls Jb 114 #[V q1 l1.length cap1,V q2 l2.length cap2] w fun en w'=>en=Y (U r)∧St W0 w' K L:=by
 have H:=hQd h;have HK1:=hQd hk1;have HK2:=hQd hk2;have hni:(l1.length:Int)≤140737488355328:=by have:=hf1.1;omega
 have HF1:=hQd hf1;have HF2:=hQd hf2;clear h hk1 hk2 hf1 hf2
 by_cases hlen:l1.length=l2.length
 rotate_left
 ·as_aux_lemma=>
  have hr2:r=false:=by rw[←hr];exact decide_eq_false (zLO _ _ hlen)
  have g1:((l1.length:Int)==(l2.length:Int))=false:=by rw[beq_eq_false_iff_ne];omega
  have g2:((l1.length:Int) !=(l2.length:Int))=true:=by simp[bne,g1]
  have g3:¬((l1.length:Int)=(l2.length:Int)):=by omega
  subst hr2;clear hlen hr;go_enter Tryz.func114,Tryz.ntmps114;go_wp2;go_ret;exact⟨rfl,H.out⟩
 have HLEN:=hQd hlen;have HR:=hQd hr;have g1:((l1.length:Int)==(l2.length:Int))=true:=by rw[hlen];exact beq_self_eq_true _
 have g2:((l1.length:Int) !=(l2.length:Int))=false:=by simp[bne,g1]
 have g3:(l2.length:Int)=(l1.length:Int):=by omega
 clear hr hlen;go_enter Tryz.func114,Tryz.ntmps114;go_wp2;clear g1 g2 g3;go_loopw [5] (fun iv wr=>∃k:Nat,k≤l1.length∧iv=I O k∧Hid ((l1.map (·.1)).take k=(l2.map (·.1)).take k)∧St W0 wr K L) (fun iv _=>l1.length - (intOf iv).toNat)
 case atStart=>exact⟨0,Jd _,rfl,hQd sM,H.out⟩
 case round=>
  obtain⟨k,hkl,rfl,heq,hst⟩:=hrel;clear H;have H:=hQd hst;clear hst
  by_cases hlt:k<l1.length
  ·have hlt2:k<l2.length:=by have:=HLEN.out;omega
   obtain⟨b1',off1,hqq1⟩:=zEX HK1.out H.out oM;subst hqq1;obtain⟨⟨⟨n1,p1⟩,v1⟩,hx1⟩:∃x,l1[k]=x:=⟨_,rfl⟩;have hmem1:((⟨n1,p1⟩:TopS),v1)∈l1:=hx1 ▸ Ji _;have XF1:=hQd (show p1.length≤9223372036854775807 from HF1.out.2 _ hmem1);have xk1:K.has (Know.flat RI v1 1 p1):=zB5 HK1.out hmem1;obtain⟨qx1,capx1,hv1⟩:=zAr xk1 H.out;subst hv1;have XK1:=hQd xk1;have HX1:=hQd (show l1[k].1=⟨n1,p1⟩ by rw[hx1]);have HXX1:=hQd hx1;clear hmem1 hx1 xk1;obtain⟨b2',off2,hqq2⟩:=zEX HK2.out H.out oM;subst hqq2;obtain⟨⟨⟨n2,p2⟩,v2⟩,hx2⟩:∃x,l2[k]=x:=⟨_,rfl⟩;have hmem2:((⟨n2,p2⟩:TopS),v2)∈l2:=hx2 ▸ Ji _;have XF2:=hQd (show p2.length≤9223372036854775807 from HF2.out.2 _ hmem2);have xk2:K.has (Know.flat RI v2 1 p2):=zB5 HK2.out hmem2;obtain⟨qx2,capx2,hv2⟩:=zAr xk2 H.out;subst hv2;have XK2:=hQd xk2;have HX2:=hQd (show l2[k].1=⟨n2,p2⟩ by rw[hx2]);have HXX2:=hQd hx2;clear hmem2 hx2 xk2;have HKP:=hQd (show ∀w',St W0 w' K L→(w'.cell? ⟨b1',off1+k*2,none⟩=some (Z (bb n1))∧w'.cell? ⟨b1',off1+k*2+1,none⟩=some (V qx1 p1.length capx1)∧w'.cell? ⟨b2',off2+k*2,none⟩=some (Z (bb n2))∧w'.cell? ⟨b2',off2+k*2+1,none⟩=some (V qx2 p2.length capx2))from fun w' hs=>⟨(zBT HK1.out hs k hlt _ HXX1.out).1,(zBT HK1.out hs k hlt _ HXX1.out).2,(zBT HK2.out hs k hlt2 _ HXX2.out).1,(zBT HK2.out hs k hlt2 _ HXX2.out).2⟩);have hki:(k:Int)<(l1.length:Int):=by omega
   have hki2:(k:Int)<(l2.length:Int):=by omega
   have NX:=hQd (show(⟨n1,p1⟩:TopS)≠⟨n2,p2⟩→l1.map (·.1)≠l2.map (·.1)from zHr l1 l2 k hlt hlt2 _ _ HX1.out HX2.out);have NT:=hQd (show(⟨n1,p1⟩:TopS)=⟨n2,p2⟩→(l1.map (·.1)).take (k+1)=(l2.map (·.1)).take (k+1)from fun e=>by rw[zDN l1 k hlt _ HX1.out,zDN l2 k hlt2 _ HX2.out,heq.out,e]);clear HX1 HX2 HXX1 HXX2;clear hlt2
   by_cases hn:n1=n2
   ·by_cases hp:p1=p2
    ·as_aux_lemma=>
     have E1:=hQd (decide_eq_true hp);have NT2:=hQd (NT.out (by rw[hn,hp]));have gn:(n1==n2)=true:=by rw[hn];exact beq_self_eq_true _
     have gn2:(n1 !=n2)=false:=by simp[bne,gn]
     clear hn hp NX NT;go_wp2;have hs:=H.out.drew;refine wp_region_held_drew (S:=fun w'=>w'.cell? ⟨b1',off1+k*2,none⟩=some (Z (bb n1))∧w'.cell? ⟨b1',off1+k*2+1,none⟩=some (V qx1 p1.length capx1)∧w'.cell? ⟨b2',off2+k*2,none⟩=some (Z (bb n2))∧w'.cell? ⟨b2',off2+k*2+1,none⟩=some (V qx2 p2.length capx2)) kR (HKP.out _ hs) (fun _=> ?_);refine tR 0 ?_;refine tR 1 ?_;refine tR 2 ?_;refine tR 3 ?_;refine tR 4 ?_;refine tR 5 ?_;refine tR 6 ?_;refine tR 7 ?_;refine tR 8 ?_;refine tR 9 ?_;refine tR 10 ?_;refine tR 11 ?_;refine tR 12 ?_;refine tR 13 ?_;refine tR 14 ?_;refine tR 15 ?_;refine tR 16 ?_;refine tR 17 ?_;refine tR 18 ?_;refine tR 19 ?_;refine tR 20 ?_;refine tR 21 ?_;refine wR [22] (rC rfl (fun KK hK=> ?_) rN);go_simp;go_at_call 170;with_reducible refine(zGK p1 p2 qx1 qx2 capx1 capx2 XF1.out XF2.out true E1.out XK1.out XK2.out hs).mono ?_;rintro e wq ⟨rfl,hs⟩;refine zK hK (HKP.out _ hs) (fun _=> ?_);clear hK KK
     refine tR 23 ?_;refine tR 24 ?_;refine wpAnyH_done kR ?_ _;go_wp2_with fail;go_roundw
     case rel=>exact⟨k+1,hlt,by go_num,NT2,hs⟩
     case measure=>first|(simp[intOf];done)|(simp[intOf];omega)
    ·as_aux_lemma=>
     have E1:=hQd (decide_eq_false hp);have HRF:=hQd (show r=false by rw[←HR.out];exact decide_eq_false (NX.out (by intro h;cases h;exact hp rfl)));have gn:(n1==n2)=true:=by rw[hn];exact beq_self_eq_true _
     have gn2:(n1 !=n2)=false:=by simp[bne,gn]
     clear hn hp NX NT;go_wp2;have hs:=H.out.drew;refine wp_region_held_drew (S:=fun w'=>w'.cell? ⟨b1',off1+k*2,none⟩=some (Z (bb n1))∧w'.cell? ⟨b1',off1+k*2+1,none⟩=some (V qx1 p1.length capx1)∧w'.cell? ⟨b2',off2+k*2,none⟩=some (Z (bb n2))∧w'.cell? ⟨b2',off2+k*2+1,none⟩=some (V qx2 p2.length capx2)) kR (HKP.out _ hs) (fun _=> ?_);refine tR 0 ?_;refine tR 1 ?_;refine tR 2 ?_;refine tR 3 ?_;refine tR 4 ?_;refine tR 5 ?_;refine tR 6 ?_;refine tR 7 ?_;refine tR 8 ?_;refine tR 9 ?_;refine tR 10 ?_;refine tR 11 ?_;refine tR 12 ?_;refine tR 13 ?_;refine tR 14 ?_;refine tR 15 ?_;refine tR 16 ?_;refine tR 17 ?_;refine tR 18 ?_;refine tR 19 ?_;refine tR 20 ?_;refine tR 21 ?_;refine wR [22] (rC rfl (fun KK hK=> ?_) rN);go_simp;go_at_call 170;with_reducible refine(zGK p1 p2 qx1 qx2 capx1 capx2 XF1.out XF2.out false E1.out XK1.out XK2.out hs).mono ?_;rintro e wq ⟨rfl,hs⟩;refine zK hK (HKP.out _ hs) (fun _=> ?_);clear hK KK
     refine tR 23 ?_;refine tR 24 ?_;refine wpAnyH_done kR ?_ _;go_wp2_with fail;go_ret;exact⟨zAo HRF.out.symm,hs⟩
   ·as_aux_lemma=>
     have HRF:=hQd (show r=false by rw[←HR.out];exact decide_eq_false (NX.out zq39));have gn:(n1==n2)=false:=by simpa using hn
     have gn2:(n1 !=n2)=true:=by simp[bne,gn]
     clear hn NX NT;go_wp2;have hs:=H.out.drew;refine wp_region_held_drew (S:=fun w'=>w'.cell? ⟨b1',off1+k*2,none⟩=some (Z (bb n1))∧w'.cell? ⟨b1',off1+k*2+1,none⟩=some (V qx1 p1.length capx1)∧w'.cell? ⟨b2',off2+k*2,none⟩=some (Z (bb n2))∧w'.cell? ⟨b2',off2+k*2+1,none⟩=some (V qx2 p2.length capx2)) kR (HKP.out _ hs) (fun _=> ?_);refine tR 0 ?_;refine tR 1 ?_;refine tR 2 ?_;refine tR 3 ?_;refine tR 4 ?_;refine tR 5 ?_;refine tR 6 ?_;refine tR 7 ?_;refine tR 8 ?_;refine tR 9 ?_;refine tR 10 ?_;refine tR 11 ?_;refine wpAnyH_take (i:=12) (oi:=⟨some 29,.move (.tmp 0),28,_,_,some (11,false)⟩) (v:=undef) rfl kR kR kR (fun _ _ _ h=>h) (Or.inr ⟨by rfl,rfl⟩) (by assumption) ?_;simp only[Act.put,sA,sB,sC];refine wpAnyH_take (i:=13) (oi:=⟨some 30,.move (.tmp 5),3,_,_,some (11,false)⟩) (v:=undef) rfl kR kR kR (fun _ _ _ h=>h) (Or.inr ⟨by rfl,rfl⟩) (by assumption) ?_;simp only[Act.put,sA,sB,sC];refine wpAnyH_take (i:=14) (oi:=⟨some 31,.indexAddr 28 (.tmp 29) (.tmp 30),0,_,_,some (11,false)⟩) (v:=undef) rfl kR kR kR (fun _ _ _ h=>h) (Or.inr ⟨by rfl,rfl⟩) (by assumption) ?_;simp only[Act.put,sA,sB,sC];refine wpAnyH_take (i:=15) (oi:=⟨some 32,.fieldAddr 173 (.tmp 31) 1,0,_,_,some (11,false)⟩) (v:=undef) rfl kR kR kR (fun _ _ _ h=>h) (Or.inr ⟨by rfl,rfl⟩) (by assumption) ?_;simp only[Act.put,sA,sB,sC];refine wpAnyH_take (i:=16) (oi:=⟨some 33,.load 90 (.tmp 32),90,_,_,some (11,false)⟩) (v:=undef) rfl kR kR kR (fun _ _ _ h=>h) (Or.inr ⟨by rfl,rfl⟩) (by assumption) ?_;simp only[Act.put,sA,sB,sC];refine wpAnyH_take (i:=17) (oi:=⟨some 34,.move (.tmp 1),28,_,_,some (11,false)⟩) (v:=undef) rfl kR kR kR (fun _ _ _ h=>h) (Or.inr ⟨by rfl,rfl⟩) (by assumption) ?_;simp only[Act.put,sA,sB,sC];refine wpAnyH_take (i:=18) (oi:=⟨some 35,.move (.tmp 5),3,_,_,some (11,false)⟩) (v:=undef) rfl kR kR kR (fun _ _ _ h=>h) (Or.inr ⟨by rfl,rfl⟩) (by assumption) ?_;simp only[Act.put,sA,sB,sC];refine wpAnyH_take (i:=19) (oi:=⟨some 36,.indexAddr 28 (.tmp 34) (.tmp 35),0,_,_,some (11,false)⟩) (v:=undef) rfl kR kR kR (fun _ _ _ h=>h) (Or.inr ⟨by rfl,rfl⟩) (by assumption) ?_;simp only[Act.put,sA,sB,sC];refine wpAnyH_take (i:=20) (oi:=⟨some 37,.fieldAddr 173 (.tmp 36) 1,0,_,_,some (11,false)⟩) (v:=undef) rfl kR kR kR (fun _ _ _ h=>h) (Or.inr ⟨by rfl,rfl⟩) (by assumption) ?_;simp only[Act.put,sA,sB,sC];refine wpAnyH_take (i:=21) (oi:=⟨some 38,.load 90 (.tmp 37),90,_,_,some (11,false)⟩) (v:=undef) rfl kR kR kR (fun _ _ _ h=>h) (Or.inr ⟨by rfl,rfl⟩) (by assumption) ?_;simp only[Act.put,sA,sB,sC];refine wpAnyH_take (i:=22) (oi:=⟨some 39,.call {callee:=.value (.func 170),args:= #[.tmp 33,.tmp 38],argTypes:= #[90,90]},4,_,_,some (11,false)⟩) (v:=undef) rfl kR kR kR (fun _ _ _ h=>h) (Or.inr ⟨by rfl,rfl⟩) (by assumption) ?_;simp only[Act.put,sA,sB,sC];refine wpAnyH_take (i:=23) (oi:=⟨some 40,.unOp UnOp.not 4 (.tmp 39),4,_,_,some (11,false)⟩) (v:=undef) rfl kR kR kR (fun _ _ _ h=>h) (Or.inr ⟨by rfl,rfl⟩) (by assumption) ?_;simp only[Act.put,sA,sB,sC];refine tR 24 ?_;refine wpAnyH_done kR ?_ _;go_wp2_with fail;go_ret;exact⟨zAo HRF.out.symm,hs⟩
  ·obtain rfl:k=l1.length:=by omega
   have hall:l1.map (·.1)=l2.map (·.1):=by
    exact zq12
   exact zq20
variable {W0 w:World}{K:Know}{L:List Res}
theorem zMc(nl1 nl2:Bool)(d1 d2:Bs)(tm1 tm2:Int)(p1 p2:Int)(e1 e2:Int)(c1 c2:Bool)(l1 l2:List (TopS×Value))(q1 q2:Option Addr)(cap1 cap2:Nat)(hne:nl1≠nl2)(h:St W0 w K L):
 Calls Jb 63 #[.agg #[U nl1,Z (bb d1),I O tm1,I O p1,I O e1,V q1 l1.length cap1,U c1],.agg #[U nl2,Z (bb d2),I O tm2,I O p2,I O e2,V q2 l2.length cap2,U c2]] w fun en w'=>en=Y (U false)∧St W0 w' K L:=by
 have h0:=(h.allocRaw #[U nl1,Z (bb d1),I O tm1,I O p1,I O e1,V q1 l1.length cap1,U c1] 47).allocRaw #[U nl2,Z (bb d2),I O tm2,I O p2,I O e2,V q2 l2.length cap2,U c2] 47;rw[World.size_alloc]at h0;have H:=hQd h0;have f_nl:(nl1==nl2)=false:=by rw[beq_eq_false_iff_ne];exact hne
 clear h h0 hne;go_enter Tryz.func63,Tryz.ntmps63;go_wp2;go_ret;exact⟨rfl,H.out.drop.drop⟩
theorem zMf(nl:Bool)(d1 d2:Bs)(tm1 tm2:Int)(p1 p2:Int)(e1 e2:Int)(c1 c2:Bool)(l1 l2:List (TopS×Value))(q1 q2:Option Addr)(cap1 cap2:Nat)(hne:d1≠d2)(h:St W0 w K L):
 Calls Jb 63 #[.agg #[U nl,Z (bb d1),I O tm1,I O p1,I O e1,V q1 l1.length cap1,U c1],.agg #[U nl,Z (bb d2),I O tm2,I O p2,I O e2,V q2 l2.length cap2,U c2]] w fun en w'=>en=Y (U false)∧St W0 w' K L:=by
 have h0:=(h.allocRaw #[U nl,Z (bb d1),I O tm1,I O p1,I O e1,V q1 l1.length cap1,U c1] 47).allocRaw #[U nl,Z (bb d2),I O tm2,I O p2,I O e2,V q2 l2.length cap2,U c2] 47;rw[World.size_alloc]at h0;have H:=hQd h0;have e_nl:(nl==nl)=true:=beq_self_eq_true _;have f_d:(d1==d2)=false:=by rw[beq_eq_false_iff_ne];exact hne
 clear h h0 hne;go_enter Tryz.func63,Tryz.ntmps63;go_wp2;go_ret;exact⟨rfl,H.out.drop.drop⟩
theorem zKv(nl:Bool)(d:Bs)(tm1 tm2:Int)(p1 p2:Int)(e1 e2:Int)(c1 c2:Bool)(l1 l2:List (TopS×Value))(q1 q2:Option Addr)(cap1 cap2:Nat)(hne:tm1≠tm2)(h:St W0 w K L):
 Calls Jb 63 #[.agg #[U nl,Z (bb d),I O tm1,I O p1,I O e1,V q1 l1.length cap1,U c1],.agg #[U nl,Z (bb d),I O tm2,I O p2,I O e2,V q2 l2.length cap2,U c2]] w fun en w'=>en=Y (U false)∧St W0 w' K L:=by
 have h0:=(h.allocRaw #[U nl,Z (bb d),I O tm1,I O p1,I O e1,V q1 l1.length cap1,U c1] 47).allocRaw #[U nl,Z (bb d),I O tm2,I O p2,I O e2,V q2 l2.length cap2,U c2] 47;rw[World.size_alloc]at h0;have H:=hQd h0;have e_nl:(nl==nl)=true:=beq_self_eq_true _;have e_d:(d==d)=true:=beq_self_eq_true _;have f_tm:(tm1==tm2)=false:=by rw[beq_eq_false_iff_ne];exact hne
 clear h h0 hne;go_enter Tryz.func63,Tryz.ntmps63;go_wp2;go_ret;exact⟨rfl,H.out.drop.drop⟩
theorem zMb(nl:Bool)(d:Bs)(tm:Int)(p1 p2:Int)(e1 e2:Int)(c1 c2:Bool)(l1 l2:List (TopS×Value))(q1 q2:Option Addr)(cap1 cap2:Nat)(hne:p1≠p2)(h:St W0 w K L):
 Calls Jb 63 #[.agg #[U nl,Z (bb d),I O tm,I O p1,I O e1,V q1 l1.length cap1,U c1],.agg #[U nl,Z (bb d),I O tm,I O p2,I O e2,V q2 l2.length cap2,U c2]] w fun en w'=>en=Y (U false)∧St W0 w' K L:=by
 have h0:=(h.allocRaw #[U nl,Z (bb d),I O tm,I O p1,I O e1,V q1 l1.length cap1,U c1] 47).allocRaw #[U nl,Z (bb d),I O tm,I O p2,I O e2,V q2 l2.length cap2,U c2] 47;rw[World.size_alloc]at h0;have H:=hQd h0;have e_nl:(nl==nl)=true:=beq_self_eq_true _;have e_d:(d==d)=true:=beq_self_eq_true _;have f_p:(p1==p2)=false:=by rw[beq_eq_false_iff_ne];exact hne
 clear h h0 hne;go_enter Tryz.func63,Tryz.ntmps63;go_wp2;go_ret;exact⟨rfl,H.out.drop.drop⟩
theorem zMe(nl:Bool)(d:Bs)(tm:Int)(p:Int)(e1 e2:Int)(c1 c2:Bool)(l1 l2:List (TopS×Value))(q1 q2:Option Addr)(cap1 cap2:Nat)(hne:e1≠e2)(h:St W0 w K L):
 Calls Jb 63 #[.agg #[U nl,Z (bb d),I O tm,I O p,I O e1,V q1 l1.length cap1,U c1],.agg #[U nl,Z (bb d),I O tm,I O p,I O e2,V q2 l2.length cap2,U c2]] w fun en w'=>en=Y (U false)∧St W0 w' K L:=by
 have h0:=(h.allocRaw #[U nl,Z (bb d),I O tm,I O p,I O e1,V q1 l1.length cap1,U c1] 47).allocRaw #[U nl,Z (bb d),I O tm,I O p,I O e2,V q2 l2.length cap2,U c2] 47;rw[World.size_alloc]at h0;have H:=hQd h0;have e_nl:(nl==nl)=true:=beq_self_eq_true _;have e_d:(d==d)=true:=beq_self_eq_true _;have f_e:(e1==e2)=false:=by rw[beq_eq_false_iff_ne];exact hne
 clear h h0 hne;go_enter Tryz.func63,Tryz.ntmps63;go_wp2;go_ret;exact⟨rfl,H.out.drop.drop⟩
theorem zMg(nl:Bool)(d:Bs)(tm:Int)(p:Int)(e:Int)(c1 c2:Bool)(l1 l2:List (TopS×Value))(q1 q2:Option Addr)(cap1 cap2:Nat)(hne:c1≠c2)(h:St W0 w K L):
 Calls Jb 63 #[.agg #[U nl,Z (bb d),I O tm,I O p,I O e,V q1 l1.length cap1,U c1],.agg #[U nl,Z (bb d),I O tm,I O p,I O e,V q2 l2.length cap2,U c2]] w fun en w'=>en=Y (U false)∧St W0 w' K L:=by
 have h0:=(h.allocRaw #[U nl,Z (bb d),I O tm,I O p,I O e,V q1 l1.length cap1,U c1] 47).allocRaw #[U nl,Z (bb d),I O tm,I O p,I O e,V q2 l2.length cap2,U c2] 47;rw[World.size_alloc]at h0;have H:=hQd h0;have e_nl:(nl==nl)=true:=beq_self_eq_true _;have e_d:(d==d)=true:=beq_self_eq_true _;have f_c:(c1==c2)=false:=by rw[beq_eq_false_iff_ne];exact hne
 clear h h0 hne;go_enter Tryz.func63,Tryz.ntmps63;go_wp2;go_ret;exact⟨rfl,H.out.drop.drop⟩
theorem zMd(nl:Bool)(d:Bs)(tm:Int)(p:Int)(e:Int)(c:Bool)(l1 l2:List (TopS×Value))(q1 q2:Option Addr)(cap1 cap2:Nat)(r:Bool)(hr:decide (l1.map (·.1)=l2.map (·.1))=r)(hf1:LenT l1)(hf2:LenT l2)(hk1:K.has (Know.tops (V q1 l1.length cap1) l1))(hk2:K.has (Know.tops (V q2 l2.length cap2) l2))(h:St W0 w K L):
 Calls Jb 63 #[.agg #[U nl,Z (bb d),I O tm,I O p,I O e,V q1 l1.length cap1,U c],.agg #[U nl,Z (bb d),I O tm,I O p,I O e,V q2 l2.length cap2,U c]] w fun en w'=>en=Y (U r)∧St W0 w' K L:=by
 have h0:=(h.allocRaw #[U nl,Z (bb d),I O tm,I O p,I O e,V q1 l1.length cap1,U c] 47).allocRaw #[U nl,Z (bb d),I O tm,I O p,I O e,V q2 l2.length cap2,U c] 47;rw[World.size_alloc]at h0;have H:=hQd h0;have HR:=hQd hr;have HF1:=hQd hf1;have HF2:=hQd hf2;have HK1:=hQd hk1;have HK2:=hQd hk2;clear hr hf1 hf2 hk1 hk2;have e_nl:(nl==nl)=true:=beq_self_eq_true _;have e_d:(d==d)=true:=beq_self_eq_true _;have e_c:(c==c)=true:=beq_self_eq_true _;clear h h0;go_enter Tryz.func63,Tryz.ntmps63;go_wp2_with (go_at_call 114;(with_reducible refine(zBY l1 l2 q1 q2 cap1 cap2 r HR.out HF1.out HF2.out HK1.out HK2.out H.out).zM ?_);clear H;intro wn H);go_ret;exact⟨rfl,H.out.drop.drop⟩
theorem zE5(nl1 nl2:Bool)(d1 d2:Bs)(tm1 tm2 p1 p2 e1 e2:Int)(c1 c2:Bool)(l1 l2:List (TopS×Value))(q1 q2:Option Addr)(cap1 cap2:Nat)(r:Bool)(hr:decide (nl1=nl2∧d1=d2∧tm1=tm2∧p1=p2∧e1=e2∧c1=c2∧l1.map (·.1)=l2.map (·.1))=r)(hf1:LenT l1)(hf2:LenT l2)(hk1:K.has (Know.tops (V q1 l1.length cap1) l1))(hk2:K.has (Know.tops (V q2 l2.length cap2) l2))(h:St W0 w K L):
 Calls Jb 63 #[.agg #[U nl1,Z (bb d1),I O tm1,I O p1,I O e1,V q1 l1.length cap1,U c1],.agg #[U nl2,Z (bb d2),I O tm2,I O p2,I O e2,V q2 l2.length cap2,U c2]] w fun en w'=>en=Y (U r)∧St W0 w' K L:=by
 have no:∀{P:Prop} [Decidable P],¬P→false=decide P:=fun h=>(decide_eq_false h).symm
 subst hr
 by_cases h1:nl1=nl2
 rotate_left
 ·rw[←no (fun x=>h1 x.1)];exact zMc nl1 nl2 d1 d2 tm1 tm2 p1 p2 e1 e2 c1 c2 l1 l2 q1 q2 cap1 cap2 h1 h
 subst h1
 by_cases h2:d1=d2
 rotate_left
 ·rw[←no (fun x=>h2 x.2.1)];exact zMf nl1 d1 d2 tm1 tm2 p1 p2 e1 e2 c1 c2 l1 l2 q1 q2 cap1 cap2 h2 h
 subst h2
 by_cases h3:tm1=tm2
 rotate_left
 ·rw[←no (fun x=>h3 x.2.2.1)];exact zKv nl1 d1 tm1 tm2 p1 p2 e1 e2 c1 c2 l1 l2 q1 q2 cap1 cap2 h3 h
 subst h3
 by_cases h4:p1=p2
 rotate_left
 ·rw[←no (fun x=>h4 x.2.2.2.1)];exact zMb nl1 d1 tm1 p1 p2 e1 e2 c1 c2 l1 l2 q1 q2 cap1 cap2 h4 h
 subst h4
 by_cases h5:e1=e2
 rotate_left
 ·rw[←no (fun x=>h5 x.2.2.2.2.1)];exact zMe nl1 d1 tm1 p1 e1 e2 c1 c2 l1 l2 q1 q2 cap1 cap2 h5 h
 subst h5
 by_cases h6:c1=c2
 rotate_left
 ·rw[←no (fun x=>h6 x.2.2.2.2.2.1)];exact zMg nl1 d1 tm1 p1 e1 c1 c2 l1 l2 q1 q2 cap1 cap2 h6 h
 subst h6;refine zMd nl1 d1 tm1 p1 e1 c1 l1 l2 q1 q2 cap1 cap2 _ ?_ hf1 hf2 hk1 hk2 h
 congr 1
 exact propext ⟨fun x=>⟨rfl,rfl,rfl,rfl,rfl,rfl,x⟩,fun x=>x.2.2.2.2.2.2⟩
theorem zLH{l:List (TopS×Value)}(h:FewT l):LenT l:=⟨by have:=h.1;omega,fun x hx=>by have:=(h.2 x hx).2;omega⟩
theorem zDO(l:List MarkR)(k:Nat)(hk:k<l.length)(m:MarkS)(hx:l[k].m=m):(l.map MarkR.m).take (k+1)=(l.map MarkR.m).take k++[m]:=by
 rw[Jf (by rw[Jj];exact hk),List.getElem_map,hx]
theorem zS9(l1 l2:List MarkR)(k:Nat)(h1:k<l1.length)(h2:k<l2.length)(m1 m2:MarkS)(hx1:l1[k].m=m1)(hx2:l2[k].m=m2)(hne:m1≠m2):l1.map MarkR.m≠l2.map MarkR.m:=by
 intro h
 apply hne
 have a1:(l1.map MarkR.m)[k]? =some m1:=by rw[List.getElem?_map,List.getElem?_eq_getElem h1,←hx1];rfl
 have a2:(l2.map MarkR.m)[k]? =some m2:=by rw[List.getElem?_map,List.getElem?_eq_getElem h2,←hx2];rfl
 rw[h,a2]at a1;exact(Option.some.inj a1).symm
theorem zR1(l1 l2:List MarkR)(h:l1.length≠l2.length):l1.map MarkR.m≠l2.map MarkR.m:=by
 intro h2
 apply h
 have:=congrArg List.length h2
 rwa [Jj,Jj]at this
end Go.Proofs.YteldcbljedeeiaaGreatDoor
