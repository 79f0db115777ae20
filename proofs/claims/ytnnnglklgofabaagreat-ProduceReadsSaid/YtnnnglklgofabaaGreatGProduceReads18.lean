/- A text. -/
import Derived.Test.YtnnnglklgofabaaGreatGProduceReads14
import Derived.Test.YtnnnglklgofabaaGreatGProduceReads5
import Derived.Test.YtnnnglklgofabaaGreatGProduceReads17
import Derived.Test.YtnnnglklgofabaaGreatGProduceReads12
import Derived.Test.YtnnnglklgofabaaGreatGProduceReads4
import Derived.Test.YtnnnglklgofabaaGreatGProduceReads10
import Derived.RegionTactic
import Derived.Deep.RegionHeld3
import Derived.Deep.DeepCutAuto
import Derived.WalkMore
import Derived.Test.YtnnnglklgofabaaGreatGProduceReads2
import Derived.SizedLaws
import Derived.Deep.Slices
import Derived.Lib.SmallJoins
import Derived.Test.YtnnnglklgofabaaGreatGProduceReads8
import Derived.Test.YtnnnglklgofabaaGreatGProduceReads9
import Derived.Test.YtnnnglklgofabaaGreatGProduceReads16
/- A text. -/
namespace Go.Proofs.YtnnnglklgofabaaGreat
open Go.RowKit
set_option maxHeartbeats 4000000
set_option maxRecDepth 100000
theorem zOE(base1:Int)(leader1 leader2:Int)(app1 app2:Bool)(txn1 txn2:Bool)(ctl1 ctl2:Bool)(last1 last2:Int)(first1 first2:Int)(maxt1 maxt2:Int)(prod1 prod2:Int)(epoch1 epoch2:Int)(seq1 seq2:Int)(l1 l2:List (RecS×Value))(q1 q2:Option Addr)(cap1 cap2:Nat)(hne:leader1≠leader2){W0 w:World}{K:Know}{L:List Res}(h:St W0 w K L):
 Calls Tryz.prog 85 #[.agg #[.int .i64 base1,.int .i64 leader1,.bool app1,.bool txn1,.bool ctl1,.int .i64 last1,.int .i64 first1,.int .i64 maxt1,.int .i64 prod1,.int .i64 epoch1,.int .i64 seq1,.slice q1 l1.length cap1],.agg #[.int .i64 base1,.int .i64 leader2,.bool app2,.bool txn2,.bool ctl2,.int .i64 last2,.int .i64 first2,.int .i64 maxt2,.int .i64 prod2,.int .i64 epoch2,.int .i64 seq2,.slice q2 l2.length cap2]] w fun en w'=>en=.returned (.bool false)∧St W0 w' K L:=by
 obtain⟨hb,hhb⟩:∃b,w.heap.size=b:=⟨_,rfl⟩;have h1:=(h.allocRaw #[.int .i64 base1,.int .i64 leader1,.bool app1,.bool txn1,.bool ctl1,.int .i64 last1,.int .i64 first1,.int .i64 maxt1,.int .i64 prod1,.int .i64 epoch1,.int .i64 seq1,.slice q1 l1.length cap1] 58).allocRaw #[.int .i64 base1,.int .i64 leader2,.bool app2,.bool txn2,.bool ctl2,.int .i64 last2,.int .i64 first2,.int .i64 maxt2,.int .i64 prod2,.int .i64 epoch2,.int .i64 seq2,.slice q2 l2.length cap2] 58;rw[World.size_alloc,hhb]at h1;obtain⟨hc,hhc⟩:∃b,hb+1=b:=⟨_,rfl⟩;rw[hhc]at h1;obtain⟨b0,b1,b2,b3,b4,b5,b6,b7,b8,b9,b10,b11,fb0,fb1,fb2,fb3,fb4,fb5,fb6,fb7,fb8,fb9,fb10,fb11⟩:=zAe (b:=hc) h1;obtain⟨a0,a1,a2,a3,a4,a5,a6,a7,a8,a9,a10,a11,fa0,fa1,fa2,fa3,fa4,fa5,fa6,fa7,fa8,fa9,fa10,fa11⟩:=zAe (b:=hb) h1.p1;have H:=hQd h1;have g1:(leader1==leader2)=false:=by simpa using hne
 have g2:(leader1 !=leader2)=true:=by simp[bne,g1]
 clear h h1 hne fa0 fb0 fa1 fb1 fa2 fb2 fa3 fb3 fa4 fb4 fa5 fb5 fa6 fb6 fa7 fb7 fa8 fb8 fa9 fb9 fa10 fb10 fa11 fb11;go_enter Tryz.func85,Tryz.ntmps85;go_wp2;go_ret;exact⟨rfl,H.out.drop.drop⟩
theorem zOD(base1:Int)(leader1:Int)(app1 app2:Bool)(txn1 txn2:Bool)(ctl1 ctl2:Bool)(last1 last2:Int)(first1 first2:Int)(maxt1 maxt2:Int)(prod1 prod2:Int)(epoch1 epoch2:Int)(seq1 seq2:Int)(l1 l2:List (RecS×Value))(q1 q2:Option Addr)(cap1 cap2:Nat)(hne:app1≠app2){W0 w:World}{K:Know}{L:List Res}(h:St W0 w K L):
 Calls Tryz.prog 85 #[.agg #[.int .i64 base1,.int .i64 leader1,.bool app1,.bool txn1,.bool ctl1,.int .i64 last1,.int .i64 first1,.int .i64 maxt1,.int .i64 prod1,.int .i64 epoch1,.int .i64 seq1,.slice q1 l1.length cap1],.agg #[.int .i64 base1,.int .i64 leader1,.bool app2,.bool txn2,.bool ctl2,.int .i64 last2,.int .i64 first2,.int .i64 maxt2,.int .i64 prod2,.int .i64 epoch2,.int .i64 seq2,.slice q2 l2.length cap2]] w fun en w'=>en=.returned (.bool false)∧St W0 w' K L:=by
 obtain⟨hb,hhb⟩:∃b,w.heap.size=b:=⟨_,rfl⟩;have h1:=(h.allocRaw #[.int .i64 base1,.int .i64 leader1,.bool app1,.bool txn1,.bool ctl1,.int .i64 last1,.int .i64 first1,.int .i64 maxt1,.int .i64 prod1,.int .i64 epoch1,.int .i64 seq1,.slice q1 l1.length cap1] 58).allocRaw #[.int .i64 base1,.int .i64 leader1,.bool app2,.bool txn2,.bool ctl2,.int .i64 last2,.int .i64 first2,.int .i64 maxt2,.int .i64 prod2,.int .i64 epoch2,.int .i64 seq2,.slice q2 l2.length cap2] 58;rw[World.size_alloc,hhb]at h1;obtain⟨hc,hhc⟩:∃b,hb+1=b:=⟨_,rfl⟩;rw[hhc]at h1;obtain⟨b0,b1,b2,b3,b4,b5,b6,b7,b8,b9,b10,b11,fb0,fb1,fb2,fb3,fb4,fb5,fb6,fb7,fb8,fb9,fb10,fb11⟩:=zAe (b:=hc) h1;obtain⟨a0,a1,a2,a3,a4,a5,a6,a7,a8,a9,a10,a11,fa0,fa1,fa2,fa3,fa4,fa5,fa6,fa7,fa8,fa9,fa10,fa11⟩:=zAe (b:=hb) h1.p1;have H:=hQd h1;have g1:(app1==app2)=false:=by simpa using hne
 have g2:(app1 !=app2)=true:=by simp[bne,g1]
 clear h h1 hne fa0 fb0 fa1 fb1 fa2 fb2 fa3 fb3 fa4 fb4 fa5 fb5 fa6 fb6 fa7 fb7 fa8 fb8 fa9 fb9 fa10 fb10 fa11 fb11;go_enter Tryz.func85,Tryz.ntmps85;go_wp2;go_ret;exact⟨rfl,H.out.drop.drop⟩
theorem zOC(base1:Int)(leader1:Int)(app1:Bool)(txn1 txn2:Bool)(ctl1 ctl2:Bool)(last1 last2:Int)(first1 first2:Int)(maxt1 maxt2:Int)(prod1 prod2:Int)(epoch1 epoch2:Int)(seq1 seq2:Int)(l1 l2:List (RecS×Value))(q1 q2:Option Addr)(cap1 cap2:Nat)(hne:txn1≠txn2){W0 w:World}{K:Know}{L:List Res}(h:St W0 w K L):
 Calls Tryz.prog 85 #[.agg #[.int .i64 base1,.int .i64 leader1,.bool app1,.bool txn1,.bool ctl1,.int .i64 last1,.int .i64 first1,.int .i64 maxt1,.int .i64 prod1,.int .i64 epoch1,.int .i64 seq1,.slice q1 l1.length cap1],.agg #[.int .i64 base1,.int .i64 leader1,.bool app1,.bool txn2,.bool ctl2,.int .i64 last2,.int .i64 first2,.int .i64 maxt2,.int .i64 prod2,.int .i64 epoch2,.int .i64 seq2,.slice q2 l2.length cap2]] w fun en w'=>en=.returned (.bool false)∧St W0 w' K L:=by
 obtain⟨hb,hhb⟩:∃b,w.heap.size=b:=⟨_,rfl⟩;have h1:=(h.allocRaw #[.int .i64 base1,.int .i64 leader1,.bool app1,.bool txn1,.bool ctl1,.int .i64 last1,.int .i64 first1,.int .i64 maxt1,.int .i64 prod1,.int .i64 epoch1,.int .i64 seq1,.slice q1 l1.length cap1] 58).allocRaw #[.int .i64 base1,.int .i64 leader1,.bool app1,.bool txn2,.bool ctl2,.int .i64 last2,.int .i64 first2,.int .i64 maxt2,.int .i64 prod2,.int .i64 epoch2,.int .i64 seq2,.slice q2 l2.length cap2] 58;rw[World.size_alloc,hhb]at h1;obtain⟨hc,hhc⟩:∃b,hb+1=b:=⟨_,rfl⟩;rw[hhc]at h1;obtain⟨b0,b1,b2,b3,b4,b5,b6,b7,b8,b9,b10,b11,fb0,fb1,fb2,fb3,fb4,fb5,fb6,fb7,fb8,fb9,fb10,fb11⟩:=zAe (b:=hc) h1;obtain⟨a0,a1,a2,a3,a4,a5,a6,a7,a8,a9,a10,a11,fa0,fa1,fa2,fa3,fa4,fa5,fa6,fa7,fa8,fa9,fa10,fa11⟩:=zAe (b:=hb) h1.p1;have H:=hQd h1;have g1:(txn1==txn2)=false:=by simpa using hne
 have g2:(txn1 !=txn2)=true:=by simp[bne,g1]
 clear h h1 hne fa0 fb0 fa1 fb1 fa2 fb2 fa3 fb3 fa4 fb4 fa5 fb5 fa6 fb6 fa7 fb7 fa8 fb8 fa9 fb9 fa10 fb10 fa11 fb11;go_enter Tryz.func85,Tryz.ntmps85;go_wp2;go_ret;exact⟨rfl,H.out.drop.drop⟩
theorem zOB(base1:Int)(leader1:Int)(app1:Bool)(txn1:Bool)(ctl1 ctl2:Bool)(last1 last2:Int)(first1 first2:Int)(maxt1 maxt2:Int)(prod1 prod2:Int)(epoch1 epoch2:Int)(seq1 seq2:Int)(l1 l2:List (RecS×Value))(q1 q2:Option Addr)(cap1 cap2:Nat)(hne:ctl1≠ctl2){W0 w:World}{K:Know}{L:List Res}(h:St W0 w K L):
 Calls Tryz.prog 85 #[.agg #[.int .i64 base1,.int .i64 leader1,.bool app1,.bool txn1,.bool ctl1,.int .i64 last1,.int .i64 first1,.int .i64 maxt1,.int .i64 prod1,.int .i64 epoch1,.int .i64 seq1,.slice q1 l1.length cap1],.agg #[.int .i64 base1,.int .i64 leader1,.bool app1,.bool txn1,.bool ctl2,.int .i64 last2,.int .i64 first2,.int .i64 maxt2,.int .i64 prod2,.int .i64 epoch2,.int .i64 seq2,.slice q2 l2.length cap2]] w fun en w'=>en=.returned (.bool false)∧St W0 w' K L:=by
 obtain⟨hb,hhb⟩:∃b,w.heap.size=b:=⟨_,rfl⟩;have h1:=(h.allocRaw #[.int .i64 base1,.int .i64 leader1,.bool app1,.bool txn1,.bool ctl1,.int .i64 last1,.int .i64 first1,.int .i64 maxt1,.int .i64 prod1,.int .i64 epoch1,.int .i64 seq1,.slice q1 l1.length cap1] 58).allocRaw #[.int .i64 base1,.int .i64 leader1,.bool app1,.bool txn1,.bool ctl2,.int .i64 last2,.int .i64 first2,.int .i64 maxt2,.int .i64 prod2,.int .i64 epoch2,.int .i64 seq2,.slice q2 l2.length cap2] 58;rw[World.size_alloc,hhb]at h1;obtain⟨hc,hhc⟩:∃b,hb+1=b:=⟨_,rfl⟩;rw[hhc]at h1;obtain⟨b0,b1,b2,b3,b4,b5,b6,b7,b8,b9,b10,b11,fb0,fb1,fb2,fb3,fb4,fb5,fb6,fb7,fb8,fb9,fb10,fb11⟩:=zAe (b:=hc) h1;obtain⟨a0,a1,a2,a3,a4,a5,a6,a7,a8,a9,a10,a11,fa0,fa1,fa2,fa3,fa4,fa5,fa6,fa7,fa8,fa9,fa10,fa11⟩:=zAe (b:=hb) h1.p1;have H:=hQd h1;have g1:(ctl1==ctl2)=false:=by simpa using hne
 have g2:(ctl1 !=ctl2)=true:=by simp[bne,g1]
 clear h h1 hne fa0 fb0 fa1 fb1 fa2 fb2 fa3 fb3 fa4 fb4 fa5 fb5 fa6 fb6 fa7 fb7 fa8 fb8 fa9 fb9 fa10 fb10 fa11 fb11;go_enter Tryz.func85,Tryz.ntmps85;go_wp2;go_ret;exact⟨rfl,H.out.drop.drop⟩
theorem zOA(base1:Int)(leader1:Int)(app1:Bool)(txn1:Bool)(ctl1:Bool)(last1 last2:Int)(first1 first2:Int)(maxt1 maxt2:Int)(prod1 prod2:Int)(epoch1 epoch2:Int)(seq1 seq2:Int)(l1 l2:List (RecS×Value))(q1 q2:Option Addr)(cap1 cap2:Nat)(hne:last1≠last2){W0 w:World}{K:Know}{L:List Res}(h:St W0 w K L):
 Calls Tryz.prog 85 #[.agg #[.int .i64 base1,.int .i64 leader1,.bool app1,.bool txn1,.bool ctl1,.int .i64 last1,.int .i64 first1,.int .i64 maxt1,.int .i64 prod1,.int .i64 epoch1,.int .i64 seq1,.slice q1 l1.length cap1],.agg #[.int .i64 base1,.int .i64 leader1,.bool app1,.bool txn1,.bool ctl1,.int .i64 last2,.int .i64 first2,.int .i64 maxt2,.int .i64 prod2,.int .i64 epoch2,.int .i64 seq2,.slice q2 l2.length cap2]] w fun en w'=>en=.returned (.bool false)∧St W0 w' K L:=by
 obtain⟨hb,hhb⟩:∃b,w.heap.size=b:=⟨_,rfl⟩;have h1:=(h.allocRaw #[.int .i64 base1,.int .i64 leader1,.bool app1,.bool txn1,.bool ctl1,.int .i64 last1,.int .i64 first1,.int .i64 maxt1,.int .i64 prod1,.int .i64 epoch1,.int .i64 seq1,.slice q1 l1.length cap1] 58).allocRaw #[.int .i64 base1,.int .i64 leader1,.bool app1,.bool txn1,.bool ctl1,.int .i64 last2,.int .i64 first2,.int .i64 maxt2,.int .i64 prod2,.int .i64 epoch2,.int .i64 seq2,.slice q2 l2.length cap2] 58;rw[World.size_alloc,hhb]at h1;obtain⟨hc,hhc⟩:∃b,hb+1=b:=⟨_,rfl⟩;rw[hhc]at h1;obtain⟨b0,b1,b2,b3,b4,b5,b6,b7,b8,b9,b10,b11,fb0,fb1,fb2,fb3,fb4,fb5,fb6,fb7,fb8,fb9,fb10,fb11⟩:=zAe (b:=hc) h1;obtain⟨a0,a1,a2,a3,a4,a5,a6,a7,a8,a9,a10,a11,fa0,fa1,fa2,fa3,fa4,fa5,fa6,fa7,fa8,fa9,fa10,fa11⟩:=zAe (b:=hb) h1.p1;have H:=hQd h1;have g1:(last1==last2)=false:=by simpa using hne
 have g2:(last1 !=last2)=true:=by simp[bne,g1]
 clear h h1 hne fa0 fb0 fa1 fb1 fa2 fb2 fa3 fb3 fa4 fb4 fa5 fb5 fa6 fb6 fa7 fb7 fa8 fb8 fa9 fb9 fa10 fb10 fa11 fb11;go_enter Tryz.func85,Tryz.ntmps85;go_wp2;go_ret;exact⟨rfl,H.out.drop.drop⟩
theorem zOz(base1:Int)(leader1:Int)(app1:Bool)(txn1:Bool)(ctl1:Bool)(last1:Int)(first1 first2:Int)(maxt1 maxt2:Int)(prod1 prod2:Int)(epoch1 epoch2:Int)(seq1 seq2:Int)(l1 l2:List (RecS×Value))(q1 q2:Option Addr)(cap1 cap2:Nat)(hne:first1≠first2){W0 w:World}{K:Know}{L:List Res}(h:St W0 w K L):
 Calls Tryz.prog 85 #[.agg #[.int .i64 base1,.int .i64 leader1,.bool app1,.bool txn1,.bool ctl1,.int .i64 last1,.int .i64 first1,.int .i64 maxt1,.int .i64 prod1,.int .i64 epoch1,.int .i64 seq1,.slice q1 l1.length cap1],.agg #[.int .i64 base1,.int .i64 leader1,.bool app1,.bool txn1,.bool ctl1,.int .i64 last1,.int .i64 first2,.int .i64 maxt2,.int .i64 prod2,.int .i64 epoch2,.int .i64 seq2,.slice q2 l2.length cap2]] w fun en w'=>en=.returned (.bool false)∧St W0 w' K L:=by
 obtain⟨hb,hhb⟩:∃b,w.heap.size=b:=⟨_,rfl⟩;have h1:=(h.allocRaw #[.int .i64 base1,.int .i64 leader1,.bool app1,.bool txn1,.bool ctl1,.int .i64 last1,.int .i64 first1,.int .i64 maxt1,.int .i64 prod1,.int .i64 epoch1,.int .i64 seq1,.slice q1 l1.length cap1] 58).allocRaw #[.int .i64 base1,.int .i64 leader1,.bool app1,.bool txn1,.bool ctl1,.int .i64 last1,.int .i64 first2,.int .i64 maxt2,.int .i64 prod2,.int .i64 epoch2,.int .i64 seq2,.slice q2 l2.length cap2] 58;rw[World.size_alloc,hhb]at h1;obtain⟨hc,hhc⟩:∃b,hb+1=b:=⟨_,rfl⟩;rw[hhc]at h1;obtain⟨b0,b1,b2,b3,b4,b5,b6,b7,b8,b9,b10,b11,fb0,fb1,fb2,fb3,fb4,fb5,fb6,fb7,fb8,fb9,fb10,fb11⟩:=zAe (b:=hc) h1;obtain⟨a0,a1,a2,a3,a4,a5,a6,a7,a8,a9,a10,a11,fa0,fa1,fa2,fa3,fa4,fa5,fa6,fa7,fa8,fa9,fa10,fa11⟩:=zAe (b:=hb) h1.p1;have H:=hQd h1;have g1:(first1==first2)=false:=by simpa using hne
 have g2:(first1 !=first2)=true:=by simp[bne,g1]
 clear h h1 hne fa0 fb0 fa1 fb1 fa2 fb2 fa3 fb3 fa4 fb4 fa5 fb5 fa6 fb6 fa7 fb7 fa8 fb8 fa9 fb9 fa10 fb10 fa11 fb11;go_enter Tryz.func85,Tryz.ntmps85;go_wp2;go_ret;exact⟨rfl,H.out.drop.drop⟩
theorem zOy(base1:Int)(leader1:Int)(app1:Bool)(txn1:Bool)(ctl1:Bool)(last1:Int)(first1:Int)(maxt1 maxt2:Int)(prod1 prod2:Int)(epoch1 epoch2:Int)(seq1 seq2:Int)(l1 l2:List (RecS×Value))(q1 q2:Option Addr)(cap1 cap2:Nat)(hne:maxt1≠maxt2){W0 w:World}{K:Know}{L:List Res}(h:St W0 w K L):
 Calls Tryz.prog 85 #[.agg #[.int .i64 base1,.int .i64 leader1,.bool app1,.bool txn1,.bool ctl1,.int .i64 last1,.int .i64 first1,.int .i64 maxt1,.int .i64 prod1,.int .i64 epoch1,.int .i64 seq1,.slice q1 l1.length cap1],.agg #[.int .i64 base1,.int .i64 leader1,.bool app1,.bool txn1,.bool ctl1,.int .i64 last1,.int .i64 first1,.int .i64 maxt2,.int .i64 prod2,.int .i64 epoch2,.int .i64 seq2,.slice q2 l2.length cap2]] w fun en w'=>en=.returned (.bool false)∧St W0 w' K L:=by
 obtain⟨hb,hhb⟩:∃b,w.heap.size=b:=⟨_,rfl⟩;have h1:=(h.allocRaw #[.int .i64 base1,.int .i64 leader1,.bool app1,.bool txn1,.bool ctl1,.int .i64 last1,.int .i64 first1,.int .i64 maxt1,.int .i64 prod1,.int .i64 epoch1,.int .i64 seq1,.slice q1 l1.length cap1] 58).allocRaw #[.int .i64 base1,.int .i64 leader1,.bool app1,.bool txn1,.bool ctl1,.int .i64 last1,.int .i64 first1,.int .i64 maxt2,.int .i64 prod2,.int .i64 epoch2,.int .i64 seq2,.slice q2 l2.length cap2] 58;rw[World.size_alloc,hhb]at h1;obtain⟨hc,hhc⟩:∃b,hb+1=b:=⟨_,rfl⟩;rw[hhc]at h1;obtain⟨b0,b1,b2,b3,b4,b5,b6,b7,b8,b9,b10,b11,fb0,fb1,fb2,fb3,fb4,fb5,fb6,fb7,fb8,fb9,fb10,fb11⟩:=zAe (b:=hc) h1;obtain⟨a0,a1,a2,a3,a4,a5,a6,a7,a8,a9,a10,a11,fa0,fa1,fa2,fa3,fa4,fa5,fa6,fa7,fa8,fa9,fa10,fa11⟩:=zAe (b:=hb) h1.p1;have H:=hQd h1;have g1:(maxt1==maxt2)=false:=by simpa using hne
 have g2:(maxt1 !=maxt2)=true:=by simp[bne,g1]
 clear h h1 hne fa0 fb0 fa1 fb1 fa2 fb2 fa3 fb3 fa4 fb4 fa5 fb5 fa6 fb6 fa7 fb7 fa8 fb8 fa9 fb9 fa10 fb10 fa11 fb11;go_enter Tryz.func85,Tryz.ntmps85;go_wp2;go_ret;exact⟨rfl,H.out.drop.drop⟩
theorem zOx(base1:Int)(leader1:Int)(app1:Bool)(txn1:Bool)(ctl1:Bool)(last1:Int)(first1:Int)(maxt1:Int)(prod1 prod2:Int)(epoch1 epoch2:Int)(seq1 seq2:Int)(l1 l2:List (RecS×Value))(q1 q2:Option Addr)(cap1 cap2:Nat)(hne:prod1≠prod2){W0 w:World}{K:Know}{L:List Res}(h:St W0 w K L):
 Calls Tryz.prog 85 #[.agg #[.int .i64 base1,.int .i64 leader1,.bool app1,.bool txn1,.bool ctl1,.int .i64 last1,.int .i64 first1,.int .i64 maxt1,.int .i64 prod1,.int .i64 epoch1,.int .i64 seq1,.slice q1 l1.length cap1],.agg #[.int .i64 base1,.int .i64 leader1,.bool app1,.bool txn1,.bool ctl1,.int .i64 last1,.int .i64 first1,.int .i64 maxt1,.int .i64 prod2,.int .i64 epoch2,.int .i64 seq2,.slice q2 l2.length cap2]] w fun en w'=>en=.returned (.bool false)∧St W0 w' K L:=by
 obtain⟨hb,hhb⟩:∃b,w.heap.size=b:=⟨_,rfl⟩;have h1:=(h.allocRaw #[.int .i64 base1,.int .i64 leader1,.bool app1,.bool txn1,.bool ctl1,.int .i64 last1,.int .i64 first1,.int .i64 maxt1,.int .i64 prod1,.int .i64 epoch1,.int .i64 seq1,.slice q1 l1.length cap1] 58).allocRaw #[.int .i64 base1,.int .i64 leader1,.bool app1,.bool txn1,.bool ctl1,.int .i64 last1,.int .i64 first1,.int .i64 maxt1,.int .i64 prod2,.int .i64 epoch2,.int .i64 seq2,.slice q2 l2.length cap2] 58;rw[World.size_alloc,hhb]at h1;obtain⟨hc,hhc⟩:∃b,hb+1=b:=⟨_,rfl⟩;rw[hhc]at h1;obtain⟨b0,b1,b2,b3,b4,b5,b6,b7,b8,b9,b10,b11,fb0,fb1,fb2,fb3,fb4,fb5,fb6,fb7,fb8,fb9,fb10,fb11⟩:=zAe (b:=hc) h1;obtain⟨a0,a1,a2,a3,a4,a5,a6,a7,a8,a9,a10,a11,fa0,fa1,fa2,fa3,fa4,fa5,fa6,fa7,fa8,fa9,fa10,fa11⟩:=zAe (b:=hb) h1.p1;have H:=hQd h1;have g1:(prod1==prod2)=false:=by simpa using hne
 have g2:(prod1 !=prod2)=true:=by simp[bne,g1]
 clear h h1 hne fa0 fb0 fa1 fb1 fa2 fb2 fa3 fb3 fa4 fb4 fa5 fb5 fa6 fb6 fa7 fb7 fa8 fb8 fa9 fb9 fa10 fb10 fa11 fb11;go_enter Tryz.func85,Tryz.ntmps85;go_wp2;go_ret;exact⟨rfl,H.out.drop.drop⟩
theorem zOw(base1:Int)(leader1:Int)(app1:Bool)(txn1:Bool)(ctl1:Bool)(last1:Int)(first1:Int)(maxt1:Int)(prod1:Int)(epoch1 epoch2:Int)(seq1 seq2:Int)(l1 l2:List (RecS×Value))(q1 q2:Option Addr)(cap1 cap2:Nat)(hne:epoch1≠epoch2){W0 w:World}{K:Know}{L:List Res}(h:St W0 w K L):
 Calls Tryz.prog 85 #[.agg #[.int .i64 base1,.int .i64 leader1,.bool app1,.bool txn1,.bool ctl1,.int .i64 last1,.int .i64 first1,.int .i64 maxt1,.int .i64 prod1,.int .i64 epoch1,.int .i64 seq1,.slice q1 l1.length cap1],.agg #[.int .i64 base1,.int .i64 leader1,.bool app1,.bool txn1,.bool ctl1,.int .i64 last1,.int .i64 first1,.int .i64 maxt1,.int .i64 prod1,.int .i64 epoch2,.int .i64 seq2,.slice q2 l2.length cap2]] w fun en w'=>en=.returned (.bool false)∧St W0 w' K L:=by
 obtain⟨hb,hhb⟩:∃b,w.heap.size=b:=⟨_,rfl⟩;have h1:=(h.allocRaw #[.int .i64 base1,.int .i64 leader1,.bool app1,.bool txn1,.bool ctl1,.int .i64 last1,.int .i64 first1,.int .i64 maxt1,.int .i64 prod1,.int .i64 epoch1,.int .i64 seq1,.slice q1 l1.length cap1] 58).allocRaw #[.int .i64 base1,.int .i64 leader1,.bool app1,.bool txn1,.bool ctl1,.int .i64 last1,.int .i64 first1,.int .i64 maxt1,.int .i64 prod1,.int .i64 epoch2,.int .i64 seq2,.slice q2 l2.length cap2] 58;rw[World.size_alloc,hhb]at h1;obtain⟨hc,hhc⟩:∃b,hb+1=b:=⟨_,rfl⟩;rw[hhc]at h1;obtain⟨b0,b1,b2,b3,b4,b5,b6,b7,b8,b9,b10,b11,fb0,fb1,fb2,fb3,fb4,fb5,fb6,fb7,fb8,fb9,fb10,fb11⟩:=zAe (b:=hc) h1;obtain⟨a0,a1,a2,a3,a4,a5,a6,a7,a8,a9,a10,a11,fa0,fa1,fa2,fa3,fa4,fa5,fa6,fa7,fa8,fa9,fa10,fa11⟩:=zAe (b:=hb) h1.p1;have H:=hQd h1;have g1:(epoch1==epoch2)=false:=by simpa using hne
 have g2:(epoch1 !=epoch2)=true:=by simp[bne,g1]
 clear h h1 hne fa0 fb0 fa1 fb1 fa2 fb2 fa3 fb3 fa4 fb4 fa5 fb5 fa6 fb6 fa7 fb7 fa8 fb8 fa9 fb9 fa10 fb10 fa11 fb11;go_enter Tryz.func85,Tryz.ntmps85;go_wp2;go_ret;exact⟨rfl,H.out.drop.drop⟩
theorem zNt(base1:Int)(leader1:Int)(app1:Bool)(txn1:Bool)(ctl1:Bool)(last1:Int)(first1:Int)(maxt1:Int)(prod1:Int)(epoch1:Int)(seq1 seq2:Int)(l1 l2:List (RecS×Value))(q1 q2:Option Addr)(cap1 cap2:Nat)(hne:seq1≠seq2){W0 w:World}{K:Know}{L:List Res}(h:St W0 w K L):
 Calls Tryz.prog 85 #[.agg #[.int .i64 base1,.int .i64 leader1,.bool app1,.bool txn1,.bool ctl1,.int .i64 last1,.int .i64 first1,.int .i64 maxt1,.int .i64 prod1,.int .i64 epoch1,.int .i64 seq1,.slice q1 l1.length cap1],.agg #[.int .i64 base1,.int .i64 leader1,.bool app1,.bool txn1,.bool ctl1,.int .i64 last1,.int .i64 first1,.int .i64 maxt1,.int .i64 prod1,.int .i64 epoch1,.int .i64 seq2,.slice q2 l2.length cap2]] w fun en w'=>en=.returned (.bool false)∧St W0 w' K L:=by
 obtain⟨hb,hhb⟩:∃b,w.heap.size=b:=⟨_,rfl⟩;have h1:=(h.allocRaw #[.int .i64 base1,.int .i64 leader1,.bool app1,.bool txn1,.bool ctl1,.int .i64 last1,.int .i64 first1,.int .i64 maxt1,.int .i64 prod1,.int .i64 epoch1,.int .i64 seq1,.slice q1 l1.length cap1] 58).allocRaw #[.int .i64 base1,.int .i64 leader1,.bool app1,.bool txn1,.bool ctl1,.int .i64 last1,.int .i64 first1,.int .i64 maxt1,.int .i64 prod1,.int .i64 epoch1,.int .i64 seq2,.slice q2 l2.length cap2] 58;rw[World.size_alloc,hhb]at h1;obtain⟨hc,hhc⟩:∃b,hb+1=b:=⟨_,rfl⟩;rw[hhc]at h1;obtain⟨b0,b1,b2,b3,b4,b5,b6,b7,b8,b9,b10,b11,fb0,fb1,fb2,fb3,fb4,fb5,fb6,fb7,fb8,fb9,fb10,fb11⟩:=zAe (b:=hc) h1;obtain⟨a0,a1,a2,a3,a4,a5,a6,a7,a8,a9,a10,a11,fa0,fa1,fa2,fa3,fa4,fa5,fa6,fa7,fa8,fa9,fa10,fa11⟩:=zAe (b:=hb) h1.p1;have H:=hQd h1;have g1:(seq1==seq2)=false:=by simpa using hne
 have g2:(seq1 !=seq2)=true:=by simp[bne,g1]
 clear h h1 hne fa0 fb0 fa1 fb1 fa2 fb2 fa3 fb3 fa4 fb4 fa5 fb5 fa6 fb6 fa7 fb7 fa8 fb8 fa9 fb9 fa10 fb10 fa11 fb11;go_enter Tryz.func85,Tryz.ntmps85;go_wp2;go_ret;exact⟨rfl,H.out.drop.drop⟩
theorem zNs(base1:Int)(leader1:Int)(app1:Bool)(txn1:Bool)(ctl1:Bool)(last1:Int)(first1:Int)(maxt1:Int)(prod1:Int)(epoch1:Int)(seq1:Int)(l1 l2:List (RecS×Value))(q1 q2:Option Addr)(cap1 cap2:Nat)(hne:l1.length≠l2.length){W0 w:World}{K:Know}{L:List Res}(h:St W0 w K L):
 Calls Tryz.prog 85 #[.agg #[.int .i64 base1,.int .i64 leader1,.bool app1,.bool txn1,.bool ctl1,.int .i64 last1,.int .i64 first1,.int .i64 maxt1,.int .i64 prod1,.int .i64 epoch1,.int .i64 seq1,.slice q1 l1.length cap1],.agg #[.int .i64 base1,.int .i64 leader1,.bool app1,.bool txn1,.bool ctl1,.int .i64 last1,.int .i64 first1,.int .i64 maxt1,.int .i64 prod1,.int .i64 epoch1,.int .i64 seq1,.slice q2 l2.length cap2]] w fun en w'=>en=.returned (.bool false)∧St W0 w' K L:=by
 obtain⟨hb,hhb⟩:∃b,w.heap.size=b:=⟨_,rfl⟩;have h1:=(h.allocRaw #[.int .i64 base1,.int .i64 leader1,.bool app1,.bool txn1,.bool ctl1,.int .i64 last1,.int .i64 first1,.int .i64 maxt1,.int .i64 prod1,.int .i64 epoch1,.int .i64 seq1,.slice q1 l1.length cap1] 58).allocRaw #[.int .i64 base1,.int .i64 leader1,.bool app1,.bool txn1,.bool ctl1,.int .i64 last1,.int .i64 first1,.int .i64 maxt1,.int .i64 prod1,.int .i64 epoch1,.int .i64 seq1,.slice q2 l2.length cap2] 58;rw[World.size_alloc,hhb]at h1;obtain⟨hc,hhc⟩:∃b,hb+1=b:=⟨_,rfl⟩;rw[hhc]at h1;obtain⟨b0,b1,b2,b3,b4,b5,b6,b7,b8,b9,b10,b11,fb0,fb1,fb2,fb3,fb4,fb5,fb6,fb7,fb8,fb9,fb10,fb11⟩:=zAe (b:=hc) h1;obtain⟨a0,a1,a2,a3,a4,a5,a6,a7,a8,a9,a10,a11,fa0,fa1,fa2,fa3,fa4,fa5,fa6,fa7,fa8,fa9,fa10,fa11⟩:=zAe (b:=hb) h1.p1;have H:=hQd h1;have g1:((l1.length:Int)==(l2.length:Int))=false:=by rw[beq_eq_false_iff_ne];omega
 have g2:((l1.length:Int) !=(l2.length:Int))=true:=by simp[bne,g1]
 have g3:¬((l1.length:Int)=(l2.length:Int)):=by omega
 clear h h1 hne fa0 fb0 fa1 fb1 fa2 fb2 fa3 fb3 fa4 fb4 fa5 fb5 fa6 fb6 fa7 fb7 fa8 fb8 fa9 fb9 fa10 fb10 fa11 fb11;go_enter Tryz.func85,Tryz.ntmps85;go_wp2;go_ret;exact⟨rfl,H.out.drop.drop⟩
variable {W0 w:World}{K:Know}{L:List Res}
theorem zq61{p:Prop}(h:p:=by intro hh;injection hh;contradiction):p:=h
theorem zLr(base1:Int)(leader1:Int)(app1:Bool)(txn1:Bool)(ctl1:Bool)(last1:Int)(first1:Int)(maxt1:Int)(prod1:Int)(epoch1:Int)(seq1:Int)(base2:Int)(leader2:Int)(app2:Bool)(txn2:Bool)(ctl2:Bool)(last2:Int)(first2:Int)(maxt2:Int)(prod2:Int)(epoch2:Int)(seq2:Int)(l1 l2:List (RecS×Value))(q1 q2:Option Addr)(cap1 cap2:Nat)(hn:l1.length≤1000000)(r:Bool)(hr:decide ((⟨base1,leader1,app1,txn1,ctl1,last1,first1,maxt1,prod1,epoch1,seq1,l1.map (·.1)⟩:BatS)=(⟨base2,leader2,app2,txn2,ctl2,last2,first2,maxt2,prod2,epoch2,seq2,l2.map (·.1)⟩:BatS))=r)(hf1:∀x∈l1,x.1.hdrs.length≤9223372036854775807)(hf2:∀x∈l2,x.1.hdrs.length≤9223372036854775807)(hk1:K.has (Know.recs (.slice q1 l1.length cap1) l1))(hk2:K.has (Know.recs (.slice q2 l2.length cap2) l2))(h:St W0 w K L):
 Calls Tryz.prog 85 #[.agg #[.int .i64 base1,.int .i64 leader1,.bool app1,.bool txn1,.bool ctl1,.int .i64 last1,.int .i64 first1,.int .i64 maxt1,.int .i64 prod1,.int .i64 epoch1,.int .i64 seq1,.slice q1 l1.length cap1],.agg #[.int .i64 base2,.int .i64 leader2,.bool app2,.bool txn2,.bool ctl2,.int .i64 last2,.int .i64 first2,.int .i64 maxt2,.int .i64 prod2,.int .i64 epoch2,.int .i64 seq2,.slice q2 l2.length cap2]] w fun en w'=>en=.returned (.bool r)∧St W0 w' K L:=by
 by_cases h0:base1=base2
 rotate_left
 ·obtain rfl:r=false:=zB8 zq61 hr;exact zOF base1 base2 leader1 leader2 app1 app2 txn1 txn2 ctl1 ctl2 last1 last2 first1 first2 maxt1 maxt2 prod1 prod2 epoch1 epoch2 seq1 seq2 l1 l2 q1 q2 cap1 cap2 h0 h
 subst h0
 by_cases h1:leader1=leader2
 rotate_left
 ·obtain rfl:r=false:=zB8 zq61 hr;exact zOE base1 leader1 leader2 app1 app2 txn1 txn2 ctl1 ctl2 last1 last2 first1 first2 maxt1 maxt2 prod1 prod2 epoch1 epoch2 seq1 seq2 l1 l2 q1 q2 cap1 cap2 h1 h
 subst h1
 by_cases h2:app1=app2
 rotate_left
 ·obtain rfl:r=false:=zB8 zq61 hr;exact zOD base1 leader1 app1 app2 txn1 txn2 ctl1 ctl2 last1 last2 first1 first2 maxt1 maxt2 prod1 prod2 epoch1 epoch2 seq1 seq2 l1 l2 q1 q2 cap1 cap2 h2 h
 subst h2
 by_cases h3:txn1=txn2
 rotate_left
 ·obtain rfl:r=false:=zB8 zq61 hr;exact zOC base1 leader1 app1 txn1 txn2 ctl1 ctl2 last1 last2 first1 first2 maxt1 maxt2 prod1 prod2 epoch1 epoch2 seq1 seq2 l1 l2 q1 q2 cap1 cap2 h3 h
 subst h3
 by_cases h4:ctl1=ctl2
 rotate_left
 ·obtain rfl:r=false:=zB8 zq61 hr;exact zOB base1 leader1 app1 txn1 ctl1 ctl2 last1 last2 first1 first2 maxt1 maxt2 prod1 prod2 epoch1 epoch2 seq1 seq2 l1 l2 q1 q2 cap1 cap2 h4 h
 subst h4
 by_cases h5:last1=last2
 rotate_left
 ·obtain rfl:r=false:=zB8 zq61 hr;exact zOA base1 leader1 app1 txn1 ctl1 last1 last2 first1 first2 maxt1 maxt2 prod1 prod2 epoch1 epoch2 seq1 seq2 l1 l2 q1 q2 cap1 cap2 h5 h
 subst h5
 by_cases h6:first1=first2
 rotate_left
 ·obtain rfl:r=false:=zB8 zq61 hr;exact zOz base1 leader1 app1 txn1 ctl1 last1 first1 first2 maxt1 maxt2 prod1 prod2 epoch1 epoch2 seq1 seq2 l1 l2 q1 q2 cap1 cap2 h6 h
 subst h6
 by_cases h7:maxt1=maxt2
 rotate_left
 ·obtain rfl:r=false:=zB8 zq61 hr;exact zOy base1 leader1 app1 txn1 ctl1 last1 first1 maxt1 maxt2 prod1 prod2 epoch1 epoch2 seq1 seq2 l1 l2 q1 q2 cap1 cap2 h7 h
 subst h7
 by_cases h8:prod1=prod2
 rotate_left
 ·obtain rfl:r=false:=zB8 zq61 hr;exact zOx base1 leader1 app1 txn1 ctl1 last1 first1 maxt1 prod1 prod2 epoch1 epoch2 seq1 seq2 l1 l2 q1 q2 cap1 cap2 h8 h
 subst h8
 by_cases h9:epoch1=epoch2
 rotate_left
 ·obtain rfl:r=false:=zB8 zq61 hr;exact zOw base1 leader1 app1 txn1 ctl1 last1 first1 maxt1 prod1 epoch1 epoch2 seq1 seq2 l1 l2 q1 q2 cap1 cap2 h9 h
 subst h9
 by_cases h10:seq1=seq2
 rotate_left
 ·obtain rfl:r=false:=zB8 zq61 hr;exact zNt base1 leader1 app1 txn1 ctl1 last1 first1 maxt1 prod1 epoch1 seq1 seq2 l1 l2 q1 q2 cap1 cap2 h10 h
 subst h10
 by_cases h11:l1.length=l2.length
 rotate_left
 ·obtain rfl:r=false:=zB8 (zK7 _ _ _ _ _ _ _ _ _ _ _ _ _ _ _ _ _ _ _ _ _ _ _ _ (zNR _ _ h11)) hr;exact zNs base1 leader1 app1 txn1 ctl1 last1 first1 maxt1 prod1 epoch1 seq1 l1 l2 q1 q2 cap1 cap2 h11 h
 exact zLq base1 leader1 app1 txn1 ctl1 last1 first1 maxt1 prod1 epoch1 seq1 l1 l2 q1 q2 cap1 cap2 hn h11 r hr hf1 hf2 hk1 hk2 h
theorem zGl(x y:BatS)(l1 l2:List (RecS×Value))(q1 q2:Option Addr)(cap1 cap2:Nat)(hn:l1.length≤1000000)(hx:l1.map (·.1)=x.recs)(hy:l2.map (·.1)=y.recs)(r:Bool)(hr:decide (x=y)=r)(hf1:∀x∈l1,x.1.hdrs.length≤9223372036854775807)(hf2:∀x∈l2,x.1.hdrs.length≤9223372036854775807)(hk1:K.has (Know.recs (.slice q1 l1.length cap1) l1))(hk2:K.has (Know.recs (.slice q2 l2.length cap2) l2))(h:St W0 w K L):
 Calls Tryz.prog 85 #[.agg #[.int .i64 x.base,.int .i64 x.leader,.bool x.app,.bool x.txn,.bool x.ctl,.int .i64 x.last,.int .i64 x.first,.int .i64 x.maxt,.int .i64 x.prod,.int .i64 x.epoch,.int .i64 x.seq,.slice q1 l1.length cap1],.agg #[.int .i64 y.base,.int .i64 y.leader,.bool y.app,.bool y.txn,.bool y.ctl,.int .i64 y.last,.int .i64 y.first,.int .i64 y.maxt,.int .i64 y.prod,.int .i64 y.epoch,.int .i64 y.seq,.slice q2 l2.length cap2]] w fun en w'=>en=.returned (.bool r)∧St W0 w' K L:=
 zLr x.base x.leader x.app x.txn x.ctl x.last x.first x.maxt x.prod x.epoch x.seq y.base y.leader y.app y.txn y.ctl y.last y.first y.maxt y.prod y.epoch y.seq l1 l2 q1 q2 cap1 cap2 hn r (by rw[hx,hy];exact hr) hf1 hf2 hk1 hk2 h
set_option maxHeartbeats 8000000
theorem zGm(l1 l2:List BatR)(q1 q2:Option Addr)(cap1 cap2:Nat)(r:Bool)(hr:decide (l1.map BatR.b=l2.map BatR.b)=r)(hn:l1.length≤4398046511104)(hf1:∀x∈l1,EqR x)(hf2:∀x∈l2,EqR x){W0 w:World}{K:Know}{L:List Res}(hk1:K.has (Know.bats (.slice q1 l1.length cap1) l1))(hk2:K.has (Know.bats (.slice q2 l2.length cap2) l2))(h:St W0 w K L):
 Calls Tryz.prog 51 #[.slice q1 l1.length cap1,.slice q2 l2.length cap2] w fun en w'=>en=.returned (.bool r)∧St W0 w' K L:=by
 have H:=hQd h;have HK1:=hQd hk1;have HK2:=hQd hk2;have HF1:=hQd hf1;have HF2:=hQd hf2;have hni:(l1.length:Int)≤4398046511104:=by omega
 clear h hk1 hk2 hf1 hf2 hn
 by_cases hlen:l1.length=l2.length
 rotate_left
 ·have hr2:r=false:=by rw[←hr];exact decide_eq_false (zD8 _ _ _ hlen)
  have g1:((l1.length:Int)==(l2.length:Int))=false:=by rw[beq_eq_false_iff_ne];omega
  have g2:((l1.length:Int) !=(l2.length:Int))=true:=by simp[bne,g1]
  have g3:¬((l1.length:Int)=(l2.length:Int)):=by omega
  subst hr2;clear hlen hr;go_enter Tryz.func51,Tryz.ntmps51;go_wp2;go_ret;exact⟨rfl,H.out⟩
 have HLEN:=hQd hlen;have HR:=hQd hr;have g1:((l1.length:Int)==(l2.length:Int))=true:=by rw[hlen];exact beq_self_eq_true _
 have g2:((l1.length:Int) !=(l2.length:Int))=false:=by simp[bne,g1]
 clear hr hlen;go_enter Tryz.func51,Tryz.ntmps51;go_wp2;clear g1 g2;go_loopw [5] (fun iv wr=>∃k:Nat,k≤l1.length∧iv=.int .i64 k∧Hid ((l1.map BatR.b).take k=(l2.map BatR.b).take k)∧St W0 wr K L) (fun iv _=>l1.length - (intOf iv).toNat)
 case atStart=>exact⟨0,Nat.zero_le _,rfl,hQd (by simp),H.out⟩
 case round=>
  obtain⟨k,hkl,rfl,heq,hst⟩:=hrel;clear H;have H:=hQd hst;clear hst
  by_cases hlt:k<l1.length
  ·have hlt2:k<l2.length:=by have:=HLEN.out;omega
   obtain⟨bk1,off1,hqq1⟩:=zFn HK1.out H.out oM;subst hqq1;obtain⟨z1,hx1⟩:∃x,l1[k]=x:=⟨_,rfl⟩;have hmem1:z1∈l1:=hx1 ▸ List.getElem_mem _;have XE1:=hQd (HF1.out z1 hmem1);have XK1:=hQd (zC6 HK1.out hmem1);have HX1:=hQd (show(l1[k]).b=z1.b by rw[hx1]);have HXX1:=hQd hx1;clear hmem1 hx1;obtain⟨bk2,off2,hqq2⟩:=zFn HK2.out H.out oM;subst hqq2;obtain⟨z2,hx2⟩:∃x,l2[k]=x:=⟨_,rfl⟩;have hmem2:z2∈l2:=hx2 ▸ List.getElem_mem _;have XE2:=hQd (HF2.out z2 hmem2);have XK2:=hQd (zC6 HK2.out hmem2);have HX2:=hQd (show(l2[k]).b=z2.b by rw[hx2]);have HXX2:=hQd hx2;clear hmem2 hx2;have hkn:(k:Int)<(l1.length:Int):=by omega
   have hkn2:(k:Int)<(l2.length:Int):=by omega
   have NX:=hQd (show z1.b≠z2.b→l1.map BatR.b≠l2.map BatR.b from zCR _ l1 l2 k hlt hlt2 _ _ HX1.out HX2.out);have NT:=hQd (show z1.b=z2.b→(l1.map BatR.b).take (k+1)=(l2.map BatR.b).take (k+1)from fun e=>by rw[zBi _ l1 k hlt _ HX1.out,zBi _ l2 k hlt2 _ HX2.out,heq.out,e])
   have HKP:=hQd (show ∀w',St W0 w' K L→(w'.cell? ⟨bk1,off1+k*12,none⟩=some (.int .i64 z1.b.base)∧w'.cell? ⟨bk1,off1+k*12+1,none⟩=some (.int .i64 z1.b.leader)∧w'.cell? ⟨bk1,off1+k*12+2,none⟩=some (.bool z1.b.app)∧w'.cell? ⟨bk1,off1+k*12+3,none⟩=some (.bool z1.b.txn)∧w'.cell? ⟨bk1,off1+k*12+4,none⟩=some (.bool z1.b.ctl)∧w'.cell? ⟨bk1,off1+k*12+5,none⟩=some (.int .i64 z1.b.last)∧w'.cell? ⟨bk1,off1+k*12+6,none⟩=some (.int .i64 z1.b.first)∧w'.cell? ⟨bk1,off1+k*12+7,none⟩=some (.int .i64 z1.b.maxt)∧w'.cell? ⟨bk1,off1+k*12+8,none⟩=some (.int .i64 z1.b.prod)∧w'.cell? ⟨bk1,off1+k*12+9,none⟩=some (.int .i64 z1.b.epoch)∧w'.cell? ⟨bk1,off1+k*12+10,none⟩=some (.int .i64 z1.b.seq)∧w'.cell? ⟨bk1,off1+k*12+11,none⟩=some (.slice z1.q z1.l.length z1.cap)∧w'.cell? ⟨bk2,off2+k*12,none⟩=some (.int .i64 z2.b.base)∧w'.cell? ⟨bk2,off2+k*12+1,none⟩=some (.int .i64 z2.b.leader)∧w'.cell? ⟨bk2,off2+k*12+2,none⟩=some (.bool z2.b.app)∧w'.cell? ⟨bk2,off2+k*12+3,none⟩=some (.bool z2.b.txn)∧w'.cell? ⟨bk2,off2+k*12+4,none⟩=some (.bool z2.b.ctl)∧w'.cell? ⟨bk2,off2+k*12+5,none⟩=some (.int .i64 z2.b.last)∧w'.cell? ⟨bk2,off2+k*12+6,none⟩=some (.int .i64 z2.b.first)∧w'.cell? ⟨bk2,off2+k*12+7,none⟩=some (.int .i64 z2.b.maxt)∧w'.cell? ⟨bk2,off2+k*12+8,none⟩=some (.int .i64 z2.b.prod)∧w'.cell? ⟨bk2,off2+k*12+9,none⟩=some (.int .i64 z2.b.epoch)∧w'.cell? ⟨bk2,off2+k*12+10,none⟩=some (.int .i64 z2.b.seq)∧w'.cell? ⟨bk2,off2+k*12+11,none⟩=some (.slice z2.q z2.l.length z2.cap))from fun w' hs=>by
    obtain⟨a0,a1,a2,a3,a4,a5,a6,a7,a8,a9,a10,a11⟩:=zBF HK1.out hs k hlt _ HXX1.out;obtain⟨d0,d1,d2,d3,d4,d5,d6,d7,d8,d9,d10,d11⟩:=zBF HK2.out hs k hlt2 _ HXX2.out
    exact⟨a0,a1,a2,a3,a4,a5,a6,a7,a8,a9,a10,a11,d0,d1,d2,d3,d4,d5,d6,d7,d8,d9,d10,d11⟩)
   clear HX1 HX2 HXX1 HXX2
   by_cases hxy:z1.b=z2.b
   ·have E1:=hQd (decide_eq_true hxy);have NT2:=hQd (NT.out hxy);clear hxy NX NT;go_wp2;have hs:=H.out.drew;refine wp_region_held_drew (S:=fun w'=>w'.cell? ⟨bk1,off1+k*12,none⟩=some (.int .i64 z1.b.base)∧w'.cell? ⟨bk1,off1+k*12+1,none⟩=some (.int .i64 z1.b.leader)∧w'.cell? ⟨bk1,off1+k*12+2,none⟩=some (.bool z1.b.app)∧w'.cell? ⟨bk1,off1+k*12+3,none⟩=some (.bool z1.b.txn)∧w'.cell? ⟨bk1,off1+k*12+4,none⟩=some (.bool z1.b.ctl)∧w'.cell? ⟨bk1,off1+k*12+5,none⟩=some (.int .i64 z1.b.last)∧w'.cell? ⟨bk1,off1+k*12+6,none⟩=some (.int .i64 z1.b.first)∧w'.cell? ⟨bk1,off1+k*12+7,none⟩=some (.int .i64 z1.b.maxt)∧w'.cell? ⟨bk1,off1+k*12+8,none⟩=some (.int .i64 z1.b.prod)∧w'.cell? ⟨bk1,off1+k*12+9,none⟩=some (.int .i64 z1.b.epoch)∧w'.cell? ⟨bk1,off1+k*12+10,none⟩=some (.int .i64 z1.b.seq)∧w'.cell? ⟨bk1,off1+k*12+11,none⟩=some (.slice z1.q z1.l.length z1.cap)∧w'.cell? ⟨bk2,off2+k*12,none⟩=some (.int .i64 z2.b.base)∧w'.cell? ⟨bk2,off2+k*12+1,none⟩=some (.int .i64 z2.b.leader)∧w'.cell? ⟨bk2,off2+k*12+2,none⟩=some (.bool z2.b.app)∧w'.cell? ⟨bk2,off2+k*12+3,none⟩=some (.bool z2.b.txn)∧w'.cell? ⟨bk2,off2+k*12+4,none⟩=some (.bool z2.b.ctl)∧w'.cell? ⟨bk2,off2+k*12+5,none⟩=some (.int .i64 z2.b.last)∧w'.cell? ⟨bk2,off2+k*12+6,none⟩=some (.int .i64 z2.b.first)∧w'.cell? ⟨bk2,off2+k*12+7,none⟩=some (.int .i64 z2.b.maxt)∧w'.cell? ⟨bk2,off2+k*12+8,none⟩=some (.int .i64 z2.b.prod)∧w'.cell? ⟨bk2,off2+k*12+9,none⟩=some (.int .i64 z2.b.epoch)∧w'.cell? ⟨bk2,off2+k*12+10,none⟩=some (.int .i64 z2.b.seq)∧w'.cell? ⟨bk2,off2+k*12+11,none⟩=some (.slice z2.q z2.l.length z2.cap)) (by kernel_rfl) (HKP.out _ hs) (fun hHeld=> ?_);refine tR 0 ?_;refine tR 1 ?_;refine tR 2 ?_;refine tR 3 ?_;refine tR 4 ?_;refine tR 5 ?_;refine tR 6 ?_;refine tR 7 ?_;refine wR [8] (rC rfl (fun KK hK=> ?_) rN);go_simp;go_at_call 85;with_reducible refine(zGl z1.b z2.b z1.l z2.l _ _ _ _ XE1.out.len XE1.out.recs XE2.out.recs _ E1.out XE1.out.hdrs XE2.out.hdrs XK1.out XK2.out hs).mono ?_;rintro e wq ⟨rfl,hs⟩;refine zK hK (HKP.out _ hs) (fun hHeld=> ?_);clear hK KK
    refine tR 9 ?_;refine wpAnyH_done (by kernel_rfl) ?_ _;clear hHeld;go_wp2_with fail;go_roundw
    case rel=>exact⟨k+1,hlt,by go_num,NT2,hs⟩
    case measure=>first|(simp[intOf];done)|(simp[intOf];omega)
   ·have E1:=hQd (decide_eq_false hxy);have HRF:=hQd (show r=false by rw[←HR.out];exact decide_eq_false (NX.out hxy));clear hxy NX NT;go_wp2;have hs:=H.out.drew;refine wp_region_held_drew (S:=fun w'=>w'.cell? ⟨bk1,off1+k*12,none⟩=some (.int .i64 z1.b.base)∧w'.cell? ⟨bk1,off1+k*12+1,none⟩=some (.int .i64 z1.b.leader)∧w'.cell? ⟨bk1,off1+k*12+2,none⟩=some (.bool z1.b.app)∧w'.cell? ⟨bk1,off1+k*12+3,none⟩=some (.bool z1.b.txn)∧w'.cell? ⟨bk1,off1+k*12+4,none⟩=some (.bool z1.b.ctl)∧w'.cell? ⟨bk1,off1+k*12+5,none⟩=some (.int .i64 z1.b.last)∧w'.cell? ⟨bk1,off1+k*12+6,none⟩=some (.int .i64 z1.b.first)∧w'.cell? ⟨bk1,off1+k*12+7,none⟩=some (.int .i64 z1.b.maxt)∧w'.cell? ⟨bk1,off1+k*12+8,none⟩=some (.int .i64 z1.b.prod)∧w'.cell? ⟨bk1,off1+k*12+9,none⟩=some (.int .i64 z1.b.epoch)∧w'.cell? ⟨bk1,off1+k*12+10,none⟩=some (.int .i64 z1.b.seq)∧w'.cell? ⟨bk1,off1+k*12+11,none⟩=some (.slice z1.q z1.l.length z1.cap)∧w'.cell? ⟨bk2,off2+k*12,none⟩=some (.int .i64 z2.b.base)∧w'.cell? ⟨bk2,off2+k*12+1,none⟩=some (.int .i64 z2.b.leader)∧w'.cell? ⟨bk2,off2+k*12+2,none⟩=some (.bool z2.b.app)∧w'.cell? ⟨bk2,off2+k*12+3,none⟩=some (.bool z2.b.txn)∧w'.cell? ⟨bk2,off2+k*12+4,none⟩=some (.bool z2.b.ctl)∧w'.cell? ⟨bk2,off2+k*12+5,none⟩=some (.int .i64 z2.b.last)∧w'.cell? ⟨bk2,off2+k*12+6,none⟩=some (.int .i64 z2.b.first)∧w'.cell? ⟨bk2,off2+k*12+7,none⟩=some (.int .i64 z2.b.maxt)∧w'.cell? ⟨bk2,off2+k*12+8,none⟩=some (.int .i64 z2.b.prod)∧w'.cell? ⟨bk2,off2+k*12+9,none⟩=some (.int .i64 z2.b.epoch)∧w'.cell? ⟨bk2,off2+k*12+10,none⟩=some (.int .i64 z2.b.seq)∧w'.cell? ⟨bk2,off2+k*12+11,none⟩=some (.slice z2.q z2.l.length z2.cap)) (by kernel_rfl) (HKP.out _ hs) (fun hHeld=> ?_);refine tR 0 ?_;refine tR 1 ?_;refine tR 2 ?_;refine tR 3 ?_;refine tR 4 ?_;refine tR 5 ?_;refine tR 6 ?_;refine tR 7 ?_;refine wR [8] (rC rfl (fun KK hK=> ?_) rN);go_simp;go_at_call 85;with_reducible refine(zGl z1.b z2.b z1.l z2.l _ _ _ _ XE1.out.len XE1.out.recs XE2.out.recs _ E1.out XE1.out.hdrs XE2.out.hdrs XK1.out XK2.out hs).mono ?_;rintro e wq ⟨rfl,hs⟩;refine zK hK (HKP.out _ hs) (fun hHeld=> ?_);clear hK KK
    refine tR 9 ?_;refine wpAnyH_done (by kernel_rfl) ?_ _;clear hHeld;go_wp2_with fail;go_ret;exact⟨zAB HRF.out.symm,hs⟩
  ·obtain rfl:k=l1.length:=by omega
   have hall:l1.map BatR.b=l2.map BatR.b:=by
    exact zq37
   have HRT:=hQd (show r=true by rw[←HR.out,hall];exact decide_eq_true rfl);clear hall;go_wp2;go_ret;exact⟨zAB HRT.out.symm,H.out⟩
variable {W0 w:World}{K:Know}{L:List Res}
theorem zIu(dd1 dd2:Bs)(ac1 ac2:Int)(tm1 tm2:Int)(l1 l2:List PTop)(q1 q2:Option Addr)(cap1 cap2:Nat)(h:St W0 w K L):
 Calls Tryz.prog 17 #[.agg #[.bool true,.string (bb dd1),.int .i64 ac1,.int .i64 tm1,.slice q1 l1.length cap1],.agg #[.bool false,.string (bb dd2),.int .i64 ac2,.int .i64 tm2,.slice q2 l2.length cap2]] w fun en w'=>en=.returned (.bool false)∧St W0 w' K L:=by
 obtain⟨ra,hra⟩:∃b,w.heap.size=b:=⟨_,rfl⟩;obtain⟨rb,hrb⟩:∃b,ra+1=b:=⟨_,rfl⟩;have h0:=(h.allocRaw #[.bool true,.string (bb dd1),.int .i64 ac1,.int .i64 tm1,.slice q1 l1.length cap1] 40).allocRaw #[.bool false,.string (bb dd2),.int .i64 ac2,.int .i64 tm2,.slice q2 l2.length cap2] 40;simp only[World.size_alloc,hra,hrb]at h0;have y0:=h0.rawCell 0;have x0:=h0.p1.rawCell 0;have y1:=h0.rawCell 1;have x1:=h0.p1.rawCell 1;have y2:=h0.rawCell 2;have x2:=h0.p1.rawCell 2;have y3:=h0.rawCell 3;have x3:=h0.p1.rawCell 3;have y4:=h0.rawCell 4;have x4:=h0.p1.rawCell 4;simp at x0 y0 x1 y1 x2 y2 x3 y3 x4 y4;have H:=hQd h0;clear h h0;go_enter Tryz.func17,Tryz.ntmps17;go_wp2;go_ret;exact⟨rfl,H.out.drop.drop⟩
theorem zIt(dd1 dd2:Bs)(ac1 ac2:Int)(tm1 tm2:Int)(l1 l2:List PTop)(q1 q2:Option Addr)(cap1 cap2:Nat)(h:St W0 w K L):
 Calls Tryz.prog 17 #[.agg #[.bool false,.string (bb dd1),.int .i64 ac1,.int .i64 tm1,.slice q1 l1.length cap1],.agg #[.bool true,.string (bb dd2),.int .i64 ac2,.int .i64 tm2,.slice q2 l2.length cap2]] w fun en w'=>en=.returned (.bool false)∧St W0 w' K L:=by
 obtain⟨ra,hra⟩:∃b,w.heap.size=b:=⟨_,rfl⟩;obtain⟨rb,hrb⟩:∃b,ra+1=b:=⟨_,rfl⟩;have h0:=(h.allocRaw #[.bool false,.string (bb dd1),.int .i64 ac1,.int .i64 tm1,.slice q1 l1.length cap1] 40).allocRaw #[.bool true,.string (bb dd2),.int .i64 ac2,.int .i64 tm2,.slice q2 l2.length cap2] 40;simp only[World.size_alloc,hra,hrb]at h0;have y0:=h0.rawCell 0;have x0:=h0.p1.rawCell 0;have y1:=h0.rawCell 1;have x1:=h0.p1.rawCell 1;have y2:=h0.rawCell 2;have x2:=h0.p1.rawCell 2;have y3:=h0.rawCell 3;have x3:=h0.p1.rawCell 3;have y4:=h0.rawCell 4;have x4:=h0.p1.rawCell 4;simp at x0 y0 x1 y1 x2 y2 x3 y3 x4 y4;have H:=hQd h0;clear h h0;go_enter Tryz.func17,Tryz.ntmps17;go_wp2;go_ret;exact⟨rfl,H.out.drop.drop⟩
theorem zJR(nl:Bool)(dd1 dd2:Bs)(ac1 ac2:Int)(tm1 tm2:Int)(l1 l2:List PTop)(q1 q2:Option Addr)(cap1 cap2:Nat)(hne:dd1≠dd2)(h:St W0 w K L):
 Calls Tryz.prog 17 #[.agg #[.bool nl,.string (bb dd1),.int .i64 ac1,.int .i64 tm1,.slice q1 l1.length cap1],.agg #[.bool nl,.string (bb dd2),.int .i64 ac2,.int .i64 tm2,.slice q2 l2.length cap2]] w fun en w'=>en=.returned (.bool false)∧St W0 w' K L:=by
 obtain⟨ra,hra⟩:∃b,w.heap.size=b:=⟨_,rfl⟩;obtain⟨rb,hrb⟩:∃b,ra+1=b:=⟨_,rfl⟩;have h0:=(h.allocRaw #[.bool nl,.string (bb dd1),.int .i64 ac1,.int .i64 tm1,.slice q1 l1.length cap1] 40).allocRaw #[.bool nl,.string (bb dd2),.int .i64 ac2,.int .i64 tm2,.slice q2 l2.length cap2] 40;simp only[World.size_alloc,hra,hrb]at h0;have y0:=h0.rawCell 0;have x0:=h0.p1.rawCell 0;have y1:=h0.rawCell 1;have x1:=h0.p1.rawCell 1;have y2:=h0.rawCell 2;have x2:=h0.p1.rawCell 2;have y3:=h0.rawCell 3;have x3:=h0.p1.rawCell 3;have y4:=h0.rawCell 4;have x4:=h0.p1.rawCell 4;simp at x0 y0 x1 y1 x2 y2 x3 y3 x4 y4;have H:=hQd h0;clear h h0;have g1:(dd1==dd2)=false:=by simpa using hne
 have g2:(dd1 !=dd2)=true:=by simpa using hne
 have g3:¬dd1=dd2:=hne;clear hne;go_enter Tryz.func17,Tryz.ntmps17;go_wp2;go_ret;exact⟨rfl,H.out.drop.drop⟩
theorem zJS(nl:Bool)(dd:Bs)(ac1 ac2:Int)(tm1 tm2:Int)(l1 l2:List PTop)(q1 q2:Option Addr)(cap1 cap2:Nat)(hne:ac1≠ac2)(h:St W0 w K L):
 Calls Tryz.prog 17 #[.agg #[.bool nl,.string (bb dd),.int .i64 ac1,.int .i64 tm1,.slice q1 l1.length cap1],.agg #[.bool nl,.string (bb dd),.int .i64 ac2,.int .i64 tm2,.slice q2 l2.length cap2]] w fun en w'=>en=.returned (.bool false)∧St W0 w' K L:=by
 obtain⟨ra,hra⟩:∃b,w.heap.size=b:=⟨_,rfl⟩;obtain⟨rb,hrb⟩:∃b,ra+1=b:=⟨_,rfl⟩;have h0:=(h.allocRaw #[.bool nl,.string (bb dd),.int .i64 ac1,.int .i64 tm1,.slice q1 l1.length cap1] 40).allocRaw #[.bool nl,.string (bb dd),.int .i64 ac2,.int .i64 tm2,.slice q2 l2.length cap2] 40;simp only[World.size_alloc,hra,hrb]at h0;have y0:=h0.rawCell 0;have x0:=h0.p1.rawCell 0;have y1:=h0.rawCell 1;have x1:=h0.p1.rawCell 1;have y2:=h0.rawCell 2;have x2:=h0.p1.rawCell 2;have y3:=h0.rawCell 3;have x3:=h0.p1.rawCell 3;have y4:=h0.rawCell 4;have x4:=h0.p1.rawCell 4;simp at x0 y0 x1 y1 x2 y2 x3 y3 x4 y4;have H:=hQd h0;clear h h0;have g1:(ac1==ac2)=false:=by simpa using hne
 have g2:(ac1 !=ac2)=true:=by simpa using hne
 have g3:¬ac1=ac2:=hne;clear hne;go_enter Tryz.func17,Tryz.ntmps17;go_wp2;go_ret;exact⟨rfl,H.out.drop.drop⟩
theorem zJO(nl:Bool)(dd:Bs)(ac:Int)(tm1 tm2:Int)(l1 l2:List PTop)(q1 q2:Option Addr)(cap1 cap2:Nat)(hne:tm1≠tm2)(h:St W0 w K L):
 Calls Tryz.prog 17 #[.agg #[.bool nl,.string (bb dd),.int .i64 ac,.int .i64 tm1,.slice q1 l1.length cap1],.agg #[.bool nl,.string (bb dd),.int .i64 ac,.int .i64 tm2,.slice q2 l2.length cap2]] w fun en w'=>en=.returned (.bool false)∧St W0 w' K L:=by
 obtain⟨ra,hra⟩:∃b,w.heap.size=b:=⟨_,rfl⟩;obtain⟨rb,hrb⟩:∃b,ra+1=b:=⟨_,rfl⟩;have h0:=(h.allocRaw #[.bool nl,.string (bb dd),.int .i64 ac,.int .i64 tm1,.slice q1 l1.length cap1] 40).allocRaw #[.bool nl,.string (bb dd),.int .i64 ac,.int .i64 tm2,.slice q2 l2.length cap2] 40;simp only[World.size_alloc,hra,hrb]at h0;have y0:=h0.rawCell 0;have x0:=h0.p1.rawCell 0;have y1:=h0.rawCell 1;have x1:=h0.p1.rawCell 1;have y2:=h0.rawCell 2;have x2:=h0.p1.rawCell 2;have y3:=h0.rawCell 3;have x3:=h0.p1.rawCell 3;have y4:=h0.rawCell 4;have x4:=h0.p1.rawCell 4;simp at x0 y0 x1 y1 x2 y2 x3 y3 x4 y4;have H:=hQd h0;clear h h0;have g1:(tm1==tm2)=false:=by simpa using hne
 have g2:(tm1 !=tm2)=true:=by simpa using hne
 have g3:¬tm1=tm2:=hne;clear hne;go_enter Tryz.func17,Tryz.ntmps17;go_wp2;go_ret;exact⟨rfl,H.out.drop.drop⟩
theorem zJQ(nl:Bool)(dd:Bs)(ac:Int)(tm:Int)(l1 l2:List PTop)(q1 q2:Option Addr)(cap1 cap2:Nat)(hne:l1.length≠l2.length)(h:St W0 w K L):
 Calls Tryz.prog 17 #[.agg #[.bool nl,.string (bb dd),.int .i64 ac,.int .i64 tm,.slice q1 l1.length cap1],.agg #[.bool nl,.string (bb dd),.int .i64 ac,.int .i64 tm,.slice q2 l2.length cap2]] w fun en w'=>en=.returned (.bool false)∧St W0 w' K L:=by
 obtain⟨ra,hra⟩:∃b,w.heap.size=b:=⟨_,rfl⟩;obtain⟨rb,hrb⟩:∃b,ra+1=b:=⟨_,rfl⟩;have h0:=(h.allocRaw #[.bool nl,.string (bb dd),.int .i64 ac,.int .i64 tm,.slice q1 l1.length cap1] 40).allocRaw #[.bool nl,.string (bb dd),.int .i64 ac,.int .i64 tm,.slice q2 l2.length cap2] 40;simp only[World.size_alloc,hra,hrb]at h0;have y0:=h0.rawCell 0;have x0:=h0.p1.rawCell 0;have y1:=h0.rawCell 1;have x1:=h0.p1.rawCell 1;have y2:=h0.rawCell 2;have x2:=h0.p1.rawCell 2;have y3:=h0.rawCell 3;have x3:=h0.p1.rawCell 3;have y4:=h0.rawCell 4;have x4:=h0.p1.rawCell 4;simp at x0 y0 x1 y1 x2 y2 x3 y3 x4 y4;have H:=hQd h0;clear h h0;have g1:((l1.length:Int)==(l2.length:Int))=false:=by rw[beq_eq_false_iff_ne];omega
 have g2:((l1.length:Int) !=(l2.length:Int))=true:=by simp[bne,g1]
 have g3:¬((l1.length:Int)=(l2.length:Int)):=by omega
 clear hne;go_enter Tryz.func17,Tryz.ntmps17;go_wp2;go_ret;exact⟨rfl,H.out.drop.drop⟩
theorem zIv(nl:Bool)(dd:Bs)(ac:Int)(tm:Int)(l1 l2:List PTop)(q1 q2:Option Addr)(cap1 cap2:Nat)(r:Bool)(hlen:l1.length=l2.length)(hr:decide (l1.map PTop.pt=l2.map PTop.pt)=r)(hn:l1.length≤4398046511104)(hf1:∀x∈l1,EqT x)(hf2:∀x∈l2,EqT x)(hk1:K.has (Know.ptops (.slice q1 l1.length cap1) l1))(hk2:K.has (Know.ptops (.slice q2 l2.length cap2) l2))(h:St W0 w K L):
 Calls Tryz.prog 17 #[.agg #[.bool nl,.string (bb dd),.int .i64 ac,.int .i64 tm,.slice q1 l1.length cap1],.agg #[.bool nl,.string (bb dd),.int .i64 ac,.int .i64 tm,.slice q2 l2.length cap2]] w fun en w'=>en=.returned (.bool r)∧St W0 w' K L:=by
 obtain⟨ra,hra⟩:∃b,w.heap.size=b:=⟨_,rfl⟩;obtain⟨rb,hrb⟩:∃b,ra+1=b:=⟨_,rfl⟩;have h0:=(h.allocRaw #[.bool nl,.string (bb dd),.int .i64 ac,.int .i64 tm,.slice q1 l1.length cap1] 40).allocRaw #[.bool nl,.string (bb dd),.int .i64 ac,.int .i64 tm,.slice q2 l2.length cap2] 40;simp only[World.size_alloc,hra,hrb]at h0;have y0:=h0.rawCell 0;have x0:=h0.p1.rawCell 0;have y1:=h0.rawCell 1;have x1:=h0.p1.rawCell 1;have y2:=h0.rawCell 2;have x2:=h0.p1.rawCell 2;have y3:=h0.rawCell 3;have x3:=h0.p1.rawCell 3;have y4:=h0.rawCell 4;have x4:=h0.p1.rawCell 4;simp at x0 y0 x1 y1 x2 y2 x3 y3 x4 y4;have H:=hQd h0;clear h h0;have HF1:=hQd hf1;have HF2:=hQd hf2;have HK1:=hQd hk1;have HK2:=hQd hk2;have HR:=hQd hr;have HLEN:=hQd hlen;have hni:(l1.length:Int)≤4398046511104:=by omega
 have g1:((l1.length:Int)==(l2.length:Int))=true:=by rw[hlen];exact beq_self_eq_true _
 have g2:((l1.length:Int) !=(l2.length:Int))=false:=by simp[bne,g1]
 clear hr hlen hn hf1 hf2 hk1 hk2;go_enter Tryz.func17,Tryz.ntmps17;go_wp2;clear g1 g2 x0 y0 x1 y1 x2 y2 x3 y3 x4 y4;go_loopw [5] (fun iv wr=>∃k:Nat,k≤l1.length∧iv=.int .i64 k∧Hid ((l1.map PTop.pt).take k=(l2.map PTop.pt).take k)∧St W0 wr K (.raw rb #[.bool nl,.string (bb dd),.int .i64 ac,.int .i64 tm,.slice q2 l2.length cap2] 40::.raw ra #[.bool nl,.string (bb dd),.int .i64 ac,.int .i64 tm,.slice q1 l1.length cap1] 40::L)) (fun iv _=>l1.length - (intOf iv).toNat)
 case atStart=>exact⟨0,Nat.zero_le _,rfl,hQd (by simp),H.out⟩
 case round=>
  obtain⟨k,hkl,rfl,heq,hst⟩:=hrel;clear H;have H:=hQd hst;clear hst
  by_cases hlt:k<l1.length
  ·have hlt2:k<l2.length:=by have:=HLEN.out;omega
   obtain⟨bk1,off1,hqq1⟩:=zB9 HK1.out H.out oM;subst hqq1;obtain⟨z1,hx1⟩:∃x,l1[k]=x:=⟨_,rfl⟩;have hmem1:z1∈l1:=hx1 ▸ List.getElem_mem _;have hq1:=HF1.out z1 hmem1;have hk1:=zA5 HK1.out hmem1;have HX1:=hQd (show(l1[k]).pt=z1.pt by rw[hx1]);have HXX1:=hQd hx1;clear hmem1 hx1;obtain⟨bk2,off2,hqq2⟩:=zB9 HK2.out H.out oM;subst hqq2;obtain⟨z2,hx2⟩:∃x,l2[k]=x:=⟨_,rfl⟩;have hmem2:z2∈l2:=hx2 ▸ List.getElem_mem _;have hq2:=HF2.out z2 hmem2;have hk2:=zA5 HK2.out hmem2;have HX2:=hQd (show(l2[k]).pt=z2.pt by rw[hx2]);have HXX2:=hQd hx2;clear hmem2 hx2;have NX:=hQd (show z1.pt≠z2.pt→l1.map PTop.pt≠l2.map PTop.pt from zCR _ l1 l2 k hlt hlt2 _ _ HX1.out HX2.out);have NT:=hQd (show z1.pt=z2.pt→(l1.map PTop.pt).take (k+1)=(l2.map PTop.pt).take (k+1)from fun e=>by rw[zBi _ l1 k hlt _ HX1.out,zBi _ l2 k hlt2 _ HX2.out,heq.out,e]);obtain⟨c0,c1⟩:=zAZ HK1.out H.out k hlt _ HXX1.out;have hkn:(k:Int)<(l1.length:Int):=by omega
   have hkn2:(k:Int)<(l2.length:Int):=by omega
   obtain⟨n1,xl1,xq1,xc1⟩:=z1;obtain⟨n2,xl2,xq2,xc2⟩:=z2;obtain⟨tb1,htb1⟩:∃b,wr.heap.size=b:=⟨_,rfl⟩;obtain⟨tb2,htb2⟩:∃b,tb1+1=b:=⟨_,rfl⟩;have x4:=H.out.p1.rawCell 4;have h1:=H.out.allocRaw #[.string (bb n1),.slice xq1 xl1.length xc1] 83;rw[htb1]at h1;have y4:=h1.p1.rawCell 4;obtain⟨d0,d1⟩:=zAZ HK2.out h1 k hlt2 _ HXX2.out;have h:=h1.allocRaw #[.string (bb n2),.slice xq2 xl2.length xc2] 83;rw[World.size_alloc,htb1,htb2]at h;simp only at c0 c1 d0 d1;obtain⟨u0,u1⟩:=uR2 h.p1;obtain⟨v0,v1⟩:=uR2 h;simp at x4 y4 u0 u1 v0 v1;have XK1:=hQd (show K.has (Know.pparts (.slice xq1 xl1.length xc1) xl1)from hk1);have XK2:=hQd (show K.has (Know.pparts (.slice xq2 xl2.length xc2) xl2)from hk2);have XP1:=hQd (show ∀y∈xl1,EqP y from hq1.parts);have XP2:=hQd (show ∀y∈xl2,EqP y from hq2.parts);have hxl:xl1.length≤4398046511104:=hq1.len;have hxi:(xl1.length:Int)≤4398046511104:=by omega
   clear H h1 hk1 hk2 hq1 hq2 HX1 HX2 HXX1 HXX2 hxl;have H:=hQd h;clear h
   by_cases hnn:n1=n2
   rotate_left
   ·have HRF:=hQd (show r=false by rw[←HR.out];exact decide_eq_false (NX.out fun e=>hnn (congrArg Prod.fst e)));have g1:(n1==n2)=false:=by simpa using hnn
    have g2:(n1 !=n2)=true:=by simpa using hnn
    have g3:¬n1=n2:=hnn;clear hnn NX NT;go_wp2;go_ret;exact⟨zAB HRF.out.symm,H.out.drop.drop.drop.drop⟩
   subst hnn
   by_cases hxx:xl1.length=xl2.length
   rotate_left
   ·have HRF:=hQd (show r=false by rw[←HR.out];exact decide_eq_false (NX.out fun e=>zD8 _ _ _ hxx (congrArg Prod.snd e)));have g1:((xl1.length:Int)==(xl2.length:Int))=false:=by rw[beq_eq_false_iff_ne];omega
    have g2:((xl1.length:Int) !=(xl2.length:Int))=true:=by simp[bne,g1]
    have g3:¬((xl1.length:Int)=(xl2.length:Int)):=by omega
    clear hxx NX NT;go_wp2;go_ret;exact⟨zAB HRF.out.symm,H.out.drop.drop.drop.drop⟩
   have HXLN:=hQd hxx;have g1:((xl1.length:Int)==(xl2.length:Int))=true:=by rw[hxx];exact beq_self_eq_true _
   have g2:((xl1.length:Int) !=(xl2.length:Int))=false:=by simp[bne,g1]
   have NXP:=hQd (show xl1.map PartR.pb≠xl2.map PartR.pb→r=false from fun hne=>by rw[←HR.out];exact decide_eq_false (NX.out fun e=>hne (congrArg Prod.snd e)));have NTP:=hQd (show xl1.map PartR.pb=xl2.map PartR.pb→(l1.map PTop.pt).take (k+1)=(l2.map PTop.pt).take (k+1)from fun e=>NT.out (by unfold PTop.pt;simp only;rw[e]));clear hxx NX NT;go_wp2_with fail;clear g1 g2 x4 y4 u0 u1 v0 v1 c0 c1 d0 d1;go_loopw [8] (fun jv wr=>∃j:Nat,j≤xl1.length∧jv=.int .i64 j∧Hid ((xl1.map PartR.pb).take j=(xl2.map PartR.pb).take j)∧St W0 wr K (.raw tb2 #[.string (bb n1),.slice xq2 xl2.length xc2] 83::.raw tb1 #[.string (bb n1),.slice xq1 xl1.length xc1] 83::.raw rb #[.bool nl,.string (bb dd),.int .i64 ac,.int .i64 tm,.slice (some ⟨bk2,off2,none⟩) l2.length cap2] 40::.raw ra #[.bool nl,.string (bb dd),.int .i64 ac,.int .i64 tm,.slice (some ⟨bk1,off1,none⟩) l1.length cap1] 40::L)) (fun jv _=>xl1.length - (intOf jv).toNat)
   case atStart=>exact⟨0,Nat.zero_le _,rfl,hQd (by simp),H.out⟩
   case round=>
    obtain⟨j,hjl,rfl,heq2,hst⟩:=hrel;clear H;have H:=hQd hst;clear hst;have t1:=H.out.p1.rawCell 1;simp at t1
    by_cases hjt:j<xl1.length
    ·have hjt2:j<xl2.length:=by have:=HXLN.out;omega
     obtain⟨pk1,poff1,hpq1⟩:=zBB XK1.out H.out oM;subst hpq1;obtain⟨y1,hy1⟩:∃y,xl1[j]=y:=⟨_,rfl⟩;have hmem1:y1∈xl1:=hy1 ▸ List.getElem_mem _;have HYF1:=hQd (show ∀z∈y1.l,EqR z from(XP1.out y1 hmem1).bats);have HYK1:=hQd (zBp XK1.out hmem1);have HYX1:=hQd (show(xl1[j]).pb=y1.pb by rw[hy1]);have HYY1:=hQd hy1;obtain⟨pk2,poff2,hpq2⟩:=zBB XK2.out H.out oM;subst hpq2;obtain⟨y2,hy2⟩:∃y,xl2[j]=y:=⟨_,rfl⟩;have hmem2:y2∈xl2:=hy2 ▸ List.getElem_mem _;have HYF2:=hQd (show ∀z∈y2.l,EqR z from(XP2.out y2 hmem2).bats);have HYK2:=hQd (zBp XK2.out hmem2);have HYX2:=hQd (show(xl2[j]).pb=y2.pb by rw[hy2]);have HYY2:=hQd hy2;have hyl:y1.l.length≤4398046511104:=(XP1.out y1 hmem1).len;have HYN:=hQd hyl;have hjn:(j:Int)<(xl1.length:Int):=by omega
     have hjn2:(j:Int)<(xl2.length:Int):=by omega
     have NQ:=hQd (show y1.pb≠y2.pb→r=false from fun hne=>NXP.out (zCR _ xl1 xl2 j hjt hjt2 _ _ HYX1.out HYX2.out hne));have NU:=hQd (show y1.pb=y2.pb→(xl1.map PartR.pb).take (j+1)=(xl2.map PartR.pb).take (j+1)from fun e=>by rw[zBi _ xl1 j hjt _ HYX1.out,zBi _ xl2 j hjt2 _ HYX2.out,heq2.out,e])
     have HKP:=hQd (show ∀w',St W0 w' K (.raw tb2 #[.string (bb n1),.slice (some ⟨pk2,poff2,none⟩) xl2.length xc2] 83::.raw tb1 #[.string (bb n1),.slice (some ⟨pk1,poff1,none⟩) xl1.length xc1] 83::.raw rb #[.bool nl,.string (bb dd),.int .i64 ac,.int .i64 tm,.slice (some ⟨bk2,off2,none⟩) l2.length cap2] 40::.raw ra #[.bool nl,.string (bb dd),.int .i64 ac,.int .i64 tm,.slice (some ⟨bk1,off1,none⟩) l1.length cap1] 40::L)→(w'.cell? ⟨tb1,1,none⟩=some (.slice (some ⟨pk1,poff1,none⟩) xl1.length xc1)∧w'.cell? ⟨pk1,poff1+j*2,none⟩=some (.int .i64 y1.idx)∧w'.cell? ⟨pk1,poff1+j*2+1,none⟩=some (.slice y1.q y1.l.length y1.cap)∧w'.cell? ⟨tb2,1,none⟩=some (.slice (some ⟨pk2,poff2,none⟩) xl2.length xc2)∧w'.cell? ⟨pk2,poff2+j*2,none⟩=some (.int .i64 y2.idx)∧w'.cell? ⟨pk2,poff2+j*2+1,none⟩=some (.slice y2.q y2.l.length y2.cap))from fun w' hs=>by
      have a1:=hs.p1.rawCell 1;have a2:=hs.rawCell 1;obtain⟨b1,b2⟩:=zAW XK1.out hs j hjt _ HYY1.out;obtain⟨e1,e2⟩:=zAW XK2.out hs j hjt2 _ HYY2.out;simp at a1 a2
      exact⟨a1,b1,b2,a2,e1,e2⟩)
     clear hmem1 hmem2 hy1 hy2 hyl;obtain⟨i1,yl1,yq1,yc1⟩:=y1;obtain⟨i2,yl2,yq2,yc2⟩:=y2
     by_cases hi:i1=i2
     rotate_left
     ·have HRF:=hQd (NQ.out fun e=>hi (congrArg Prod.fst e));have g1:(i1==i2)=false:=by simpa using hi
      have g2:(i1 !=i2)=true:=by simpa using hi
      have g3:¬i1=i2:=hi;clear hi NQ NU;simp only at HKP;go_wp2;have hs:=H.out.drew;refine wp_region_held_drew (S:=fun w'=>w'.cell? ⟨tb1,1,none⟩=some (.slice (some ⟨pk1,poff1,none⟩) xl1.length xc1)∧w'.cell? ⟨pk1,poff1+j*2,none⟩=some (.int .i64 i1)∧w'.cell? ⟨pk1,poff1+j*2+1,none⟩=some (.slice yq1 yl1.length yc1)∧w'.cell? ⟨tb2,1,none⟩=some (.slice (some ⟨pk2,poff2,none⟩) xl2.length xc2)∧w'.cell? ⟨pk2,poff2+j*2,none⟩=some (.int .i64 i2)∧w'.cell? ⟨pk2,poff2+j*2+1,none⟩=some (.slice yq2 yl2.length yc2)) (by kernel_rfl) (HKP.out _ hs) (fun hHeld=> ?_);refine tR 0 ?_;refine tR 1 ?_;refine tR 2 ?_;refine tR 3 ?_;refine tR 4 ?_;refine tR 5 ?_;refine tR 6 ?_;refine tR 7 ?_;refine tR 8 ?_;refine tR 9 ?_;refine tR 10 ?_;refine tR 11 ?_;refine tR 12 ?_;refine tR 13 ?_;refine wpAnyH_take (i:=14) (oi:=⟨some 89,.fieldAddr 83 (.tmp 6) 1,0,_,_,some (13,false)⟩) (v:=undef) rfl (by kernel_rfl) (by kernel_rfl) (by kernel_rfl) (fun _ _ _ h=>h) (Or.inr ⟨by rfl,rfl⟩) (by assumption) ?_;simp only[Act.put,sA,sB,sC];refine wpAnyH_take (i:=15) (oi:=⟨some 90,.load 81 (.tmp 89),81,_,_,some (13,false)⟩) (v:=undef) rfl (by kernel_rfl) (by kernel_rfl) (by kernel_rfl) (fun _ _ _ h=>h) (Or.inr ⟨by rfl,rfl⟩) (by assumption) ?_;simp only[Act.put,sA,sB,sC];refine wpAnyH_take (i:=16) (oi:=⟨some 91,.move (.tmp 8),3,_,_,some (13,false)⟩) (v:=undef) rfl (by kernel_rfl) (by kernel_rfl) (by kernel_rfl) (fun _ _ _ h=>h) (Or.inr ⟨by rfl,rfl⟩) (by assumption) ?_;simp only[Act.put,sA,sB,sC];refine wpAnyH_take (i:=17) (oi:=⟨some 92,.indexAddr 81 (.tmp 90) (.tmp 91),0,_,_,some (13,false)⟩) (v:=undef) rfl (by kernel_rfl) (by kernel_rfl) (by kernel_rfl) (fun _ _ _ h=>h) (Or.inr ⟨by rfl,rfl⟩) (by assumption) ?_;simp only[Act.put,sA,sB,sC];refine wpAnyH_take (i:=18) (oi:=⟨some 93,.fieldAddr 85 (.tmp 92) 1,0,_,_,some (13,false)⟩) (v:=undef) rfl (by kernel_rfl) (by kernel_rfl) (by kernel_rfl) (fun _ _ _ h=>h) (Or.inr ⟨by rfl,rfl⟩) (by assumption) ?_;simp only[Act.put,sA,sB,sC];refine wpAnyH_take (i:=19) (oi:=⟨some 94,.load 66 (.tmp 93),66,_,_,some (13,false)⟩) (v:=undef) rfl (by kernel_rfl) (by kernel_rfl) (by kernel_rfl) (fun _ _ _ h=>h) (Or.inr ⟨by rfl,rfl⟩) (by assumption) ?_;simp only[Act.put,sA,sB,sC];refine wpAnyH_take (i:=20) (oi:=⟨some 95,.fieldAddr 83 (.tmp 7) 1,0,_,_,some (13,false)⟩) (v:=undef) rfl (by kernel_rfl) (by kernel_rfl) (by kernel_rfl) (fun _ _ _ h=>h) (Or.inr ⟨by rfl,rfl⟩) (by assumption) ?_;simp only[Act.put,sA,sB,sC];refine wpAnyH_take (i:=21) (oi:=⟨some 96,.load 81 (.tmp 95),81,_,_,some (13,false)⟩) (v:=undef) rfl (by kernel_rfl) (by kernel_rfl) (by kernel_rfl) (fun _ _ _ h=>h) (Or.inr ⟨by rfl,rfl⟩) (by assumption) ?_;simp only[Act.put,sA,sB,sC];refine wpAnyH_take (i:=22) (oi:=⟨some 97,.move (.tmp 8),3,_,_,some (13,false)⟩) (v:=undef) rfl (by kernel_rfl) (by kernel_rfl) (by kernel_rfl) (fun _ _ _ h=>h) (Or.inr ⟨by rfl,rfl⟩) (by assumption) ?_;simp only[Act.put,sA,sB,sC];refine wpAnyH_take (i:=23) (oi:=⟨some 98,.indexAddr 81 (.tmp 96) (.tmp 97),0,_,_,some (13,false)⟩) (v:=undef) rfl (by kernel_rfl) (by kernel_rfl) (by kernel_rfl) (fun _ _ _ h=>h) (Or.inr ⟨by rfl,rfl⟩) (by assumption) ?_;simp only[Act.put,sA,sB,sC];refine wpAnyH_take (i:=24) (oi:=⟨some 99,.fieldAddr 85 (.tmp 98) 1,0,_,_,some (13,false)⟩) (v:=undef) rfl (by kernel_rfl) (by kernel_rfl) (by kernel_rfl) (fun _ _ _ h=>h) (Or.inr ⟨by rfl,rfl⟩) (by assumption) ?_;simp only[Act.put,sA,sB,sC];refine wpAnyH_take (i:=25) (oi:=⟨some 100,.load 66 (.tmp 99),66,_,_,some (13,false)⟩) (v:=undef) rfl (by kernel_rfl) (by kernel_rfl) (by kernel_rfl) (fun _ _ _ h=>h) (Or.inr ⟨by rfl,rfl⟩) (by assumption) ?_;simp only[Act.put,sA,sB,sC];refine wpAnyH_take (i:=26) (oi:=⟨some 101,.call {callee:=.value (.func 51),args:= #[.tmp 94,.tmp 100],argTypes:= #[66,66]},4,_,_,some (13,false)⟩) (v:=undef) rfl (by kernel_rfl) (by kernel_rfl) (by kernel_rfl) (fun _ _ _ h=>h) (Or.inr ⟨by rfl,rfl⟩) (by assumption) ?_;simp only[Act.put,sA,sB,sC];refine wpAnyH_take (i:=27) (oi:=⟨some 102,.unOp UnOp.not 4 (.tmp 101),4,_,_,some (13,false)⟩) (v:=undef) rfl (by kernel_rfl) (by kernel_rfl) (by kernel_rfl) (fun _ _ _ h=>h) (Or.inr ⟨by rfl,rfl⟩) (by assumption) ?_;simp only[Act.put,sA,sB,sC];refine tR 28 ?_;refine wpAnyH_done (by kernel_rfl) ?_ _;clear hHeld;go_wp2_with fail;go_ret;exact⟨zAB (HRF.out).symm,hs.drop.drop.drop.drop⟩
     subst hi
     by_cases hbb:yl1.map BatR.b=yl2.map BatR.b
     ·have HE2:=hQd (decide_eq_true hbb);have NT2:=hQd (NU.out (by unfold PartR.pb;simp only;rw[hbb]));clear hbb NQ NU;simp only at HKP;go_wp2;have hs:=H.out.drew;refine wp_region_held_drew (S:=fun w'=>w'.cell? ⟨tb1,1,none⟩=some (.slice (some ⟨pk1,poff1,none⟩) xl1.length xc1)∧w'.cell? ⟨pk1,poff1+j*2,none⟩=some (.int .i64 i1)∧w'.cell? ⟨pk1,poff1+j*2+1,none⟩=some (.slice yq1 yl1.length yc1)∧w'.cell? ⟨tb2,1,none⟩=some (.slice (some ⟨pk2,poff2,none⟩) xl2.length xc2)∧w'.cell? ⟨pk2,poff2+j*2,none⟩=some (.int .i64 i1)∧w'.cell? ⟨pk2,poff2+j*2+1,none⟩=some (.slice yq2 yl2.length yc2)) (by kernel_rfl) (HKP.out _ hs) (fun hHeld=> ?_);refine tR 0 ?_;refine tR 1 ?_;refine tR 2 ?_;refine tR 3 ?_;refine tR 4 ?_;refine tR 5 ?_;refine tR 6 ?_;refine tR 7 ?_;refine tR 8 ?_;refine tR 9 ?_;refine tR 10 ?_;refine tR 11 ?_;refine tR 12 ?_;refine tR 13 ?_;refine tR 14 ?_;refine tR 15 ?_;refine tR 16 ?_;refine tR 17 ?_;refine tR 18 ?_;refine tR 19 ?_;refine tR 20 ?_;refine tR 21 ?_;refine tR 22 ?_;refine tR 23 ?_;refine tR 24 ?_;refine tR 25 ?_;refine wR [26] (rC rfl (fun KK hK=> ?_) rN);go_simp;go_at_call 51;with_reducible refine(zGm yl1 yl2 _ _ _ _ _ HE2.out HYN.out HYF1.out HYF2.out HYK1.out HYK2.out hs).mono ?_;rintro e wq ⟨rfl,hs⟩;refine zK hK (HKP.out _ hs) (fun hHeld=> ?_);clear hK KK
      refine tR 27 ?_;refine tR 28 ?_;refine wpAnyH_done (by kernel_rfl) ?_ _;clear hHeld;go_wp2_with fail;go_roundw
      case rel=>exact⟨j+1,hjt,by go_num,NT2,hs⟩
      case measure=>first|(simp[intOf];done)|(simp[intOf];omega)
     ·have HE2:=hQd (decide_eq_false hbb);have HRF:=hQd (NQ.out fun e=>hbb (congrArg Prod.snd e));clear hbb NQ NU;simp only at HKP;go_wp2;have hs:=H.out.drew;refine wp_region_held_drew (S:=fun w'=>w'.cell? ⟨tb1,1,none⟩=some (.slice (some ⟨pk1,poff1,none⟩) xl1.length xc1)∧w'.cell? ⟨pk1,poff1+j*2,none⟩=some (.int .i64 i1)∧w'.cell? ⟨pk1,poff1+j*2+1,none⟩=some (.slice yq1 yl1.length yc1)∧w'.cell? ⟨tb2,1,none⟩=some (.slice (some ⟨pk2,poff2,none⟩) xl2.length xc2)∧w'.cell? ⟨pk2,poff2+j*2,none⟩=some (.int .i64 i1)∧w'.cell? ⟨pk2,poff2+j*2+1,none⟩=some (.slice yq2 yl2.length yc2)) (by kernel_rfl) (HKP.out _ hs) (fun hHeld=> ?_);refine tR 0 ?_;refine tR 1 ?_;refine tR 2 ?_;refine tR 3 ?_;refine tR 4 ?_;refine tR 5 ?_;refine tR 6 ?_;refine tR 7 ?_;refine tR 8 ?_;refine tR 9 ?_;refine tR 10 ?_;refine tR 11 ?_;refine tR 12 ?_;refine tR 13 ?_;refine tR 14 ?_;refine tR 15 ?_;refine tR 16 ?_;refine tR 17 ?_;refine tR 18 ?_;refine tR 19 ?_;refine tR 20 ?_;refine tR 21 ?_;refine tR 22 ?_;refine tR 23 ?_;refine tR 24 ?_;refine tR 25 ?_;refine wR [26] (rC rfl (fun KK hK=> ?_) rN);go_simp;go_at_call 51;with_reducible refine(zGm yl1 yl2 _ _ _ _ _ HE2.out HYN.out HYF1.out HYF2.out HYK1.out HYK2.out hs).mono ?_;rintro e wq ⟨rfl,hs⟩;refine zK hK (HKP.out _ hs) (fun hHeld=> ?_);clear hK KK
      refine tR 27 ?_;refine tR 28 ?_;refine wpAnyH_done (by kernel_rfl) ?_ _;clear hHeld;go_wp2_with fail;go_ret;exact⟨zAB (HRF.out).symm,hs.drop.drop.drop.drop⟩
    ·obtain rfl:j=xl1.length:=by omega
     have hall:xl1.map PartR.pb=xl2.map PartR.pb:=by
      have h:=heq2.out
      rwa [List.take_of_length_le (by simp),List.take_of_length_le (by have:=HXLN.out;simp;omega)]at h
     have NT3:=hQd (NTP.out hall);clear hall;go_wp2;go_roundw
     case rel=>exact⟨k+1,hlt,by go_num,NT3,H.out.drop.drop⟩
     case measure=>first|(simp[intOf];done)|(simp[intOf];omega)
  ·obtain rfl:k=l1.length:=by omega
   have hall:l1.map PTop.pt=l2.map PTop.pt:=by
    exact zq37
   have HRT:=hQd (show r=true by rw[←HR.out,hall];exact decide_eq_true rfl);clear hall;have x4:=H.out.p1.rawCell 4;simp at x4;go_wp2;go_ret;exact⟨zAB HRT.out.symm,H.out.drop.drop⟩
theorem zJP(nl:Bool)(dd:Bs)(ac:Int)(tm:Int)(l1 l2:List PTop)(q1 q2:Option Addr)(cap1 cap2:Nat)(r:Bool)(hr:decide (l1.map PTop.pt=l2.map PTop.pt)=r)(hn:l1.length≤4398046511104)(hf1:∀x∈l1,EqT x)(hf2:∀x∈l2,EqT x)(hk1:K.has (Know.ptops (.slice q1 l1.length cap1) l1))(hk2:K.has (Know.ptops (.slice q2 l2.length cap2) l2))(h:St W0 w K L):
 Calls Tryz.prog 17 #[.agg #[.bool nl,.string (bb dd),.int .i64 ac,.int .i64 tm,.slice q1 l1.length cap1],.agg #[.bool nl,.string (bb dd),.int .i64 ac,.int .i64 tm,.slice q2 l2.length cap2]] w fun en w'=>en=.returned (.bool r)∧St W0 w' K L:=by
 by_cases hlen:l1.length=l2.length
 ·exact zIv nl dd ac tm l1 l2 q1 q2 cap1 cap2 r hlen hr hn hf1 hf2 hk1 hk2 h
 ·obtain rfl:r=false:=by rw[←hr];exact decide_eq_false (zD8 _ _ _ hlen)
  exact zJQ nl dd ac tm l1 l2 q1 q2 cap1 cap2 hlen h
theorem zNq(nl1 nl2:Bool)(dd1 dd2:Bs)(ac1 ac2 tm1 tm2:Int)(l1 l2:List PTop)(q1 q2:Option Addr)(cap1 cap2:Nat)(r:Bool)(hr:decide (nl1=nl2∧dd1=dd2∧ac1=ac2∧tm1=tm2∧l1.map PTop.pt=l2.map PTop.pt)=r)(hn:l1.length≤4398046511104)(hf1:∀x∈l1,EqT x)(hf2:∀x∈l2,EqT x)(hk1:K.has (Know.ptops (.slice q1 l1.length cap1) l1))(hk2:K.has (Know.ptops (.slice q2 l2.length cap2) l2))(h:St W0 w K L):
 Calls Tryz.prog 17 #[.agg #[.bool nl1,.string (bb dd1),.int .i64 ac1,.int .i64 tm1,.slice q1 l1.length cap1],.agg #[.bool nl2,.string (bb dd2),.int .i64 ac2,.int .i64 tm2,.slice q2 l2.length cap2]] w fun en w'=>en=.returned (.bool r)∧St W0 w' K L:=by
 have hb:∀hne:¬(nl1=nl2∧dd1=dd2∧ac1=ac2∧tm1=tm2∧l1.map PTop.pt=l2.map PTop.pt),r=false:=fun hne=>by rw[←hr];exact decide_eq_false hne
 by_cases h1:nl1=nl2
 rotate_left
 ·obtain rfl:r=false:=hb (fun e=>h1 e.1)
  cases nl1<;>cases nl2
  ·exact absurd rfl h1
  ·exact zIt dd1 dd2 ac1 ac2 tm1 tm2 l1 l2 q1 q2 cap1 cap2 h
  ·exact zIu dd1 dd2 ac1 ac2 tm1 tm2 l1 l2 q1 q2 cap1 cap2 h
  ·exact absurd rfl h1
 subst h1
 by_cases h2:dd1=dd2
 rotate_left
 ·obtain rfl:r=false:=hb (fun e=>h2 e.2.1);exact zJR nl1 dd1 dd2 ac1 ac2 tm1 tm2 l1 l2 q1 q2 cap1 cap2 h2 h
 subst h2
 by_cases h3:ac1=ac2
 rotate_left
 ·obtain rfl:r=false:=hb (fun e=>h3 e.2.2.1);exact zJS nl1 dd1 ac1 ac2 tm1 tm2 l1 l2 q1 q2 cap1 cap2 h3 h
 subst h3
 by_cases h4:tm1=tm2
 rotate_left
 ·obtain rfl:r=false:=hb (fun e=>h4 e.2.2.2.1);exact zJO nl1 dd1 ac1 tm1 tm2 l1 l2 q1 q2 cap1 cap2 h4 h
 subst h4
 have hr2:decide (l1.map PTop.pt=l2.map PTop.pt)=r:=by
  rw[←hr];exact decide_eq_decide.mpr ⟨fun e=>⟨rfl,rfl,rfl,rfl,e⟩,fun e=>e.2.2.2.2⟩
 exact zJP nl1 dd1 ac1 tm1 l1 l2 q1 q2 cap1 cap2 r hr2 hn hf1 hf2 hk1 hk2 h
open Go.ChangeShapes Go.WideShapes Go.ChangeAt Go.Deep
section
variable {H:Type}{enc:TypeId×Value→H}{w:World}{spare:Nat→Bool}{held:Bool}
end
theorem RowsOf.part{α:Type}{R:World→List Value→α→Prop}{Q:α→Prop}{D:Nat→Prop}{w:World}{v:Value}{sz:Nat}{l:List α}(h:RowsOf (fun w cs x=>R w cs x∧Q x) D w v sz l):RowsOf R D w v sz l∧∀x∈l,Q x:=by
 refine⟨h.mono (fun _ _ h=>h) (fun _ _ h=>h.1),fun x hx=> ?_⟩;obtain⟨i,hi,rfl⟩:=List.mem_iff_getElem.1 hx;obtain⟨p,cap,rfl,h⟩:=h;obtain⟨b,off,rfl,_,_,hc⟩:=h (by omega);obtain⟨cs,_,h2,_⟩:=hc i hi;exact h2.2
end Go.Proofs.YtnnnglklgofabaaGreat
namespace Go.Proofs.YtnnnglklgofabaaGreat
open Go.RowKit
open Go.ChangeShapes Go.WideShapes Go.ChangeAt Go.Deep
section
variable {H:Type}{enc:TypeId×Value→H}{w:World}{spare:Nat→Bool}{held:Bool}
end
end Go.Proofs.YtnnnglklgofabaaGreat
namespace Go.Proofs.YtnnnglklgofabaaGreat
open Go.RowKit
open Go.ChangeShapes Go.WideShapes Go.ChangeAt Go.Deep
section
variable {H:Type}{enc:TypeId×Value→H}{w:World}{spare:Nat→Bool}{held:Bool}
end
end Go.Proofs.YtnnnglklgofabaaGreat
namespace Go.Proofs.YtnnnglklgofabaaGreat
open Go.RowKit
end Go.Proofs.YtnnnglklgofabaaGreat
namespace Go.Proofs.YtnnnglklgofabaaGreat
open Go.Joins Go.RowKit
open Go.ChangeShapes Go.WideShapes Go.ChangeAt Go.Deep
section
variable {H:Type}{enc:TypeId×Value→H}{w:World}{spare:Nat→Bool}{held:Bool}
end
end Go.Proofs.YtnnnglklgofabaaGreat
namespace Go.Proofs.YtnnnglklgofabaaGreat
open Go.RowKit
def GoodR (l:List (RecS×Value)):Prop:=∀x∈l,smallR x.1=1∧zBc x.1=0
theorem GoodR.nil:GoodR []:=fun _ h=>by cases h
def FitR (l:List (RecS×Value)):Prop:=∀x∈l,x.1.R∧x.1.hdrs.length≤9223372036854775807∧HFit x.1.hdrs∧x.1.key.data.length≤140737488351232∧x.1.val.data.length≤140737488351232
end Go.Proofs.YtnnnglklgofabaaGreat
namespace Go.Proofs.YtnnnglklgofabaaGreat
open Go.Joins Go.RowKit
open Go.ChangeShapes Go.WideShapes Go.ChangeAt Go.Deep
def QRec (W:World) (x:RecS×Value):Prop:=RowsOf (fun _ cs x=>RHdr cs x) (· <W.heap.size) W x.2 3 x.1.hdrs∧x.1.R∧x.1.hdrs.length≤9223372036854775807∧HFit x.1.hdrs∧x.1.key.data.length≤140737488351232∧x.1.val.data.length≤140737488351232
theorem QRec.fit{W:World}{l:List (RecS×Value)}(h:∀x∈l,QRec W x):FitR l:=fun x hx=>(h x hx).2
theorem QRec.start{W:World}{v:Value}{l:List (RecS×Value)}(hr:RowsOf (fun _ cs x=>RRec cs x) (· <W.heap.size) W v 7 l)(h:∀x∈l,QRec W x):St W W (Know.recs v l) []:=St.start ⟨hr,fun x hx=>(h x hx).1⟩
section
variable {H:Type}{enc:TypeId×Value→H}{w:World}{spare:Nat→Bool}{held:Bool}
end
end Go.Proofs.YtnnnglklgofabaaGreat
namespace Go.Proofs.YtnnnglklgofabaaGreat
open Go.Joins Go.RowKit
open Go.ChangeShapes Go.WideShapes Go.ChangeAt Go.Deep
section
variable {H:Type}{enc:TypeId×Value→H}{w:World}{spare:Nat→Bool}{held:Bool}
end
end Go.Proofs.YtnnnglklgofabaaGreat
namespace Go.Proofs.YtnnnglklgofabaaGreat
open Go.RowKit
def QBat (W:World) (x:BatR):Prop:=(RowsOf (fun _ cs x=>RRec cs x) (· <W.heap.size) W (.slice x.q x.l.length x.cap) 7 x.l∧∀y∈x.l,QRec W y)∧x.Fit
theorem QBat.fit{W:World}{l:List BatR}(h:∀x∈l,QBat W x):∀x∈l,x.Fit:=fun x hx=>(h x hx).2
theorem QBat.start{W:World}{v:Value}{l:List BatR}(hr:RowsOf (fun _ cs x=>RBat cs x) (· <W.heap.size) W v 12 l)(h:∀x∈l,QBat W x):St W W (Know.bats v l) []:=St.start ⟨hr,fun x hx=>⟨(h x hx).1.1,fun y hy=>((h x hx).1.2 y hy).1⟩⟩
section
variable {H:Type}{enc:TypeId×Value→H}{w:World}{spare:Nat→Bool}{held:Bool}
end
end Go.Proofs.YtnnnglklgofabaaGreat
namespace Go.Proofs.YtnnnglklgofabaaGreat
open Go.RowKit
open Go.ChangeShapes Go.WideShapes Go.ChangeAt Go.Deep
section
variable {H:Type}{enc:TypeId×Value→H}{w:World}{spare:Nat→Bool}{held:Bool}
end
end Go.Proofs.YtnnnglklgofabaaGreat
namespace Go.Proofs.YtnnnglklgofabaaGreat
open Go.RowKit
open Go.ChangeShapes Go.WideShapes Go.ChangeAt Go.Deep
def QPart (W:World) (x:PartR):Prop:=(RowsOf (fun _ cs x=>RBat cs x) (· <W.heap.size) W (.slice x.q x.l.length x.cap) 12 x.l∧∀y∈x.l,QBat W y)∧x.l.length≤1466015503701∧(-9223372036854775808≤x.idx∧x.idx<9223372036854775808)
def QPTop (W:World) (x:PTop):Prop:=(RowsOf (fun _ cs x=>zOa cs x) (· <W.heap.size) W (.slice x.q x.l.length x.cap) 2 x.l∧∀y∈x.l,QPart W y)∧x.l.length≤4398046510976∧x.name.length≤140737488351232
theorem QPTop.start{W:World}{v:Value}{l:List PTop}(hr:RowsOf (fun _ cs x=>zOb cs x) (· <W.heap.size) W v 2 l)(h:∀x∈l,QPTop W x):St W W (Know.ptops v l) []:=
 St.start ⟨hr,fun x hx=>⟨(h x hx).1.1,fun y hy=>⟨((h x hx).1.2 y hy).1.1,fun z hz=>⟨(((h x hx).1.2 y hy).1.2 z hz).1.1,fun r hr=>((((h x hx).1.2 y hy).1.2 z hz).1.2 r hr).1⟩⟩⟩⟩
section
variable {H:Type}{enc:TypeId×Value→H}{w:World}{spare:Nat→Bool}{held:Bool}
end
end Go.Proofs.YtnnnglklgofabaaGreat
namespace Go.Proofs.YtnnnglklgofabaaGreat
open Go.RowKit
theorem eqT_nl{l m:List PTop}(h:m.map PTop.nl=l.map PTop.nl)(he:∀x∈l,EqT x):∀x∈m,EqT x:=by
 intro x hx;obtain⟨y,hy,_,hl⟩:=zQY h hx;have e:=he y hy;exact⟨by rw[←hl];exact e.len,fun v hv=>e.parts v (by rw[hl];exact hv)⟩
set_option maxHeartbeats 8000000
set_option maxRecDepth 100000
theorem zRw(s:Bs)(ver:Int)(hl:2000<s.length){W0 w:World}{K:Know}(h:St W0 w K []):
 Calls Tryz.prog 4 #[.string (bb s),.int .u8 ver] w fun en w'=>en=.returned (.bool true)∧Below W0.heap.size W0 w':=by
 have H:=hQd h;have hli:2000<(s.length:Int):=by omega
 clear h hl;go_enter Tryz.func4,Tryz.ntmps4;go_wp2_with (go_at_call 6;(with_reducible refine(zMt H.out).zM ?_);clear H;intro wn H);go_ret;exact⟨rfl,H.out.below⟩
theorem zRv(s:Bs)(ver vv:Int)(hl:s.length≤2000)(hv:ver.tmod 2=vv)(hv01:vv=0∨vv=1)(e:Int)(nl:Bool)(dd:Bs)(ac tm:Int)(ts:List TopV)(m:Nat)(ho:zM6 s (3+vv) e nl dd ac tm ts m){W0 w:World}{K:Know}(h:St W0 w K []):
 Calls Tryz.prog 4 #[.string (bb s),.int .u8 ver] w fun en w'=>en=.returned (.bool true)∧Below W0.heap.size W0 w':=by
 have H:=hQd h;have hli:¬2000<(s.length:Int):=by omega
 have hv1:IntKind.u8.wrap vv=vv:=by rcases hv01 with rfl|rfl<;>decide
 have hv2:IntKind.i64.wrap vv=vv:=by rcases hv01 with rfl|rfl<;>decide
 have hv3:0≤vv:=by omega
 have hv4:vv≤1:=by omega
 have HSN:=hQd hl;have HSM:=hQd (show s.length≤1000000 by omega);have HSL:=hQd (show s.length≤140737488355328 by omega);have HO:=hQd ho;clear h hl hv01 ho;go_enter Tryz.func4,Tryz.ntmps4
 go_upto_region 9 with (first
  |(go_at_call 6;(with_reducible refine(zMt H.out).zM ?_);clear H;intro wn H)
  |(go_at_call 14;(with_reducible refine(zEi s HSL.out H.out).mono ?_);rintro e_ wn ⟨bi,rfl,h⟩;replace H:=hQd h;clear h)
  |(go_at_call 15;(with_reducible refine(zNz bi _ s e nl dd ac tm ts m HO.out HSN.out H.out).mono ?_);rintro e_ wn ⟨j,q,cap,l,K2,rfl,hpt,hck,hll,hje,hgd,hk,hkt,h⟩;obtain⟨rx,hrx⟩:∃b,wn.heap.size=b:=⟨_,rfl⟩;have h:=h.allocRaw #[.bool nl,.string (bb dd),.int .i64 ac,.int .i64 tm,.slice q l.length cap] 26;rw[hrx]at h;have HPT:=hQd hpt;have HCK:=hQd hck;have HLL:=hQd hll;have HJE:=hQd hje;have HGD:=hQd hgd;have HKT:=hQd hkt;clear hpt hck hll hje hgd hk hkt;replace H:=hQd h;clear h)
  |(go_at_call 19;(with_reducible refine(zOu _ s e nl dd ac tm ts m HO.out HSM.out H.out).mono ?_);rintro e_ wn ⟨qw,capw,lw,K3,rfl,hptw,hckw,hkw,hktw,h⟩;obtain⟨rw,hrw⟩:∃b,wn.heap.size=b:=⟨_,rfl⟩;have h:=h.allocRaw #[.bool nl,.string (bb dd),.int .i64 ac,.int .i64 tm,.slice qw lw.length capw] 40;rw[hrw]at h;have HPTW:=hQd hptw;have HCKW:=hQd hckw;have HKL:=hQd (Know.has_trans hkw HKT.out);have HKW:=hQd hktw;clear hptw hckw hkw hktw;replace H:=hQd h;clear h))
 have HLT:=hQd (show l.length≤3518437208780 from Nat.le_trans HLL.out dD);have HLN:=hQd (show l.length≤4398046511104 from Nat.le_trans HLL.out dD);have HFL:=hQd (show ∀x∈l,x.l.length≤4398046511104 from fun x hx=>(HCK.out x hx).len);have HQ:=hQd (zQ1 HCK.out);have HQW:=hQd (zQ1 HCKW.out)
 have HKP:=hQd (show ∀(K':Know) w',St W0 w' K' [.raw rw #[.bool nl,.string (bb dd),.int .i64 ac,.int .i64 tm,.slice qw lw.length capw] 40,.raw rx #[.bool nl,.string (bb dd),.int .i64 ac,.int .i64 tm,.slice q l.length cap] 26,.inp bi j]→(w'.cell? ⟨rw,0,none⟩=some (.bool nl)∧w'.cell? ⟨rw,1,none⟩=some (.string (bb dd))∧w'.cell? ⟨rw,2,none⟩=some (.int .i64 ac)∧w'.cell? ⟨rw,3,none⟩=some (.int .i64 tm)∧w'.cell? ⟨rw,4,none⟩=some (.slice qw lw.length capw)∧w'.cell? ⟨rx,0,none⟩=some (.bool nl)∧w'.cell? ⟨rx,1,none⟩=some (.string (bb dd))∧w'.cell? ⟨rx,2,none⟩=some (.int .i64 ac)∧w'.cell? ⟨rx,3,none⟩=some (.int .i64 tm)∧w'.cell? ⟨rx,4,none⟩=some (.slice q l.length cap))from fun K' w' hs=>by
  obtain⟨a0,a1,a2,a3,a4⟩:=uR5 hs;obtain⟨b0,b1,b2,b3,b4⟩:=uR5 hs.p1;simp at a0 a1 a2 a3 a4 b0 b1 b2 b3 b4
  exact⟨a0,a1,a2,a3,a4,b0,b1,b2,b3,b4⟩)
 go_cut [42] (fun s9 wx=>s9=.bool false∧∃K4:Know,Hid (K4.has (Know.ptops (.slice q l.length cap) l))∧St W0 wx K4 [.raw rw #[.bool nl,.string (bb dd),.int .i64 ac,.int .i64 tm,.slice qw lw.length capw] 40,.raw rx #[.bool nl,.string (bb dd),.int .i64 ac,.int .i64 tm,.slice q l.length cap] 26,.inp bi j])
 case first=>
  have e1:(e !=e)=false:=by simp
  have hs:=H.out.drew;refine wp_region_held_drew (S:=fun w'=>w'.cell? ⟨rw,0,none⟩=some (.bool nl)∧w'.cell? ⟨rw,1,none⟩=some (.string (bb dd))∧w'.cell? ⟨rw,2,none⟩=some (.int .i64 ac)∧w'.cell? ⟨rw,3,none⟩=some (.int .i64 tm)∧w'.cell? ⟨rw,4,none⟩=some (.slice qw lw.length capw)∧w'.cell? ⟨rx,0,none⟩=some (.bool nl)∧w'.cell? ⟨rx,1,none⟩=some (.string (bb dd))∧w'.cell? ⟨rx,2,none⟩=some (.int .i64 ac)∧w'.cell? ⟨rx,3,none⟩=some (.int .i64 tm)∧w'.cell? ⟨rx,4,none⟩=some (.slice q l.length cap)) (by kernel_rfl) (HKP.out _ _ hs) (fun hHeld=> ?_);refine tR 0 ?_;refine tR 2 ?_;refine wR [1] (rC rfl (fun KK hK=> ?_) rN);go_simp;go_at_call 20;with_reducible refine(zRa bi j e HJE.out hs.p2).mono ?_;rintro e wq ⟨rfl,hs⟩;refine zK hK (HKP.out _ _ hs.p2.p2) (fun hHeld=> ?_);clear hK KK
  have hs:=hs.p2.p2;refine tR 3 ?_;refine tR 4 ?_;refine tR 5 ?_;refine tR 7 ?_;refine wR [6] (rC rfl (fun KK hK=> ?_) rN);go_simp;go_at_call 11;with_reducible refine(of20 nl dd ac tm l q cap HLT.out HFL.out HKL.out hs).mono ?_;rintro e wq ⟨qa,ca,ma,Ka,rfl,hma,hka,hkma,hs⟩;refine zK hK (HKP.out _ _ hs) (fun hHeld=> ?_);clear hK KK
  have HMa:=hQd hma;have HMKa:=hQd hkma;have HKW2:=hQd (Know.has_trans hka HKW.out);have HKL2:=hQd (Know.has_trans hka HKL.out);clear hma hkma hka;refine wR [8] (rC rfl (fun KK hK=> ?_) rN);go_simp;go_at_call 17;with_reducible refine(zNq nl nl dd dd ac ac tm tm ma lw qa qw ca capw true (decide_eq_true ⟨rfl,rfl,rfl,rfl,(nl_pt HMa.out).trans (HPT.out.trans HPTW.out.symm)⟩) (Nat.le_trans (Nat.le_of_eq (zQZ HMa.out)) HLN.out) (eqT_nl HMa.out HQ.out) HQW.out HMKa.out HKW2.out hs).mono ?_;rintro e wq ⟨rfl,hs⟩;refine zK hK (HKP.out _ _ hs) (fun hHeld=> ?_);clear hK KK
  refine tR 9 ?_;refine tR 10 ?_;refine wpAnyH_done (by kernel_rfl) ?_ _;clear hHeld;go_wp2_with fail;go_meet;exact⟨rfl,_,HKL2,hs⟩
 obtain⟨rfl,K4,HKL4,h⟩:=hcut;clear H HKL;have HKL:=HKL4;clear HKL4;have H:=hQd h
 by_cases h0:e=0
 ·subst h0;obtain⟨hwr,hj⟩:=HGD.out rfl;subst hj
  have hp:zB1 s=.ok ((⟨nl,dd⟩,ac,tm,ts),m)∧zAC ⟨nl,dd⟩ ac tm (3+vv) (ts.map topU)=0:=by
   rcases HO.out with ⟨hb,_⟩|⟨_,h1,h2⟩
   ·exact absurd rfl hb.1
   ·exact⟨h1,h2⟩
  have hp1:=hp.1;rw[←HPT.out]at hp1;obtain⟨hm,hS⟩:=zOQ hp1;obtain⟨S,hSS⟩:∃S,s.take m=S:=⟨_,rfl⟩;rw[hSS]at hS;have HS:=hQd hS;have HWR:=hQd hwr;have hlS:S.length≤2000:=by rw[←hSS,List.length_take];have:=HSN.out;omega
  have HS9:=hQd (show S.length≤9000000 by omega);have HDD:=hQd (show dd.length≤32767 by have h9:dd.length≤s.length:=(zKf hp.1 HSM.out).1;have:=HSN.out;omega);have HAC:=hQd (zMP hp.2).1;have HTM:=hQd (zMP hp.2).2;have m0:0≤(m:Int):=by omega
  have m1:(m:Int)≤(s.length:Int):=by omega
  clear h hp hp1 hS hwr hlS;go_upto_region 11 with fail;have hs:=H.out.drew;refine wp_region_held_drew (S:=fun w'=>w'.cell? ⟨rw,0,none⟩=some (.bool nl)∧w'.cell? ⟨rw,1,none⟩=some (.string (bb dd))∧w'.cell? ⟨rw,2,none⟩=some (.int .i64 ac)∧w'.cell? ⟨rw,3,none⟩=some (.int .i64 tm)∧w'.cell? ⟨rw,4,none⟩=some (.slice qw lw.length capw)∧w'.cell? ⟨rx,0,none⟩=some (.bool nl)∧w'.cell? ⟨rx,1,none⟩=some (.string (bb dd))∧w'.cell? ⟨rx,2,none⟩=some (.int .i64 ac)∧w'.cell? ⟨rx,3,none⟩=some (.int .i64 tm)∧w'.cell? ⟨rx,4,none⟩=some (.slice q l.length cap)) (by kernel_rfl) (HKP.out _ _ hs) (fun hHeld=> ?_);refine tR 0 ?_;refine tR 1 ?_;refine tR 2 ?_;refine tR 3 ?_;refine tR 5 ?_;refine wR [4] (rC rfl (fun KK hK=> ?_) rN);go_simp;go_at_call 21;with_reducible refine(s_at20 bi s m 0 hs.p2).mono ?_;rintro e wq ⟨rfl,hs⟩;refine zK hK (HKP.out _ _ hs.p2.p2) (fun hHeld=> ?_);clear hK KK
  have hs:=hs.p2.p2;refine tR 6 ?_;refine tR 7 ?_;refine tR 8 ?_;refine tR 11 ?_;refine tR 12 ?_;refine tR 13 ?_;refine wR [9] (rC rfl (fun KK hK=> ?_) rN);go_simp;go_at_call 11;with_reducible refine(of20 nl dd ac tm l q cap HLT.out HFL.out HKL.out hs).mono ?_;rintro e wq ⟨qa,ca,ma,Ka,rfl,hma,hka,hkma,hs⟩;refine zK hK (HKP.out _ _ hs) (fun hHeld=> ?_);clear hK KK
  have HMa:=hQd hma;have HMKa:=hQd hkma;clear hma hkma hka;refine wR [10] (rC rfl (fun KK hK=> ?_) rN);go_simp;go_at_call 16;with_reducible refine(zLo nl dd ac tm ma qa ca S ((zNY nl dd ac tm (nl_pt HMa.out)).trans HS.out) HS9.out HDD.out HAC.out HTM.out (Nat.le_trans (Nat.le_of_eq (zQZ HMa.out)) HLL.out) (wrT_nl HMa.out HWR.out) HMKa.out hs).mono ?_;rintro e wq ⟨rfl,hs⟩;refine zK hK (HKP.out _ _ hs) (fun hHeld=> ?_);clear hK KK
  refine tR 14 ?_;refine tR 15 ?_;refine tR 16 ?_;refine tR 17 ?_;refine wpAnyH_done (by kernel_rfl) ?_ _;clear hHeld;go_wp2_with fail;go_ret;exact⟨rfl,hs.below⟩
 ·have e1:(e==0)=false:=by rw[beq_eq_false_iff_ne];exact h0
  have e2:(e !=0)=true:=by simp[bne,e1]
  clear h h0;go_upto_region 11 with fail;have hs:=H.out.drew;refine wp_region_held_drew (S:=fun w'=>w'.cell? ⟨rw,0,none⟩=some (.bool nl)∧w'.cell? ⟨rw,1,none⟩=some (.string (bb dd))∧w'.cell? ⟨rw,2,none⟩=some (.int .i64 ac)∧w'.cell? ⟨rw,3,none⟩=some (.int .i64 tm)∧w'.cell? ⟨rw,4,none⟩=some (.slice qw lw.length capw)∧w'.cell? ⟨rx,0,none⟩=some (.bool nl)∧w'.cell? ⟨rx,1,none⟩=some (.string (bb dd))∧w'.cell? ⟨rx,2,none⟩=some (.int .i64 ac)∧w'.cell? ⟨rx,3,none⟩=some (.int .i64 tm)∧w'.cell? ⟨rx,4,none⟩=some (.slice q l.length cap)) (by kernel_rfl) (HKP.out _ _ hs) (fun hHeld=> ?_);refine tR 0 ?_;refine tR 1 ?_;refine tR 2 ?_;refine wpAnyH_take (i:=3) (oi:=⟨some 46,.move (.tmp 6),44,_,_,some (2,false)⟩) (v:=undef) rfl (by kernel_rfl) (by kernel_rfl) (by kernel_rfl) (fun _ _ _ h=>h) (Or.inr ⟨by rfl,rfl⟩) (by assumption) ?_;simp only[Act.put,sA,sB,sC];refine wpAnyH_take (i:=4) (oi:=⟨some 47,.call {callee:=.value (.func 21),args:= #[.tmp 46],argTypes:= #[44]},3,_,_,some (2,false)⟩) (v:=undef) rfl (by kernel_rfl) (by kernel_rfl) (by kernel_rfl) (fun _ _ _ h=>h) (Or.inr ⟨by rfl,rfl⟩) (by assumption) ?_;simp only[Act.put,sA,sB,sC];refine wpAnyH_take (i:=5) (oi:=⟨some 48,.move (.tmp 9),3,_,_,some (2,false)⟩) (v:=undef) rfl (by kernel_rfl) (by kernel_rfl) (by kernel_rfl) (fun _ _ _ h=>h) (Or.inr ⟨by rfl,rfl⟩) (by assumption) ?_;simp only[Act.put,sA,sB,sC];refine wpAnyH_take (i:=6) (oi:=⟨some 49,.binOp .eql 3 (.tmp 47) (.tmp 48) 3,4,_,_,some (2,false)⟩) (v:=undef) rfl (by kernel_rfl) (by kernel_rfl) (by kernel_rfl) (fun _ _ _ h=>h) (Or.inr ⟨by rfl,rfl⟩) (by assumption) ?_;simp only[Act.put,sA,sB,sC];refine wpAnyH_take (i:=7) (oi:=⟨some 50,.move (.tmp 49),4,_,_,some (2,false)⟩) (v:=undef) rfl (by kernel_rfl) (by kernel_rfl) (by kernel_rfl) (fun _ _ _ h=>h) (Or.inr ⟨by rfl,rfl⟩) (by assumption) ?_;simp only[Act.put,sA,sB,sC];refine wpAnyH_take (i:=8) (oi:=⟨some 51,.load 26 (.tmp 7),26,_,_,some (7,true)⟩) (v:=undef) rfl (by kernel_rfl) (by kernel_rfl) (by kernel_rfl) (fun _ _ _ h=>h) (Or.inr ⟨by rfl,rfl⟩) (by assumption) ?_;simp only[Act.put,sA,sB,sC];refine wpAnyH_take (i:=9) (oi:=⟨some 52,.call {callee:=.value (.func 11),args:= #[.tmp 51],argTypes:= #[26]},40,_,_,some (7,true)⟩) (v:=undef) rfl (by kernel_rfl) (by kernel_rfl) (by kernel_rfl) (fun _ _ _ h=>h) (Or.inr ⟨by rfl,rfl⟩) (by assumption) ?_;simp only[Act.put,sA,sB,sC];refine wpAnyH_take (i:=10) (oi:=⟨some 53,.call {callee:=.value (.func 16),args:= #[.tmp 52],argTypes:= #[40]},9,_,_,some (7,true)⟩) (v:=undef) rfl (by kernel_rfl) (by kernel_rfl) (by kernel_rfl) (fun _ _ _ h=>h) (Or.inr ⟨by rfl,rfl⟩) (by assumption) ?_;simp only[Act.put,sA,sB,sC];refine wpAnyH_take (i:=11) (oi:=⟨some 54,.move (.tmp 0),9,_,_,some (7,true)⟩) (v:=undef) rfl (by kernel_rfl) (by kernel_rfl) (by kernel_rfl) (fun _ _ _ h=>h) (Or.inr ⟨by rfl,rfl⟩) (by assumption) ?_;simp only[Act.put,sA,sB,sC];refine wpAnyH_take (i:=12) (oi:=⟨some 55,.move (.tmp 9),3,_,_,some (7,true)⟩) (v:=undef) rfl (by kernel_rfl) (by kernel_rfl) (by kernel_rfl) (fun _ _ _ h=>h) (Or.inr ⟨by rfl,rfl⟩) (by assumption) ?_;simp only[Act.put,sA,sB,sC];refine wpAnyH_take (i:=13) (oi:=⟨some 56,.slice 9 (.tmp 54) none (some (.tmp 55)) none,9,_,_,some (7,true)⟩) (v:=undef) rfl (by kernel_rfl) (by kernel_rfl) (by kernel_rfl) (fun _ _ _ h=>h) (Or.inr ⟨by rfl,rfl⟩) (by assumption) ?_;simp only[Act.put,sA,sB,sC];refine wpAnyH_take (i:=14) (oi:=⟨some 57,.binOp .eql 9 (.tmp 53) (.tmp 56) 9,4,_,_,some (7,true)⟩) (v:=undef) rfl (by kernel_rfl) (by kernel_rfl) (by kernel_rfl) (fun _ _ _ h=>h) (Or.inr ⟨by rfl,rfl⟩) (by assumption) ?_;simp only[Act.put,sA,sB,sC];refine wpAnyH_take (i:=15) (oi:=⟨some 58,.pick (.tmp 50) (.tmp 57) (.const (Value.bool false)),4,_,_,some (2,false)⟩) (v:=undef) rfl (by kernel_rfl) (by kernel_rfl) (by kernel_rfl) (fun _ _ _ h=>h) (Or.inr ⟨by rfl,rfl⟩) (by assumption) ?_;simp only[Act.put,sA,sB,sC];refine tR 16 ?_;refine tR 17 ?_;refine wpAnyH_done (by kernel_rfl) ?_ _;clear hHeld;go_wp2_with fail;go_ret;exact⟨rfl,hs.below⟩
theorem produceReads_any(s:Bs)(ver:Int)(W:World)(hm:0≤ver∧ver<256)(_:s.length≤9223372036854775807):
 Calls Tryz.prog 4 #[.string (bb s),.int .u8 ver] W fun en w'=>en=.returned (.bool true)∧Below W.heap.size W w':=by
 by_cases hl:s.length≤2000
 ·obtain⟨e,nl,dd,ac,tm,ts,m,ho⟩:=zRz s (3+ver.tmod 2);exact zRv s ver (ver.tmod 2) hl rfl (by rw[Int.tmod_eq_emod_of_nonneg hm.1];omega) e nl dd ac tm ts m ho (St.start (K:=Know.none) trivial)
 ·exact zRw s ver oM (St.start (K:=Know.none) trivial)
end Go.Proofs.YtnnnglklgofabaaGreat
