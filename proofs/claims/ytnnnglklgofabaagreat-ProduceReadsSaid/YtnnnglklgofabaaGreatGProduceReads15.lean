/- A text. -/
import Derived.Test.YtnnnglklgofabaaGreatGProduceReads14
import Derived.Test.YtnnnglklgofabaaGreatGProduceReads6
import Derived.RegionTactic
import Derived.Test.YtnnnglklgofabaaGreatGProduceReads12
import Derived.Deep.RegionHeld3
import Derived.Deep.DeepCutAuto
import Derived.Test.YtnnnglklgofabaaGreatGProduceReads3
import Derived.Test.YtnnnglklgofabaaGreatGProduceReads4
import Derived.Test.YtnnnglklgofabaaGreatGProduceReads13
import Derived.Test.YtnnnglklgofabaaGreatGProduceReads10
import Derived.Test.YtnnnglklgofabaaGreatGProduceReads2
import Derived.Test.YtnnnglklgofabaaGreatGProduceReads8
import Derived.BigQuiet
/- A text. -/
namespace Go.Proofs.YtnnnglklgofabaaGreat
open Go.RowKit
set_option maxHeartbeats 4000000
set_option maxRecDepth 100000
variable {W0 w:World}{K:Know}{L:List Res}
theorem zNF(s:Bs)(hs:s.length≤1000000)(e:Int)(hp:zBu s=.error e)(h:St W0 w K L):
 Calls Tryz.prog 87 #[.string (bb s)] w fun en w'=>en=.returned (.agg #[.int .i64 0,.int .i64 0,.bool false,.bool false,.bool false,.int .i64 0,.int .i64 0,.int .i64 0,.int .i64 0,.int .i64 0,.int .i64 0,.slice none 0 0,.int .i64 0,.int .i64 e])∧St W0 w' K L:=by
 obtain⟨rb,hrb⟩:∃b,w.heap.size=b:=⟨_,rfl⟩;have g1:=h.allocRaw #[.int .i64 0,.int .i64 0,.bool false,.bool false,.bool false,.int .i64 0,.int .i64 0,.int .i64 0,.int .i64 0,.int .i64 0,.int .i64 0,.slice none 0 0,.int .i64 0,.int .i64 0] 149;rw[hrb]at g1;obtain⟨z0,z1,z2,z3,z4,z5,z6,z7,z8,z9,z10,z11,z12,z13,zf0,zf1,zf2,zf3,zf4,zf5,zf6,zf7,zf8,zf9,zf10,zf11,zf12,zf13⟩:=zAG (b:=rb) (g1);have H:=hQd g1;have HL:=hQd (show s.length≤140737488355328 by omega);have HP:=hQd hp;have g0:=zJ4 hp;have g1e:(e==0)=false:=by rw[beq_eq_false_iff_ne];exact g0
 have g2e:(e !=0)=true:=by simp[bne,g1e]
 clear g0;clear h g1 hp hs;go_enter Tryz.func87,Tryz.ntmps87
 go_wp2_with (first
  |(go_at_call 117;clear z0 zf0 z1 zf1 z2 zf2 z3 zf3 z4 zf4 z5 zf5 z6 zf6 z7 zf7 z8 zf8 z9 zf9 z10 zf10 z11 zf11 z12 zf12 z13 zf13;(with_reducible refine(zFH s e HP.out HL.out H.out).mono ?_);rintro e_ wn ⟨rfl,h⟩;obtain⟨z0,z1,z2,z3,z4,z5,z6,z7,z8,z9,z10,z11,z12,z13,zf0,zf1,zf2,zf3,zf4,zf5,zf6,zf7,zf8,zf9,zf10,zf11,zf12,zf13⟩:=zAG (b:=rb) (h);replace H:=hQd h;clear h)
  |(go_at_call 118;clear z0 zf0 z1 zf1 z2 zf2 z3 zf3 z4 zf4 z5 zf5 z6 zf6 z7 zf7 z8 zf8 z9 zf9 z10 zf10 z11 zf11 z12 zf12 z13 zf13;(with_reducible refine(zAV e H.out).mono ?_);rintro e_ wn ⟨rfl,h⟩;obtain⟨z0,z1,z2,z3,z4,z5,z6,z7,z8,z9,z10,z11,z12,z13,zf0,zf1,zf2,zf3,zf4,zf5,zf6,zf7,zf8,zf9,zf10,zf11,zf12,zf13⟩:=zAG (b:=rb) (h);replace H:=hQd h;clear h))
 have hz:St W0 _ _ (.raw rb #[.int .i64 0,.int .i64 0,.bool false,.bool false,.bool false,.int .i64 0,.int .i64 0,.int .i64 0,.int .i64 0,.int .i64 0,.int .i64 0,.slice none 0 0,.int .i64 0,.int .i64 e] 149::_):=St.sets14 _ _ _ _ _ _ _ _ _ _ _ _ _ _ (H.out);refine bodyPost_ret (zAs rfl _ _ rb [.int .i64 0,.int .i64 0,.bool false,.bool false,.bool false,.int .i64 0,.int .i64 0,.int .i64 0,.int .i64 0,.int .i64 0,.int .i64 0,.slice none 0 0,.int .i64 0,.int .i64 e] _ rfl (zAE hz) Tryz.underlying149 rfl (by kernel_rfl)) rfl ?_;exact⟨rfl,hz.drop⟩
theorem zON(s:Bs)(hs:s.length≤1000000)(x:PreS)(hp:zBu s=.ok x)(nn:Nat)(hnn:61+(x.len - 49).toNat=nn)(hlt:s.length<nn)(h:St W0 w K L):
 Calls Tryz.prog 87 #[.string (bb s)] w fun en w'=>en=.returned (.agg #[.int .i64 0,.int .i64 0,.bool false,.bool false,.bool false,.int .i64 0,.int .i64 0,.int .i64 0,.int .i64 0,.int .i64 0,.int .i64 0,.slice none 0 0,.int .i64 0,.int .i64 1])∧St W0 w' K L:=by
 obtain⟨rb,hrb⟩:∃b,w.heap.size=b:=⟨_,rfl⟩;have g1:=h.allocRaw #[.int .i64 0,.int .i64 0,.bool false,.bool false,.bool false,.int .i64 0,.int .i64 0,.int .i64 0,.int .i64 0,.int .i64 0,.int .i64 0,.slice none 0 0,.int .i64 0,.int .i64 0] 149;rw[hrb]at g1;obtain⟨z0,z1,z2,z3,z4,z5,z6,z7,z8,z9,z10,z11,z12,z13,zf0,zf1,zf2,zf3,zf4,zf5,zf6,zf7,zf8,zf9,zf10,zf11,zf12,zf13⟩:=zAG (b:=rb) (g1);have H:=hQd g1;have HL:=hQd (show s.length≤140737488355328 by omega);have HP:=hQd hp;obtain⟨r1,r2,r3,r4,r5,r6⟩:=zAT hp;have hln:x.len+12=(nn:Int):=by omega
 have hsl:(s.length:Int)≤1000000:=by omega
 have g9:(s.length:Int)<(nn:Int):=by omega
 clear h g1 hp hs hnn hlt r3 r4 r5 r6;go_enter Tryz.func87,Tryz.ntmps87
 go_wp2_with (first
  |(go_at_call 117;clear z0 zf0 z1 zf1 z2 zf2 z3 zf3 z4 zf4 z5 zf5 z6 zf6 z7 zf7 z8 zf8 z9 zf9 z10 zf10 z11 zf11 z12 zf12 z13 zf13;(with_reducible refine(zAD s x HP.out HL.out H.out).mono ?_);rintro e_ wn ⟨bl,rfl,h⟩;obtain⟨p0,p1,p2,p3,p4,p5,p6,p7,p8,p9,p10,p11⟩:=uR12 h;simp at p0 p1 p2 p3 p4 p5 p6 p7 p8 p9 p10 p11;obtain⟨z0,z1,z2,z3,z4,z5,z6,z7,z8,z9,z10,z11,z12,z13,zf0,zf1,zf2,zf3,zf4,zf5,zf6,zf7,zf8,zf9,zf10,zf11,zf12,zf13⟩:=zAG (b:=rb) (h.p1);replace H:=hQd h;clear h)
  |(go_at_call 118;clear z0 zf0 z1 zf1 z2 zf2 z3 zf3 z4 zf4 z5 zf5 z6 zf6 z7 zf7 z8 zf8 z9 zf9 z10 zf10 z11 zf11 z12 zf12 z13 zf13;clear p0 p1 p2 p3 p4 p5 p6 p7 p8 p9 p10 p11;(with_reducible refine(zAV 1 H.out).mono ?_);rintro e_ wn ⟨rfl,h⟩;obtain⟨z0,z1,z2,z3,z4,z5,z6,z7,z8,z9,z10,z11,z12,z13,zf0,zf1,zf2,zf3,zf4,zf5,zf6,zf7,zf8,zf9,zf10,zf11,zf12,zf13⟩:=zAG (b:=rb) (h.p1);replace H:=hQd h;clear h))
 have hz:St W0 _ _ (.raw rb #[.int .i64 0,.int .i64 0,.bool false,.bool false,.bool false,.int .i64 0,.int .i64 0,.int .i64 0,.int .i64 0,.int .i64 0,.int .i64 0,.slice none 0 0,.int .i64 0,.int .i64 1] 149::_):=St.sets14 _ _ _ _ _ _ _ _ _ _ _ _ _ _ (H.out.p1);refine bodyPost_ret (zAs rfl _ _ rb [.int .i64 0,.int .i64 0,.bool false,.bool false,.bool false,.int .i64 0,.int .i64 0,.int .i64 0,.int .i64 0,.int .i64 0,.int .i64 0,.slice none 0 0,.int .i64 0,.int .i64 1] _ rfl (zAE hz) Tryz.underlying149 rfl (by kernel_rfl)) rfl ?_;exact⟨rfl,hz.drop.drop⟩
set_option maxHeartbeats 8000000
theorem zRn(s:Bs)(hs:s.length≤1000000)(x:PreS)(hp:zBu s=.ok x)(nn:Nat)(hnn:61+(x.len - 49).toNat=nn)(hge0:nn≤s.length)(sd:Bs)(hsd:(s.drop 21).take (nn - 21)=sd)(X:Nat)(hX:(zAm 0#32 sd).toNat=X)(hne:(X:Int)≠x.sum){W0 w:World}{K:Know}{L:List Res}(h:St W0 w K L):
 Calls Tryz.prog 87 #[.string (bb s)] w fun en w'=>en=.returned (.agg #[.int .i64 0,.int .i64 0,.bool false,.bool false,.bool false,.int .i64 0,.int .i64 0,.int .i64 0,.int .i64 0,.int .i64 0,.int .i64 0,.slice none 0 0,.int .i64 0,.int .i64 5])∧St W0 w' K L:=by
 obtain⟨rb,hrb⟩:∃b,w.heap.size=b:=⟨_,rfl⟩;have g1:=h.allocRaw #[.int .i64 0,.int .i64 0,.bool false,.bool false,.bool false,.int .i64 0,.int .i64 0,.int .i64 0,.int .i64 0,.int .i64 0,.int .i64 0,.slice none 0 0,.int .i64 0,.int .i64 0] 149;rw[hrb]at g1;obtain⟨z0,z1,z2,z3,z4,z5,z6,z7,z8,z9,z10,z11,z12,z13,zf0,zf1,zf2,zf3,zf4,zf5,zf6,zf7,zf8,zf9,zf10,zf11,zf12,zf13⟩:=zAG (b:=rb) (g1);have H:=hQd g1;have HL:=hQd (show s.length≤140737488355328 by omega);have HP:=hQd hp;obtain⟨r1,r2,r3,r4,r5,r6⟩:=zAT hp;have hln:x.len+12=(nn:Int):=by omega
 have hsl:(s.length:Int)≤1000000:=by omega
 have HSD:=hQd hsd;have HX:=hQd hX;have HSL:=hQd (show sd.length≤1000000 by rw[←hsd,List.length_take,List.length_drop];omega);have hX4:(X:Int)<4294967296:=by rw[←hX];have:=(zAm 0#32 sd).isLt;omega
 have hwX:IntKind.i64.wrap (X:Int)=(X:Int):=by rw[IntKind.wrap_i64];omega
 clear hX4;have hge:(nn:Int)≤(s.length:Int):=by omega
 have h21:(21:Int)≤(nn:Int):=by omega
 have h61:(61:Int)≤(nn:Int):=by omega
 have hg9:¬(s.length:Int)<(nn:Int):=by omega
 have g5:((X:Int)==x.sum)=false:=by rw[beq_eq_false_iff_ne];exact hne
 have g6:((X:Int) !=x.sum)=true:=by simp[bne,g5]
 clear h g1 hp hs hnn r3 r4 r5 r6 hsd hX hge0 hne;go_enter Tryz.func87,Tryz.ntmps87
 go_upto_region 7 with (first
  |(go_at_call 117;clear z0 zf0 z1 zf1 z2 zf2 z3 zf3 z4 zf4 z5 zf5 z6 zf6 z7 zf7 z8 zf8 z9 zf9 z10 zf10 z11 zf11 z12 zf12 z13 zf13;(with_reducible refine(zAD s x HP.out HL.out H.out).mono ?_);rintro e_ wn ⟨bl,rfl,h⟩;obtain⟨p0,p1,p2,p3,p4,p5,p6,p7,p8,p9,p10,p11⟩:=uR12 h;simp at p0 p1 p2 p3 p4 p5 p6 p7 p8 p9 p10 p11;obtain⟨z0,z1,z2,z3,z4,z5,z6,z7,z8,z9,z10,z11,z12,z13,zf0,zf1,zf2,zf3,zf4,zf5,zf6,zf7,zf8,zf9,zf10,zf11,zf12,zf13⟩:=zAG (b:=rb) (h.p1);replace H:=hQd h;clear h))
 clear z0 zf0 z1 zf1 z2 zf2 z3 zf3 z4 zf4 z5 zf5 z6 zf6 z7 zf7 z8 zf8 z9 zf9 z10 zf10 z11 zf11 z12 zf12 z13 zf13;clear p0 p1 p2 p3 p4 p5 p6 p7 p8 p9 p10 p11;have hs:=H.out.drew;refine wp_region_held_drew (S:=fun w'=>w'.cell? ⟨bl,0,none⟩=some (.int .i64 x.base)∧w'.cell? ⟨bl,1,none⟩=some (.int .i64 x.len)∧w'.cell? ⟨bl,2,none⟩=some (.int .i64 x.leader)∧w'.cell? ⟨bl,3,none⟩=some (.int .i64 x.sum)∧w'.cell? ⟨bl,4,none⟩=some (.int .i64 x.attr)∧w'.cell? ⟨bl,5,none⟩=some (.int .i64 x.last)∧w'.cell? ⟨bl,6,none⟩=some (.int .i64 x.first)∧w'.cell? ⟨bl,7,none⟩=some (.int .i64 x.maxt)∧w'.cell? ⟨bl,8,none⟩=some (.int .i64 x.prod)∧w'.cell? ⟨bl,9,none⟩=some (.int .i64 x.epoch)∧w'.cell? ⟨bl,10,none⟩=some (.int .i64 x.seq)∧w'.cell? ⟨bl,11,none⟩=some (.int .i64 x.count)) (by kernel_rfl) (⟨hs.rawCell 0,hs.rawCell 1,hs.rawCell 2,hs.rawCell 3,hs.rawCell 4,hs.rawCell 5,hs.rawCell 6,hs.rawCell 7,hs.rawCell 8,hs.rawCell 9,hs.rawCell 10,hs.rawCell 11⟩) (fun hHeld=> ?_);refine tR 0 ?_;refine tR 1 ?_;refine tR 2 ?_;refine tR 5 ?_;refine tR 6 ?_;refine tR 7 ?_;refine wR [3] (rC rfl (fun KK hK=> ?_) rN);go_simp
 (try rw[HSD.out])
 go_at_call 84;(with_reducible refine(zE5 sd HSL.out X HX.out hs).mono ?_);rintro e wq ⟨rfl,hs⟩;refine zK hK (⟨hs.rawCell 0,hs.rawCell 1,hs.rawCell 2,hs.rawCell 3,hs.rawCell 4,hs.rawCell 5,hs.rawCell 6,hs.rawCell 7,hs.rawCell 8,hs.rawCell 9,hs.rawCell 10,hs.rawCell 11⟩) (fun hHeld=> ?_);clear hK KK
 refine tR 4 ?_;refine tR 8 ?_;refine wpAnyH_done (by kernel_rfl) ?_ _;clear hHeld;have H:=hQd hs;clear hs;obtain⟨p0,p1,p2,p3,p4,p5,p6,p7,p8,p9,p10,p11⟩:=uR12 H.out;simp at p0 p1 p2 p3 p4 p5 p6 p7 p8 p9 p10 p11;obtain⟨z0,z1,z2,z3,z4,z5,z6,z7,z8,z9,z10,z11,z12,z13,zf0,zf1,zf2,zf3,zf4,zf5,zf6,zf7,zf8,zf9,zf10,zf11,zf12,zf13⟩:=zAG (b:=rb) (H.out.p1);go_wp2_with (go_at_call 118;clear z0 zf0 z1 zf1 z2 zf2 z3 zf3 z4 zf4 z5 zf5 z6 zf6 z7 zf7 z8 zf8 z9 zf9 z10 zf10 z11 zf11 z12 zf12 z13 zf13;clear p0 p1 p2 p3 p4 p5 p6 p7 p8 p9 p10 p11;(with_reducible refine(zAV 5 H.out).mono ?_);rintro e_ wn ⟨rfl,h⟩;obtain⟨z0,z1,z2,z3,z4,z5,z6,z7,z8,z9,z10,z11,z12,z13,zf0,zf1,zf2,zf3,zf4,zf5,zf6,zf7,zf8,zf9,zf10,zf11,zf12,zf13⟩:=zAG (b:=rb) (h.p1);replace H:=hQd h;clear h);have hz:St W0 _ _ (.raw rb #[.int .i64 0,.int .i64 0,.bool false,.bool false,.bool false,.int .i64 0,.int .i64 0,.int .i64 0,.int .i64 0,.int .i64 0,.int .i64 0,.slice none 0 0,.int .i64 0,.int .i64 5] 149::_):=St.sets14 _ _ _ _ _ _ _ _ _ _ _ _ _ _ (H.out.p1);refine bodyPost_ret (zAs rfl _ _ rb [.int .i64 0,.int .i64 0,.bool false,.bool false,.bool false,.int .i64 0,.int .i64 0,.int .i64 0,.int .i64 0,.int .i64 0,.int .i64 0,.slice none 0 0,.int .i64 0,.int .i64 5] _ rfl (zAE hz) Tryz.underlying149 rfl (by kernel_rfl)) rfl ?_;exact⟨rfl,hz.drop.drop⟩
theorem zq3{p:Prop}(h:p:=by
 have hs:=H.out.drew;refine wp_region_held_drew (S:=fun w'=>w'.cell? ⟨bl,0,none⟩=some (.int .i64 x.base)∧w'.cell? ⟨bl,1,none⟩=some (.int .i64 x.len)∧w'.cell? ⟨bl,2,none⟩=some (.int .i64 x.leader)∧w'.cell? ⟨bl,3,none⟩=some (.int .i64 x.sum)∧w'.cell? ⟨bl,4,none⟩=some (.int .i64 x.attr)∧w'.cell? ⟨bl,5,none⟩=some (.int .i64 x.last)∧w'.cell? ⟨bl,6,none⟩=some (.int .i64 x.first)∧w'.cell? ⟨bl,7,none⟩=some (.int .i64 x.maxt)∧w'.cell? ⟨bl,8,none⟩=some (.int .i64 x.prod)∧w'.cell? ⟨bl,9,none⟩=some (.int .i64 x.epoch)∧w'.cell? ⟨bl,10,none⟩=some (.int .i64 x.seq)∧w'.cell? ⟨bl,11,none⟩=some (.int .i64 x.count)) (by kernel_rfl) (⟨hs.rawCell 0,hs.rawCell 1,hs.rawCell 2,hs.rawCell 3,hs.rawCell 4,hs.rawCell 5,hs.rawCell 6,hs.rawCell 7,hs.rawCell 8,hs.rawCell 9,hs.rawCell 10,hs.rawCell 11⟩) (fun hHeld=> ?_);refine tR 0 ?_;refine tR 1 ?_;refine tR 2 ?_;refine tR 5 ?_;refine tR 6 ?_;refine tR 7 ?_;refine wR [3] (rC rfl (fun KK hK=> ?_) rN);go_simp
 (try rw[HSD.out])
 go_at_call 84;(with_reducible refine(zE5 sd HSL.out X HX.out hs).mono ?_);rintro e wq ⟨rfl,hs⟩;refine zK hK (⟨hs.rawCell 0,hs.rawCell 1,hs.rawCell 2,hs.rawCell 3,hs.rawCell 4,hs.rawCell 5,hs.rawCell 6,hs.rawCell 7,hs.rawCell 8,hs.rawCell 9,hs.rawCell 10,hs.rawCell 11⟩) (fun hHeld=> ?_);clear hK KK
 refine tR 4 ?_;refine tR 8 ?_;refine wpAnyH_done (by kernel_rfl) ?_ _;clear hHeld;go_wp2_with fail;go_meet;exact⟨rfl,hs⟩):p:=h
theorem zRo(s:Bs)(hs:s.length≤1000000)(x:PreS)(hp:zBu s=.ok x)(nn:Nat)(hnn:61+(x.len - 49).toNat=nn)(hge0:nn≤s.length)(sd:Bs)(hsd:(s.drop 21).take (nn - 21)=sd)(X:Nat)(hX:(zAm 0#32 sd).toNat=X)(heq:(X:Int)=x.sum)(h8:¬x.attr % 8=0){W0 w:World}{K:Know}{L:List Res}(h:St W0 w K L):
 Calls Tryz.prog 87 #[.string (bb s)] w fun en w'=>en=.returned (.agg #[.int .i64 0,.int .i64 0,.bool false,.bool false,.bool false,.int .i64 0,.int .i64 0,.int .i64 0,.int .i64 0,.int .i64 0,.int .i64 0,.slice none 0 0,.int .i64 0,.int .i64 9])∧St W0 w' K L:=by
 obtain⟨rb,hrb⟩:∃b,w.heap.size=b:=⟨_,rfl⟩;have g1:=h.allocRaw #[.int .i64 0,.int .i64 0,.bool false,.bool false,.bool false,.int .i64 0,.int .i64 0,.int .i64 0,.int .i64 0,.int .i64 0,.int .i64 0,.slice none 0 0,.int .i64 0,.int .i64 0] 149;rw[hrb]at g1;obtain⟨z0,z1,z2,z3,z4,z5,z6,z7,z8,z9,z10,z11,z12,z13,zf0,zf1,zf2,zf3,zf4,zf5,zf6,zf7,zf8,zf9,zf10,zf11,zf12,zf13⟩:=zAG (b:=rb) (g1);have H:=hQd g1;have HL:=hQd (show s.length≤140737488355328 by omega);have HP:=hQd hp;obtain⟨r1,r2,r3,r4,r5,r6⟩:=zAT hp;have hln:x.len+12=(nn:Int):=by omega
 have hsl:(s.length:Int)≤1000000:=by omega
 have HSD:=hQd hsd;have HX:=hQd hX;have HSL:=hQd (show sd.length≤1000000 by rw[←hsd,List.length_take,List.length_drop];omega);have hX4:(X:Int)<4294967296:=by rw[←hX];have:=(zAm 0#32 sd).isLt;omega
 have hwX:IntKind.i64.wrap (X:Int)=(X:Int):=by rw[IntKind.wrap_i64];omega
 clear hX4;have hge:(nn:Int)≤(s.length:Int):=by omega
 have h21:(21:Int)≤(nn:Int):=by omega
 have h61:(61:Int)≤(nn:Int):=by omega
 have hg9:¬(s.length:Int)<(nn:Int):=by omega
 have g5:((X:Int)==x.sum)=true:=by rw[heq];exact beq_self_eq_true _
 have g6:((X:Int) !=x.sum)=false:=by simp[bne,g5]
 obtain⟨c0,c1,hb2,hc1⟩:=zCv x.attr;have HB2:=hQd hb2;have HA:=hQd (show -9223372036854775808≤x.attr∧x.attr<9223372036854775808 from r3);have hc8:¬(c1.toNat:Int) % 8=0:=by rw[hc1];omega
 have e9:(((([c0,c1]:List UInt8)[1]'(by simp)).toNat:Int) % 8 !=0)=true:=by show((c1.toNat:Int) % 8 !=0)=true;simp[bne,hc8]
 have e8:(((([c0,c1]:List UInt8)[1]'(by simp)).toNat:Int) % 8==0)=false:=by show((c1.toNat:Int) % 8==0)=false;simp[hc8]
 clear hc8 hc1;clear h8;clear h g1 hp hs hnn r3 r4 r5 r6 hsd hX hge0 heq hb2;go_enter Tryz.func87,Tryz.ntmps87
 go_upto_region 7 with (first
  |(go_at_call 117;clear z0 zf0 z1 zf1 z2 zf2 z3 zf3 z4 zf4 z5 zf5 z6 zf6 z7 zf7 z8 zf8 z9 zf9 z10 zf10 z11 zf11 z12 zf12 z13 zf13;(with_reducible refine(zAD s x HP.out HL.out H.out).mono ?_);rintro e_ wn ⟨bl,rfl,h⟩;obtain⟨p0,p1,p2,p3,p4,p5,p6,p7,p8,p9,p10,p11⟩:=uR12 h;simp at p0 p1 p2 p3 p4 p5 p6 p7 p8 p9 p10 p11;obtain⟨z0,z1,z2,z3,z4,z5,z6,z7,z8,z9,z10,z11,z12,z13,zf0,zf1,zf2,zf3,zf4,zf5,zf6,zf7,zf8,zf9,zf10,zf11,zf12,zf13⟩:=zAG (b:=rb) (h.p1);replace H:=hQd h;clear h))
 clear z0 zf0 z1 zf1 z2 zf2 z3 zf3 z4 zf4 z5 zf5 z6 zf6 z7 zf7 z8 zf8 z9 zf9 z10 zf10 z11 zf11 z12 zf12 z13 zf13;clear p0 p1 p2 p3 p4 p5 p6 p7 p8 p9 p10 p11;go_cut [38] (fun s38 wx=>s38=.bool false∧St W0 wx K (.raw bl #[.int .i64 x.base,.int .i64 x.len,.int .i64 x.leader,.int .i64 x.sum,.int .i64 x.attr,.int .i64 x.last,.int .i64 x.first,.int .i64 x.maxt,.int .i64 x.prod,.int .i64 x.epoch,.int .i64 x.seq,.int .i64 x.count] 3::.raw rb #[.int .i64 0,.int .i64 0,.bool false,.bool false,.bool false,.int .i64 0,.int .i64 0,.int .i64 0,.int .i64 0,.int .i64 0,.int .i64 0,.slice none 0 0,.int .i64 0,.int .i64 0] 149::L))
 case first=>
  exact zq3
 obtain⟨rfl,h⟩:=hcut;clear H;obtain⟨p0,p1,p2,p3,p4,p5,p6,p7,p8,p9,p10,p11⟩:=uR12 h;simp at p0 p1 p2 p3 p4 p5 p6 p7 p8 p9 p10 p11;obtain⟨z0,z1,z2,z3,z4,z5,z6,z7,z8,z9,z10,z11,z12,z13,zf0,zf1,zf2,zf3,zf4,zf5,zf6,zf7,zf8,zf9,zf10,zf11,zf12,zf13⟩:=zAG (b:=rb) (h.p1);have H:=hQd h;clear h
 go_wp2_with (first
  |(go_at_call 49;clear z0 zf0 z1 zf1 z2 zf2 z3 zf3 z4 zf4 z5 zf5 z6 zf6 z7 zf7 z8 zf8 z9 zf9 z10 zf10 z11 zf11 z12 zf12 z13 zf13;clear p0 p1 p2 p3 p4 p5 p6 p7 p8 p9 p10 p11;(with_reducible refine(zBW x.attr HA.out c0 c1 HB2.out H.out).mono ?_);rintro e_ wn ⟨rfl,h⟩;obtain⟨p0,p1,p2,p3,p4,p5,p6,p7,p8,p9,p10,p11⟩:=uR12 h;simp at p0 p1 p2 p3 p4 p5 p6 p7 p8 p9 p10 p11;obtain⟨z0,z1,z2,z3,z4,z5,z6,z7,z8,z9,z10,z11,z12,z13,zf0,zf1,zf2,zf3,zf4,zf5,zf6,zf7,zf8,zf9,zf10,zf11,zf12,zf13⟩:=zAG (b:=rb) (h.p1);replace H:=hQd h;clear h)
  |(go_at_call 118;clear z0 zf0 z1 zf1 z2 zf2 z3 zf3 z4 zf4 z5 zf5 z6 zf6 z7 zf7 z8 zf8 z9 zf9 z10 zf10 z11 zf11 z12 zf12 z13 zf13;clear p0 p1 p2 p3 p4 p5 p6 p7 p8 p9 p10 p11;(with_reducible refine(zAV 9 H.out).mono ?_);rintro e_ wn ⟨rfl,h⟩;obtain⟨z0,z1,z2,z3,z4,z5,z6,z7,z8,z9,z10,z11,z12,z13,zf0,zf1,zf2,zf3,zf4,zf5,zf6,zf7,zf8,zf9,zf10,zf11,zf12,zf13⟩:=zAG (b:=rb) (h.p1);replace H:=hQd h;clear h))
 have hz:St W0 _ _ (.raw rb #[.int .i64 0,.int .i64 0,.bool false,.bool false,.bool false,.int .i64 0,.int .i64 0,.int .i64 0,.int .i64 0,.int .i64 0,.int .i64 0,.slice none 0 0,.int .i64 0,.int .i64 9] 149::_):=St.sets14 _ _ _ _ _ _ _ _ _ _ _ _ _ _ (H.out.p1);refine bodyPost_ret (zAs rfl _ _ rb [.int .i64 0,.int .i64 0,.bool false,.bool false,.bool false,.int .i64 0,.int .i64 0,.int .i64 0,.int .i64 0,.int .i64 0,.int .i64 0,.slice none 0 0,.int .i64 0,.int .i64 9] _ rfl (zAE hz) Tryz.underlying149 rfl (by kernel_rfl)) rfl ?_;exact⟨rfl,hz.drop.drop⟩
theorem zq5{p:Prop}(h:p:=by
  have hs:=H.out.drew;refine wp_region_held_drew (S:=fun w'=>w'.cell? ⟨bl,0,none⟩=some (.int .i64 x.base)∧w'.cell? ⟨bl,1,none⟩=some (.int .i64 x.len)∧w'.cell? ⟨bl,2,none⟩=some (.int .i64 x.leader)∧w'.cell? ⟨bl,3,none⟩=some (.int .i64 x.sum)∧w'.cell? ⟨bl,4,none⟩=some (.int .i64 x.attr)∧w'.cell? ⟨bl,5,none⟩=some (.int .i64 x.last)∧w'.cell? ⟨bl,6,none⟩=some (.int .i64 x.first)∧w'.cell? ⟨bl,7,none⟩=some (.int .i64 x.maxt)∧w'.cell? ⟨bl,8,none⟩=some (.int .i64 x.prod)∧w'.cell? ⟨bl,9,none⟩=some (.int .i64 x.epoch)∧w'.cell? ⟨bl,10,none⟩=some (.int .i64 x.seq)∧w'.cell? ⟨bl,11,none⟩=some (.int .i64 x.count)) (by kernel_rfl) (⟨hs.rawCell 0,hs.rawCell 1,hs.rawCell 2,hs.rawCell 3,hs.rawCell 4,hs.rawCell 5,hs.rawCell 6,hs.rawCell 7,hs.rawCell 8,hs.rawCell 9,hs.rawCell 10,hs.rawCell 11⟩) (fun hHeld=> ?_);refine tR 0 ?_;refine tR 1 ?_;refine tR 2 ?_;refine tR 3 ?_;refine tR 4 ?_;refine tR 5 ?_;refine tR 6 ?_;refine tR 7 ?_;refine tR 8 ?_;refine tR 9 ?_;refine tR 10 ?_;refine tR 11 ?_;refine tR 12 ?_;refine tR 13 ?_;refine tR 14 ?_;refine tR 15 ?_;refine tR 16 ?_;refine tR 17 ?_;refine tR 18 ?_;refine tR 19 ?_;refine tR 20 ?_;refine tR 21 ?_;refine tR 22 ?_;refine tR 23 ?_;refine tR 24 ?_;refine tR 25 ?_;refine tR 26 ?_;refine tR 27 ?_;refine tR 28 ?_;refine tR 29 ?_;refine tR 30 ?_;refine tR 31 ?_;refine tR 32 ?_;refine tR 33 ?_;refine tR 34 ?_;refine tR 35 ?_;refine wR [36] (rC rfl (fun KK hK=> ?_) rN);obtain⟨wy,tb,ey,er,hs⟩:=hs.allocEx #[.int .i64 0,.int .i64 0,.bool false,.bool false,.bool false,.int .i64 0,.int .i64 0,.int .i64 0,.int .i64 0,.int .i64 0,.int .i64 0,.slice none 0 0] 58;go_simp
  try rw[ey]
  try rw[er]
  clear ey er;refine zK hK (⟨hs.p1.rawCell 0,hs.p1.rawCell 1,hs.p1.rawCell 2,hs.p1.rawCell 3,hs.p1.rawCell 4,hs.p1.rawCell 5,hs.p1.rawCell 6,hs.p1.rawCell 7,hs.p1.rawCell 8,hs.p1.rawCell 9,hs.p1.rawCell 10,hs.p1.rawCell 11⟩) (fun hHeld=> ?_);clear hK KK
  refine wR [37] (rC rfl (fun KK hK=> ?_) rN);rw[if_pos (by rfl)];refine wp_store_mid 58 (.tmp 7) (.tmp 100) rfl tb 0 #[.int .i64 x.base,.int .i64 x.leader,.bool (x.attr / 8 % 2==1),.bool (x.attr / 16 % 2==1),.bool (x.attr / 32==1),.int .i64 x.last,.int .i64 x.first,.int .i64 x.maxt,.int .i64 x.prod,.int .i64 x.epoch,.int .i64 x.seq,.slice none 0 0] (by rfl) (by rfl) hs.there (by kernel_rfl) (by simp[Value.oneCell']) ?_;obtain⟨wz,ez,hs⟩:=hs.storeEx #[.int .i64 x.base,.int .i64 x.leader,.bool (x.attr / 8 % 2==1),.bool (x.attr / 16 % 2==1),.bool (x.attr / 32==1),.int .i64 x.last,.int .i64 x.first,.int .i64 x.maxt,.int .i64 x.prod,.int .i64 x.epoch,.int .i64 x.seq,.slice none 0 0];rw[ez];clear ez;rw[zLh]at hs;rotate_left
  · rfl
  rw[HD.out.1,HD.out.2.1,HD.out.2.2]at hs;refine zK hK (⟨hs.p1.rawCell 0,hs.p1.rawCell 1,hs.p1.rawCell 2,hs.p1.rawCell 3,hs.p1.rawCell 4,hs.p1.rawCell 5,hs.p1.rawCell 6,hs.p1.rawCell 7,hs.p1.rawCell 8,hs.p1.rawCell 9,hs.p1.rawCell 10,hs.p1.rawCell 11⟩) (fun hHeld=> ?_);clear hK KK
  refine wpAnyH_done (by kernel_rfl) ?_ _;clear hHeld;go_wp2_with fail;go_meet;exact⟨tb,rfl,hs⟩):p:=h
theorem zq11{p:Prop}(h:p:=by
  refine⟨k+1,acc++[(y,.slice q1 y.hdrs.length cc1)],r.drop m,K2.and (Know.flat RHdr (.slice q1 y.hdrs.length cc1) 3 y.hdrs),.slice qv (acc.length+1) cv,hlt,by go_num,?_,?_,?_,?_,?_,?_,?_⟩
  · rw[HDR.out]
  · rw[List.length_append,HACC.out];rfl
  · exact hQd (by rw[List.map_append];exact HC2.out)
  · exact hQd (by rw[List.length_drop];have:=HRL.out;omega)
  · exact hQd (Know.has_trans (Know.has_left (Know.has_refl _)) HK2.out)
  · refine hQd (fun z hz=> ?_)
    rcases List.mem_append.1 hz with hz|hz
    · exact Know.has_trans (Know.has_left (Know.has_refl _)) (HALL.out z hz)
    · rw[List.mem_singleton.1 hz];exact Know.has_right (Know.has_refl _)
  · rw[List.length_append,List.flatMap_append];exact(H.out.p2.rawSet 11 (.slice qv _ cv)).p1.p2.drop):p:=h
theorem zq17{p:Prop}(h:p:=by
  have h9:=H.out
  by_cases c32:32≤x.attr
  · have d2:decide (32≤x.attr)=true:=decide_eq_true c32;have d3:decide (x.attr % 32<16)=false:=decide_eq_false (by have:=HN2.out;omega);clear c32;go_wp2_with fail;go_meet;exact⟨rfl,h9⟩
  · have d2:decide (32≤x.attr)=false:=decide_eq_false c32;clear c32;go_wp2_with fail;go_meet;exact⟨rfl,h9⟩):p:=h
theorem zq63{p:Prop}(h:p:=by first|rfl|(rw[World.size_alloc];rfl)|(rw[World.size_alloc,hxb];rfl)):p:=h
theorem zRm(s:Bs)(hs:s.length≤1000000)(x:PreS)(hp:zBu s=.ok x)(nn:Nat)(hnn:61+(x.len - 49).toNat=nn)(hge0:nn≤s.length)(sd:Bs)(hsd:(s.drop 21).take (nn - 21)=sd)(X:Nat)(hX:(zAm 0#32 sd).toNat=X)(heq:(X:Int)=x.sum)(h8:x.attr % 8=0)(hn0:¬x.attr<0)(hn1:¬63<x.attr)(hn2:¬(32≤x.attr∧x.attr % 32<16))(n:Nat)(hcn:x.count=(n:Int))(hnb:n≤2147483647)(e:Int)(he0:e≠0)(hu:unpT n ((s.drop 61).take (nn - 61))=.error e){W0 w:World}{K:Know}{L:List Res}(h:St W0 w K L):
 Calls Tryz.prog 87 #[.string (bb s)] w fun en w'=>en=.returned (.agg #[.int .i64 0,.int .i64 0,.bool false,.bool false,.bool false,.int .i64 0,.int .i64 0,.int .i64 0,.int .i64 0,.int .i64 0,.int .i64 0,.slice none 0 0,.int .i64 0,.int .i64 e])∧St W0 w' K L:=by
 obtain⟨rb,hrb⟩:∃b,w.heap.size=b:=⟨_,rfl⟩;have g1:=h.allocRaw #[.int .i64 0,.int .i64 0,.bool false,.bool false,.bool false,.int .i64 0,.int .i64 0,.int .i64 0,.int .i64 0,.int .i64 0,.int .i64 0,.slice none 0 0,.int .i64 0,.int .i64 0] 149;rw[hrb]at g1;obtain⟨z0,z1,z2,z3,z4,z5,z6,z7,z8,z9,z10,z11,z12,z13,zf0,zf1,zf2,zf3,zf4,zf5,zf6,zf7,zf8,zf9,zf10,zf11,zf12,zf13⟩:=zAG (b:=rb) (g1);have H:=hQd g1;have HL:=hQd (show s.length≤140737488355328 by omega);have HP:=hQd hp;obtain⟨r1,r2,r3,r4,r5,r6⟩:=zAT hp;have hln:x.len+12=(nn:Int):=by omega
 have hsl:(s.length:Int)≤1000000:=by omega
 have HSD:=hQd hsd;have HX:=hQd hX;have HSL:=hQd (show sd.length≤1000000 by rw[←hsd,List.length_take,List.length_drop];omega);have hX4:(X:Int)<4294967296:=by rw[←hX];have:=(zAm 0#32 sd).isLt;omega
 have hwX:IntKind.i64.wrap (X:Int)=(X:Int):=by rw[IntKind.wrap_i64];omega
 clear hX4;have hge:(nn:Int)≤(s.length:Int):=by omega
 have h21:(21:Int)≤(nn:Int):=by omega
 have h61:(61:Int)≤(nn:Int):=by omega
 have hg9:¬(s.length:Int)<(nn:Int):=by omega
 have g5:((X:Int)==x.sum)=true:=by rw[heq];exact beq_self_eq_true _
 have g6:((X:Int) !=x.sum)=false:=by simp[bne,g5]
 obtain⟨c0,c1,hb2,hc1⟩:=zCv x.attr;have HB2:=hQd hb2;have HA:=hQd (show -9223372036854775808≤x.attr∧x.attr<9223372036854775808 from r3);have hc8:(c1.toNat:Int) % 8=0:=by rw[hc1];omega
 have e9:(((([c0,c1]:List UInt8)[1]'(by simp)).toNat:Int) % 8 !=0)=false:=by show((c1.toNat:Int) % 8 !=0)=false;simp[bne,hc8]
 have e8:(((([c0,c1]:List UInt8)[1]'(by simp)).toNat:Int) % 8==0)=true:=by show((c1.toNat:Int) % 8==0)=true;simp[hc8]
 clear hc8 hc1;have d0:decide (x.attr<0)=false:=decide_eq_false hn0;have d1:decide (63<x.attr)=false:=decide_eq_false hn1;have ha0:0≤x.attr:=by omega
 have ha63:x.attr≤63:=by omega
 have q8:x.attr.tdiv 8=x.attr / 8:=Int.tdiv_eq_ediv_of_nonneg ha0;have q16:x.attr.tdiv 16=x.attr / 16:=Int.tdiv_eq_ediv_of_nonneg ha0;have q32:x.attr.tdiv 32=x.attr / 32:=Int.tdiv_eq_ediv_of_nonneg ha0;have m8:(x.attr / 8).tmod 2=x.attr / 8 % 2:=Int.tmod_eq_emod_of_nonneg oM;have m16:(x.attr / 16).tmod 2=x.attr / 16 % 2:=Int.tmod_eq_emod_of_nonneg oM;have w8:IntKind.i64.wrap (x.attr / 8)=x.attr / 8:=by rw[IntKind.wrap_i64];omega
 have w16:IntKind.i64.wrap (x.attr / 16)=x.attr / 16:=by rw[IntKind.wrap_i64];omega
 have w32:IntKind.i64.wrap (x.attr / 32)=x.attr / 32:=by rw[IntKind.wrap_i64];omega
 have w8m:IntKind.i64.wrap (x.attr / 8 % 2)=x.attr / 8 % 2:=by rw[IntKind.wrap_i64];omega
 have w16m:IntKind.i64.wrap (x.attr / 16 % 2)=x.attr / 16 % 2:=by rw[IntKind.wrap_i64];omega
 have b5:(x.attr / 32==1)=zAf x.attr 5:=by unfold zAf;rw[show(2:Int) ^ 5=32 by decide,show(x.attr / 32==1)=decide (x.attr / 32=1)from rfl];congr 1;rw[eq_iff_iff];omega
 have b3:(x.attr / 8 % 2==1)=zAf x.attr 3:=rfl;have b4:(x.attr / 16 % 2==1)=zAf x.attr 4:=rfl;have HD:=hQd (And.intro b3 (And.intro b4 b5));have HN2:=hQd hn2;clear h8 hn0 hn1 hn2 b3 b4 b5;obtain⟨rw0,hrw⟩:∃r,(s.drop 61).take (nn - 61)=r:=⟨_,rfl⟩;rw[hrw]at hu;have HRW:=hQd hrw;have HRW1:=hQd (show rw0.length≤1000000 by rw[←hrw,List.length_take,List.length_drop];omega);obtain⟨tot,htot⟩:∃t,unpT n rw0=t:=⟨_,rfl⟩;have HTT:=hQd (htot.symm.trans hu);have HT:=hQd (show preU [] (unpT (n - 0) rw0)=tot by rw[zEr];exact htot);have HNB:=hQd hnb;have HCN:=hQd hcn;have HE0:=hQd he0;clear h g1 hp hs hnn r3 r4 r5 r6 hsd hX hge0 heq hb2 hu hrw htot hnb hcn he0;go_enter Tryz.func87,Tryz.ntmps87
 go_upto_region 7 with (first
  |(go_at_call 117;clear z0 zf0 z1 zf1 z2 zf2 z3 zf3 z4 zf4 z5 zf5 z6 zf6 z7 zf7 z8 zf8 z9 zf9 z10 zf10 z11 zf11 z12 zf12 z13 zf13;(with_reducible refine(zAD s x HP.out HL.out H.out).mono ?_);rintro e_ wn ⟨bl,rfl,h⟩;obtain⟨p0,p1,p2,p3,p4,p5,p6,p7,p8,p9,p10,p11⟩:=uR12 h;simp at p0 p1 p2 p3 p4 p5 p6 p7 p8 p9 p10 p11;obtain⟨z0,z1,z2,z3,z4,z5,z6,z7,z8,z9,z10,z11,z12,z13,zf0,zf1,zf2,zf3,zf4,zf5,zf6,zf7,zf8,zf9,zf10,zf11,zf12,zf13⟩:=zAG (b:=rb) (h.p1);replace H:=hQd h;clear h))
 clear z0 zf0 z1 zf1 z2 zf2 z3 zf3 z4 zf4 z5 zf5 z6 zf6 z7 zf7 z8 zf8 z9 zf9 z10 zf10 z11 zf11 z12 zf12 z13 zf13;clear p0 p1 p2 p3 p4 p5 p6 p7 p8 p9 p10 p11;go_cut [38] (fun s38 wx=>s38=.bool false∧St W0 wx K (.raw bl #[.int .i64 x.base,.int .i64 x.len,.int .i64 x.leader,.int .i64 x.sum,.int .i64 x.attr,.int .i64 x.last,.int .i64 x.first,.int .i64 x.maxt,.int .i64 x.prod,.int .i64 x.epoch,.int .i64 x.seq,.int .i64 x.count] 3::.raw rb #[.int .i64 0,.int .i64 0,.bool false,.bool false,.bool false,.int .i64 0,.int .i64 0,.int .i64 0,.int .i64 0,.int .i64 0,.int .i64 0,.slice none 0 0,.int .i64 0,.int .i64 0] 149::L))
 case first=>
  exact zq3
 obtain⟨rfl,h⟩:=hcut;clear H;obtain⟨p0,p1,p2,p3,p4,p5,p6,p7,p8,p9,p10,p11⟩:=uR12 h;simp at p0 p1 p2 p3 p4 p5 p6 p7 p8 p9 p10 p11;obtain⟨z0,z1,z2,z3,z4,z5,z6,z7,z8,z9,z10,z11,z12,z13,zf0,zf1,zf2,zf3,zf4,zf5,zf6,zf7,zf8,zf9,zf10,zf11,zf12,zf13⟩:=zAG (b:=rb) (h.p1);have H:=hQd h;clear h
 go_upto_region 12 with (first
  |(go_at_call 49;clear z0 zf0 z1 zf1 z2 zf2 z3 zf3 z4 zf4 z5 zf5 z6 zf6 z7 zf7 z8 zf8 z9 zf9 z10 zf10 z11 zf11 z12 zf12 z13 zf13;clear p0 p1 p2 p3 p4 p5 p6 p7 p8 p9 p10 p11;(with_reducible refine(zBW x.attr HA.out c0 c1 HB2.out H.out).mono ?_);rintro e_ wn ⟨rfl,h⟩;obtain⟨p0,p1,p2,p3,p4,p5,p6,p7,p8,p9,p10,p11⟩:=uR12 h;simp at p0 p1 p2 p3 p4 p5 p6 p7 p8 p9 p10 p11;obtain⟨z0,z1,z2,z3,z4,z5,z6,z7,z8,z9,z10,z11,z12,z13,zf0,zf1,zf2,zf3,zf4,zf5,zf6,zf7,zf8,zf9,zf10,zf11,zf12,zf13⟩:=zAG (b:=rb) (h.p1);replace H:=hQd h;clear h))
 go_cut [63] (fun s63 wx=>s63=.bool false∧St W0 wx K (.raw bl #[.int .i64 x.base,.int .i64 x.len,.int .i64 x.leader,.int .i64 x.sum,.int .i64 x.attr,.int .i64 x.last,.int .i64 x.first,.int .i64 x.maxt,.int .i64 x.prod,.int .i64 x.epoch,.int .i64 x.seq,.int .i64 x.count] 3::.raw rb #[.int .i64 0,.int .i64 0,.bool false,.bool false,.bool false,.int .i64 0,.int .i64 0,.int .i64 0,.int .i64 0,.int .i64 0,.int .i64 0,.slice none 0 0,.int .i64 0,.int .i64 0] 149::L))
 case first=>
  exact zq17
 obtain⟨rfl,h⟩:=hcut;clear H;have H:=hQd h;clear h;go_upto_region 14 with (fail);clear z0 zf0 z1 zf1 z2 zf2 z3 zf3 z4 zf4 z5 zf5 z6 zf6 z7 zf7 z8 zf8 z9 zf9 z10 zf10 z11 zf11 z12 zf12 z13 zf13;clear p0 p1 p2 p3 p4 p5 p6 p7 p8 p9 p10 p11;go_cut [7] (fun s7 wx=>∃tb:Nat,s7=.pointer (some ⟨tb,0,none⟩)∧St W0 wx K (.raw tb #[.int .i64 x.base,.int .i64 x.leader,.bool (zAf x.attr 3),.bool (zAf x.attr 4),.bool (zAf x.attr 5),.int .i64 x.last,.int .i64 x.first,.int .i64 x.maxt,.int .i64 x.prod,.int .i64 x.epoch,.int .i64 x.seq,.slice none 0 0] 58::.raw bl #[.int .i64 x.base,.int .i64 x.len,.int .i64 x.leader,.int .i64 x.sum,.int .i64 x.attr,.int .i64 x.last,.int .i64 x.first,.int .i64 x.maxt,.int .i64 x.prod,.int .i64 x.epoch,.int .i64 x.seq,.int .i64 x.count] 3::.raw rb #[.int .i64 0,.int .i64 0,.bool false,.bool false,.bool false,.int .i64 0,.int .i64 0,.int .i64 0,.int .i64 0,.int .i64 0,.int .i64 0,.slice none 0 0,.int .i64 0,.int .i64 0] 149::L))
 case first=>
  exact zq5
 obtain⟨tb,rfl,h⟩:=hcut;clear H q8 q16 q32 m8 m16 w8 w16 w32 w8m w16m d0 d1 ha0 ha63 g5 g6 e8 e9;have H:=hQd h;clear h;have hge:=hge;go_wp2;rw[HRW.out];go_loopw [8,9] (fun rv iv wr=>∃(k:Nat) (acc:List (RecS×Value)) (r:Bs) (K2:Know) (tv:Value),k≤n∧iv=.int .i64 k∧rv=.string (bb r)∧acc.length=k∧Hid (preU (acc.map (·.1)) (unpT (n - k) r)=tot)∧Hid (r.length≤1000000)∧Hid (K2.has K)∧Hid (∀x∈acc,K2.has (Know.flat RHdr x.2 3 x.1.hdrs))∧St W0 wr K2 (.row tv 119 7 acc.length (acc.flatMap zGN)::.raw tb #[.int .i64 x.base,.int .i64 x.leader,.bool (zAf x.attr 3),.bool (zAf x.attr 4),.bool (zAf x.attr 5),.int .i64 x.last,.int .i64 x.first,.int .i64 x.maxt,.int .i64 x.prod,.int .i64 x.epoch,.int .i64 x.seq,tv] 58::.raw bl #[.int .i64 x.base,.int .i64 x.len,.int .i64 x.leader,.int .i64 x.sum,.int .i64 x.attr,.int .i64 x.last,.int .i64 x.first,.int .i64 x.maxt,.int .i64 x.prod,.int .i64 x.epoch,.int .i64 x.seq,.int .i64 x.count] 3::.raw rb #[.int .i64 0,.int .i64 0,.bool false,.bool false,.bool false,.int .i64 0,.int .i64 0,.int .i64 0,.int .i64 0,.int .i64 0,.int .i64 0,.slice none 0 0,.int .i64 0,.int .i64 0] 149::L)) (fun _ iv _=>n - (intOf iv).toNat)
 case atStart=>exact⟨0,[],rw0,K,.slice none 0 0,Nat.zero_le _,rfl,rfl,rfl,HT,HRW1,hQd (Know.has_refl _),hQd (fun x h=>by cases h),H.out.nilRow 119 7⟩
 case round=>
  obtain⟨k,acc,r,K2,tv,hk,rfl,rfl,hacc,HC,HRL,HK2,HALL,hst⟩:=hrel;have HACC:=hQd hacc;have HKB:=hQd (show k≤2147483647 by have:=HNB.out;omega);clear H hacc;have t11:=hst.p1.rawCell 11;have tf11:=hst.p1.rawFree 11;simp at t11;have p11:=hst.p2.rawCell 11;simp at p11;obtain⟨z0,z1,z2,z3,z4,z5,z6,z7,z8,z9,z10,z11,z12,z13,zf0,zf1,zf2,zf3,zf4,zf5,zf6,zf7,zf8,zf9,zf10,zf11,zf12,zf13⟩:=zAG (b:=rb) (hst.p3);have H:=hQd hst;clear hst;have hc9:=HCN.out;rw[hc9]at p11;clear hc9
  by_cases hlt:k<n
  ·have hc:=HC.out;rw[show n - k=(n - (k+1))+1 by omega]at hc;have hki:(k:Int)<(n:Int):=by omega
   have hnb:(n:Int)≤2147483647:=by have:=HNB.out;omega
   by_cases hr0:r=[]
   ·subst hr0;rw[zFQ]at hc;have hc2:Except.error 10=tot:=hc;have hc3:=hc2.trans HTT.out;obtain rfl:10=e:=by injection hc3
    clear hc hc2 hc3;go_wp2_with (go_at_call 118;clear t11 tf11;clear p11;clear z0 zf0 z1 zf1 z2 zf2 z3 zf3 z4 zf4 z5 zf5 z6 zf6 z7 zf7 z8 zf8 z9 zf9 z10 zf10 z11 zf11 z12 zf12 z13 zf13;(with_reducible refine(zAV 10 H.out).mono ?_);rintro e_ wn ⟨rfl,h⟩;obtain⟨z0,z1,z2,z3,z4,z5,z6,z7,z8,z9,z10,z11,z12,z13,zf0,zf1,zf2,zf3,zf4,zf5,zf6,zf7,zf8,zf9,zf10,zf11,zf12,zf13⟩:=zAG (b:=rb) (h.p3);replace H:=hQd h;clear h);have hz:St W0 _ _ (.raw rb #[.int .i64 0,.int .i64 0,.bool false,.bool false,.bool false,.int .i64 0,.int .i64 0,.int .i64 0,.int .i64 0,.int .i64 0,.int .i64 0,.slice none 0 0,.int .i64 0,.int .i64 10] 149::_):=St.sets14 _ _ _ _ _ _ _ _ _ _ _ _ _ _ (H.out.p3);refine bodyPost_ret (zAs rfl _ _ rb [.int .i64 0,.int .i64 0,.bool false,.bool false,.bool false,.int .i64 0,.int .i64 0,.int .i64 0,.int .i64 0,.int .i64 0,.int .i64 0,.slice none 0 0,.int .i64 0,.int .i64 10] _ rfl (zAE hz) Tryz.underlying149 rfl (by kernel_rfl)) rfl ?_;exact⟨rfl,hz.drop.drop.drop.drop.know HK2.out⟩
   have z1:(r==[])=false:=by rw[beq_eq_false_iff_ne];exact hr0
   have z2:(r !=[])=true:=by simp[bne,z1]
   have z3:¬r=[]:=hr0;have hrl1:(r.length:Int)≤1000000:=by have:=HRL.out;omega
   cases hrr:zCj r with
   |error e2=>
    rw[zFR hr0 hrr]at hc;have hc2:Except.error e2=tot:=hc;have hc3:=hc2.trans HTT.out;obtain rfl:e2=e:=by injection hc3
    have HRR:=hQd hrr;have gz:(e2==0)=false:=by rw[beq_eq_false_iff_ne];exact HE0.out
    have gz2:(e2 !=0)=true:=by simp[bne,gz]
    clear hc hc2 hc3 hrr hr0
    go_wp2_with (first
  |(go_at_call 119;clear t11 tf11;clear p11;clear z0 zf0 z1 zf1 z2 zf2 z3 zf3 z4 zf4 z5 zf5 z6 zf6 z7 zf7 z8 zf8 z9 zf9 z10 zf10 z11 zf11 z12 zf12 z13 zf13;(with_reducible refine(zLv r e2 HRR.out HRL.out H.out).mono ?_);rintro e_ wn ⟨mm,rfl,h⟩;obtain⟨xb,hxb⟩:∃b,wn.heap.size=b:=⟨_,rfl⟩;have h:=h.allocRaw #[.int .i64 0,.int .i64 0,.bool false,.string ⟨#[]⟩,.bool false,.string ⟨#[]⟩,.slice none 0 0,.int .i64 mm,.int .i64 e2] 176;rw[hxb]at h;obtain⟨r0,r1,r2,r3,r4,r5,r6,r7,r8⟩:=uR9 h;simp at r0 r1 r2 r3 r4 r5 r6 r7 r8;have t11:=h.p2.rawCell 11;have tf11:=h.p2.rawFree 11;simp at t11;have p11:=h.p3.rawCell 11;simp at p11;obtain⟨z0,z1,z2,z3,z4,z5,z6,z7,z8,z9,z10,z11,z12,z13,zf0,zf1,zf2,zf3,zf4,zf5,zf6,zf7,zf8,zf9,zf10,zf11,zf12,zf13⟩:=zAG (b:=rb) (h.p4);replace H:=hQd h;clear h)
  |(go_at_call 118;clear r0 r1 r2 r3 r4 r5 r6 r7 r8;clear t11 tf11;clear p11;clear z0 zf0 z1 zf1 z2 zf2 z3 zf3 z4 zf4 z5 zf5 z6 zf6 z7 zf7 z8 zf8 z9 zf9 z10 zf10 z11 zf11 z12 zf12 z13 zf13;(with_reducible refine(zAV e2 H.out).mono ?_);rintro e_ wn ⟨rfl,h⟩;obtain⟨z0,z1,z2,z3,z4,z5,z6,z7,z8,z9,z10,z11,z12,z13,zf0,zf1,zf2,zf3,zf4,zf5,zf6,zf7,zf8,zf9,zf10,zf11,zf12,zf13⟩:=zAG (b:=rb) (h.p4);replace H:=hQd h;clear h))
    have hz:St W0 _ _ (.raw rb #[.int .i64 0,.int .i64 0,.bool false,.bool false,.bool false,.int .i64 0,.int .i64 0,.int .i64 0,.int .i64 0,.int .i64 0,.int .i64 0,.slice none 0 0,.int .i64 0,.int .i64 e2] 149::_):=St.sets14 _ _ _ _ _ _ _ _ _ _ _ _ _ _ (H.out.p4);refine bodyPost_ret (zAs rfl _ _ rb [.int .i64 0,.int .i64 0,.bool false,.bool false,.bool false,.int .i64 0,.int .i64 0,.int .i64 0,.int .i64 0,.int .i64 0,.int .i64 0,.slice none 0 0,.int .i64 0,.int .i64 e2] _ rfl (zAE hz) Tryz.underlying149 rfl (by kernel_rfl)) rfl ?_;exact⟨rfl,hz.drop.drop.drop.drop.drop.know HK2.out⟩
   |ok yy=>
    obtain⟨y,m⟩:=yy;rw[zIi hr0 hrr,←zDw]at hc;have hmr:=(zCX hrr).2.2.2.2.2;have hmi:(m:Int)≤(r.length:Int):=by omega
    have HRR:=hQd hrr;have HC2:=hQd hc;have HDR:=hQd (show List.take (r.length - m) (r.drop m)=r.drop m from List.take_of_length_le zq62);clear hc hrr hr0
    go_wp2_with (first
  |(go_at_call 119;clear t11 tf11;clear p11;clear z0 zf0 z1 zf1 z2 zf2 z3 zf3 z4 zf4 z5 zf5 z6 zf6 z7 zf7 z8 zf8 z9 zf9 z10 zf10 z11 zf11 z12 zf12 z13 zf13;(with_reducible refine(zD4 r y m HRR.out HRL.out H.out).mono ?_);rintro e_ wn ⟨v1,rfl,h⟩;obtain⟨q1,cc1,hv1⟩:=zAq (Know.has_right (Know.has_refl _)) h;subst hv1;obtain⟨xb,hxb⟩:∃b,wn.heap.size=b:=⟨_,rfl⟩;have h:=h.allocRaw #[.int .i64 y.time,.int .i64 y.off,.bool y.key.null,.string (bb y.key.data),.bool y.val.null,.string (bb y.val.data),(.slice q1 y.hdrs.length cc1),.int .i64 m,.int .i64 0] 176;rw[hxb]at h;obtain⟨r0,r1,r2,r3,r4,r5,r6,r7,r8⟩:=uR9 h;simp at r0 r1 r2 r3 r4 r5 r6 r7 r8;have t11:=h.p2.rawCell 11;have tf11:=h.p2.rawFree 11;simp at t11;have p11:=h.p3.rawCell 11;simp at p11;obtain⟨z0,z1,z2,z3,z4,z5,z6,z7,z8,z9,z10,z11,z12,z13,zf0,zf1,zf2,zf3,zf4,zf5,zf6,zf7,zf8,zf9,zf10,zf11,zf12,zf13⟩:=zAG (b:=rb) (h.p4);replace H:=hQd h;clear h)
  |(at_builtin;clear t11 tf11;clear p11;clear z0 zf0 z1 zf1 z2 zf2 z3 zf3 z4 zf4 z5 zf5 z6 zf6 z7 zf7 z8 zf8 z9 zf9 z10 zf10 z11 zf11 z12 zf12 z13 zf13;clear r0 r2 r3 r4 r5 r6 r7 r8;refine zAw rfl _ _ 56 rfl 119 Tryz.underlying56 zDR _ _ _ rfl H.out.p1 [.int .i64 y.time,.int .i64 y.off,.bool y.key.null,.string (bb y.key.data),.bool y.val.null,.string (bb y.val.data),.slice q1 y.hdrs.length cc1] 119 zq63 rfl (by simp[Value.oneCell']) zq66 zq69 ?_;intro v' w' h;obtain⟨qv,cv,hv⟩:=h.rowAny;subst hv;have t11:=h.p2.rawCell 11;have tf11:=h.p2.rawFree 11;simp at t11;have r7:=h.p1.rawCell 7;simp at r7;replace H:=hQd h;clear h))
    go_roundw
    case rel=>
     exact zq11
    case measure=>first|(simp[intOf];done)|(simp[intOf];omega)
  ·obtain rfl:k=n:=by omega
   have hc:=HC.out;rw[Nat.sub_self,zEf]at hc;have hki:¬(k:Int)<(k:Int):=by omega
   by_cases hr0:r=[]
   ·rw[if_pos hr0]at hc;have hc2:Except.ok (acc.map (·.1)++[])=tot:=hc;have hc3:=hc2.trans HTT.out
    cases hc3
   ·rw[if_neg hr0]at hc;have hc2:Except.error 10=tot:=hc;have hc3:=hc2.trans HTT.out;obtain rfl:10=e:=by injection hc3
    have z1:(r==[])=false:=by rw[beq_eq_false_iff_ne];exact hr0
    have z2:(r !=[])=true:=by simp[bne,z1]
    have z3:¬r=[]:=hr0;clear hc hc2 hc3 hr0;go_wp2_with (go_at_call 118;clear t11 tf11;clear p11;clear z0 zf0 z1 zf1 z2 zf2 z3 zf3 z4 zf4 z5 zf5 z6 zf6 z7 zf7 z8 zf8 z9 zf9 z10 zf10 z11 zf11 z12 zf12 z13 zf13;(with_reducible refine(zAV 10 H.out).mono ?_);rintro e_ wn ⟨rfl,h⟩;obtain⟨z0,z1,z2,z3,z4,z5,z6,z7,z8,z9,z10,z11,z12,z13,zf0,zf1,zf2,zf3,zf4,zf5,zf6,zf7,zf8,zf9,zf10,zf11,zf12,zf13⟩:=zAG (b:=rb) (h.p3);replace H:=hQd h;clear h);have hz:St W0 _ _ (.raw rb #[.int .i64 0,.int .i64 0,.bool false,.bool false,.bool false,.int .i64 0,.int .i64 0,.int .i64 0,.int .i64 0,.int .i64 0,.int .i64 0,.slice none 0 0,.int .i64 0,.int .i64 10] 149::_):=St.sets14 _ _ _ _ _ _ _ _ _ _ _ _ _ _ (H.out.p3);refine bodyPost_ret (zAs rfl _ _ rb [.int .i64 0,.int .i64 0,.bool false,.bool false,.bool false,.int .i64 0,.int .i64 0,.int .i64 0,.int .i64 0,.int .i64 0,.int .i64 0,.slice none 0 0,.int .i64 0,.int .i64 10] _ rfl (zAE hz) Tryz.underlying149 rfl (by kernel_rfl)) rfl ?_;exact⟨rfl,hz.drop.drop.drop.drop.know HK2.out⟩
def cntR (each:Nat) (s:Bs):Nat×Int:=match cntP each s with
 | .ok x=>(x.1,0)
 | .error e=>(0,e)
theorem zN2{each:Nat}{s:Bs}(h:s.length<4):cntR each s=(0,1):=by
 unfold cntR cntP;rw[if_pos h]
theorem zQF{each:Nat}{s:Bs}(h:¬s.length<4)(h2:sInt (s.take 4)<0):cntR each s=(0,4):=by
 unfold cntR cntP;rw[if_neg h,if_pos h2]
theorem zPv{each:Nat}{s:Bs}(h:¬s.length<4)(h2:¬sInt (s.take 4)<0)(h3:((s.length:Int) - 4) / each<sInt (s.take 4)):cntR each s=(0,1):=by
 unfold cntR cntP;rw[if_neg h,if_neg h2,if_pos h3]
theorem zRT{each:Nat}{s:Bs}(h:¬s.length<4)(h2:¬sInt (s.take 4)<0)(h3:¬((s.length:Int) - 4) / each<sInt (s.take 4)):cntR each s=((sInt (s.take 4)).toNat,0):=by
 unfold cntR cntP;rw[if_neg h,if_neg h2,if_neg h3]
theorem zIo(s:Bs)(a:Int)(ha:sInt s=a)(hs:s.length≤8){W0 w:World}{K:Know}{L:List Res}(h:St W0 w K L):
 Calls Tryz.prog 54 #[.string (bb s)] w fun en w'=>en=.returned (.int .i64 a)∧St W0 w' K L:=by
 subst ha;exact zFs s hs h
theorem zLp(s:Bs)(each:Nat)(ei:Int)(hei:ei=each)(he:0<each)(he2:each≤100)(hs:s.length≤1000000)(n:Nat)(E:Int)(hr:cntR each s=(n,E)){W0 w:World}{K:Know}{L:List Res}(h:St W0 w K L):
 Calls Tryz.prog 55 #[.string (bb s),.int .i64 ei] w fun en w'=>en=.returned (.tuple #[.int .i64 n,.int .i64 E])∧St W0 w' K L:=by
 have H:=hQd h;clear h
 by_cases h1:s.length<4
 ·rw[zN2 h1]at hr
  cases hr
  have g1:(s.length:Int)<4:=by omega
  clear h1;go_enter Tryz.func55,Tryz.ntmps55;go_wp2;go_ret2;exact⟨rfl,H.out⟩
 have g1:¬(s.length:Int)<4:=by omega
 have hlt:(s.take 4).length=4:=by rw[List.length_take];omega
 have HT:=hQd (show(s.take 4).length≤8 by omega);obtain⟨a,ha⟩:∃a,sInt (s.take 4)=a:=⟨_,rfl⟩;have HA:=hQd ha
 by_cases h2:a<0
 ·rw[zQF h1 (by rw[ha];exact h2)]at hr
  cases hr
  clear h1 hlt ha;go_enter Tryz.func55,Tryz.ntmps55;go_wp2_with (go_at_call 54;(with_reducible refine(zIo (s.take 4) _ HA.out HT.out H.out).zM ?_);clear H;intro wn H);go_ret2;exact⟨rfl,H.out⟩
 obtain⟨D,hD⟩:∃D,((s.length:Int) - 4) / each=D:=⟨_,rfl⟩
 have hDb:0≤D∧D≤1000000:=by
  rw[←hD];refine⟨Int.ediv_nonneg oM oM,?_⟩;exact Int.le_trans (Int.ediv_le_self _ oM) oM
 have gq:Int.tdiv ((s.length:Int) - 4) ei=D:=by rw[hei,←hD];exact Int.tdiv_eq_ediv_of_nonneg oM
 have ge:¬ei=0:=by omega
 have ge2:(ei==0)=false:=by rw[beq_eq_false_iff_ne];exact ge
 obtain⟨hD0,hD1⟩:=hDb
 by_cases h3:D<a
 ·rw[zPv h1 (by rw[ha];exact h2) (by rw[ha,hD];exact h3)]at hr
  cases hr
  clear h1 hlt ha hD hei he he2;go_enter Tryz.func55,Tryz.ntmps55;go_wp2_with (go_at_call 54;(with_reducible refine(zIo (s.take 4) _ HA.out HT.out H.out).zM ?_);clear H;intro wn H);go_ret2;exact⟨rfl,H.out⟩
 ·rw[zRT h1 (by rw[ha];exact h2) (by rw[ha,hD];exact h3),ha]at hr
  cases hr
  obtain⟨m,hm⟩:∃m:Nat,a.toNat=m:=⟨_,rfl⟩;have ham:a=(m:Int):=by omega
  rw[hm];subst ham;clear h1 hlt ha hD hei he he2 hm;go_enter Tryz.func55,Tryz.ntmps55;go_wp2_with (go_at_call 54;(with_reducible refine(zIo (s.take 4) _ HA.out HT.out H.out).zM ?_);clear H;intro wn H);go_ret2;exact⟨rfl,H.out⟩
theorem zQG{each:Nat}{s:Bs}{e:Int}(h:cntP each s=.error e):e≠0:=by
 unfold cntP at h
 split at h
 ·cases h;decide
 ·exact zq50
theorem zDE{each:Nat}{s:Bs}{n:Nat}(he:0<each)(h:cntR each s=(n,0)):cntP each s=.ok (n,4)∧4+each*n≤s.length:=by
 unfold cntR at h
 cases h1:cntP each s with
 |error e=>rw[h1]at h;cases h;exact absurd rfl (zQG h1)
 |ok x=>
  rw[h1]at h
  cases h
  obtain⟨c1,c2,_,_⟩:=zFk (n:=x.1) (k:=x.2) he h1;refine⟨?_,c2⟩;rw[←c1]
theorem zMY{each:Nat}{s:Bs}{n:Nat}{e:Int}(h:cntR each s=(n,e))(h0:e≠0):cntP each s=.error e:=by
 unfold cntR at h
 cases h1:cntP each s with
 |error e2=>rw[h1]at h;cases h;rfl
 |ok x=>rw[h1]at h;cases h;exact absurd rfl h0
theorem zDL{t:Bs}{b:BlobS}{k:Nat}(h:zAk 2 t=.ok (b,k)):2≤k∧k≤t.length:=by
 unfold zAk at h
 split at h
 ·cases h
 ·unfold gotS at h
  split at h
  ·cases h;omega
  ·split at h
   ·cases h
   ·split at h
    ·cases h
    ·cases h;omega
theorem zO8{t:Bs}{e:Int}(h:zAk 2 t=.error e):gotV (zAk 2 t)=.agg #[.bool false,.string ⟨#[]⟩,.int .i64 0,.int .i64 e]:=by rw[h];rfl
theorem zQu{t:Bs}{b:BlobS}{k:Nat}(h:zAk 2 t=.ok (b,k)):gotV (zAk 2 t)=.agg #[.bool b.null,.string (bb b.data),.int .i64 k,.int .i64 0]:=by rw[h];rfl
theorem zGh{t:Bs}{e:Int}(h:zAk 2 t=.error e):e≠0:=by
 unfold zAk at h
 split at h
 ·cases h;decide
 ·unfold gotS at h
  split at h
  ·cases h
  ·exact zq50
theorem Holds.only{w:World}{r:Res}:∀{L:List Res}{S:Nat→Prop},Holds L w S→r∈L→∃S',Holds [r] w S'∧∀k,S' k→S k
 |[],_,_,hm=>by cases hm
 |a::L,S,⟨S1,S2,h1,h2,h3,h4⟩,hm=>by
  cases hm with
  |head=>exact⟨S1,⟨S1,fun _=>False,h1,fun _ h=>h,fun _ _ h=>h,fun k=>by simp⟩,fun k hk=>(h4 k).2 (.inl hk)⟩
  |tail _ hm=>
   obtain⟨S',g1,g2⟩:=Holds.only h2 hm;exact⟨S',g1,fun k hk=>(h4 k).2 (.inr (g2 k hk))⟩
theorem St.only{W0 w:World}{K:Know}{L:List Res}{r:Res}(h:St W0 w K L)(hm:r∈L):St W0 w K [r]:=by
 obtain⟨a,S,F,b,c,d,e⟩:=h;obtain⟨S',g1,g2⟩:=b.only hm;exact⟨a,S',F,g1,fun k hk=>c k (g2 k hk),d,fun k hk=>⟨(e k hk).1,fun h=>(e k hk).2.1 (g2 k h),(e k hk).2.2⟩⟩
theorem zCx(s:Bs)(p:Nat):List.take (s.length - p) (List.drop p s)=s.drop p:=List.take_of_length_le (by rw[List.length_drop];omega)
theorem zFx(t X:Bs)(e:Int)(ht:t=X)(hs:X.length≤140737488355328)(hv:zAk 2 X=.error e)(h:St W0 w K L):
 Calls Tryz.prog 53 #[.string (bb t),.int .i64 2] w fun en w'=>en=.returned (.agg #[.bool false,.string ⟨#[]⟩,.int .i64 0,.int .i64 e])∧St W0 w' K L:=by
 subst ht;have:=zBR t 2 hs dD h;rw[zO8 hv]at this;exact this
theorem zB0(t X:Bs)(nl:Bool)(d:Bs)(k:Nat)(ht:t=X)(hs:X.length≤140737488355328)(hv:zAk 2 X=.ok (⟨nl,d⟩,k))(h:St W0 w K L):
 Calls Tryz.prog 53 #[.string (bb t),.int .i64 2] w fun en w'=>en=.returned (.agg #[.bool nl,.string (bb d),.int .i64 k,.int .i64 0])∧St W0 w' K L:=by
 subst ht;have:=zBR t 2 hs dD h;rw[zQu hv]at this;exact this
theorem zBQ(t X:Bs)(ht:t=X)(a:Int)(ha:sInt X=a)(hs:X.length≤8)(h:St W0 w K L):
 Calls Tryz.prog 54 #[.string (bb t)] w fun en w'=>en=.returned (.int .i64 a)∧St W0 w' K L:=by
 subst ht;exact zIo t a ha hs h
variable {W0 w:World}{K:Know}{L:List Res}
theorem zRr(s:Bs)(hs:s.length≤1000000)(x:PreS)(hp:zBu s=.ok x)(nn:Nat)(hnn:61+(x.len - 49).toNat=nn)(hge0:nn≤s.length)(sd:Bs)(hsd:(s.drop 21).take (nn - 21)=sd)(X:Nat)(hX:(zAm 0#32 sd).toNat=X)(heq:(X:Int)=x.sum)(h8:x.attr % 8=0)(hn0:x.attr<0)(h:St W0 w K L):
 Calls Tryz.prog 87 #[.string (bb s)] w fun en w'=>en=.returned (.agg #[.int .i64 0,.int .i64 0,.bool false,.bool false,.bool false,.int .i64 0,.int .i64 0,.int .i64 0,.int .i64 0,.int .i64 0,.int .i64 0,.slice none 0 0,.int .i64 0,.int .i64 8])∧St W0 w' K L:=by
 obtain⟨rb,hrb⟩:∃b,w.heap.size=b:=⟨_,rfl⟩;have g1:=h.allocRaw #[.int .i64 0,.int .i64 0,.bool false,.bool false,.bool false,.int .i64 0,.int .i64 0,.int .i64 0,.int .i64 0,.int .i64 0,.int .i64 0,.slice none 0 0,.int .i64 0,.int .i64 0] 149;rw[hrb]at g1;obtain⟨z0,z1,z2,z3,z4,z5,z6,z7,z8,z9,z10,z11,z12,z13,zf0,zf1,zf2,zf3,zf4,zf5,zf6,zf7,zf8,zf9,zf10,zf11,zf12,zf13⟩:=zAG (b:=rb) (g1);have H:=hQd g1;have HL:=hQd (show s.length≤140737488355328 by omega);have HP:=hQd hp;obtain⟨r1,r2,r3,r4,r5,r6⟩:=zAT hp;have hln:x.len+12=(nn:Int):=by omega
 have hsl:(s.length:Int)≤1000000:=by omega
 have HSD:=hQd hsd;have HX:=hQd hX;have HSL:=hQd (show sd.length≤1000000 by rw[←hsd,List.length_take,List.length_drop];omega);have hX4:(X:Int)<4294967296:=by rw[←hX];have:=(zAm 0#32 sd).isLt;omega
 have hwX:IntKind.i64.wrap (X:Int)=(X:Int):=by rw[IntKind.wrap_i64];omega
 clear hX4;have hge:(nn:Int)≤(s.length:Int):=by omega
 have h21:(21:Int)≤(nn:Int):=by omega
 have h61:(61:Int)≤(nn:Int):=by omega
 have hg9:¬(s.length:Int)<(nn:Int):=by omega
 have g5:((X:Int)==x.sum)=true:=by rw[heq];exact beq_self_eq_true _
 have g6:((X:Int) !=x.sum)=false:=by simp[bne,g5]
 obtain⟨c0,c1,hb2,hc1⟩:=zCv x.attr;have HB2:=hQd hb2;have HA:=hQd (show -9223372036854775808≤x.attr∧x.attr<9223372036854775808 from r3);have hc8:(c1.toNat:Int) % 8=0:=by rw[hc1];omega
 have e9:(((([c0,c1]:List UInt8)[1]'(by simp)).toNat:Int) % 8 !=0)=false:=by show((c1.toNat:Int) % 8 !=0)=false;simp[bne,hc8]
 have e8:(((([c0,c1]:List UInt8)[1]'(by simp)).toNat:Int) % 8==0)=true:=by show((c1.toNat:Int) % 8==0)=true;simp[hc8]
 clear hc8 hc1;have d0:decide (x.attr<0)=true:=decide_eq_true hn0;clear h8 hn0;clear h g1 hp hs hnn r3 r4 r5 r6 hsd hX hge0 heq hb2;go_enter Tryz.func87,Tryz.ntmps87
 go_upto_region 7 with (first
  |(go_at_call 117;clear z0 zf0 z1 zf1 z2 zf2 z3 zf3 z4 zf4 z5 zf5 z6 zf6 z7 zf7 z8 zf8 z9 zf9 z10 zf10 z11 zf11 z12 zf12 z13 zf13;(with_reducible refine(zAD s x HP.out HL.out H.out).mono ?_);rintro e_ wn ⟨bl,rfl,h⟩;obtain⟨p0,p1,p2,p3,p4,p5,p6,p7,p8,p9,p10,p11⟩:=uR12 h;simp at p0 p1 p2 p3 p4 p5 p6 p7 p8 p9 p10 p11;obtain⟨z0,z1,z2,z3,z4,z5,z6,z7,z8,z9,z10,z11,z12,z13,zf0,zf1,zf2,zf3,zf4,zf5,zf6,zf7,zf8,zf9,zf10,zf11,zf12,zf13⟩:=zAG (b:=rb) (h.p1);replace H:=hQd h;clear h))
 clear z0 zf0 z1 zf1 z2 zf2 z3 zf3 z4 zf4 z5 zf5 z6 zf6 z7 zf7 z8 zf8 z9 zf9 z10 zf10 z11 zf11 z12 zf12 z13 zf13;clear p0 p1 p2 p3 p4 p5 p6 p7 p8 p9 p10 p11;go_cut [38] (fun s38 wx=>s38=.bool false∧St W0 wx K (.raw bl #[.int .i64 x.base,.int .i64 x.len,.int .i64 x.leader,.int .i64 x.sum,.int .i64 x.attr,.int .i64 x.last,.int .i64 x.first,.int .i64 x.maxt,.int .i64 x.prod,.int .i64 x.epoch,.int .i64 x.seq,.int .i64 x.count] 3::.raw rb #[.int .i64 0,.int .i64 0,.bool false,.bool false,.bool false,.int .i64 0,.int .i64 0,.int .i64 0,.int .i64 0,.int .i64 0,.int .i64 0,.slice none 0 0,.int .i64 0,.int .i64 0] 149::L))
 case first=>
  exact zq3
 obtain⟨rfl,h⟩:=hcut;clear H;obtain⟨p0,p1,p2,p3,p4,p5,p6,p7,p8,p9,p10,p11⟩:=uR12 h;simp at p0 p1 p2 p3 p4 p5 p6 p7 p8 p9 p10 p11;obtain⟨z0,z1,z2,z3,z4,z5,z6,z7,z8,z9,z10,z11,z12,z13,zf0,zf1,zf2,zf3,zf4,zf5,zf6,zf7,zf8,zf9,zf10,zf11,zf12,zf13⟩:=zAG (b:=rb) (h.p1);have H:=hQd h;clear h
 go_wp2_with (first
  |(go_at_call 49;clear z0 zf0 z1 zf1 z2 zf2 z3 zf3 z4 zf4 z5 zf5 z6 zf6 z7 zf7 z8 zf8 z9 zf9 z10 zf10 z11 zf11 z12 zf12 z13 zf13;clear p0 p1 p2 p3 p4 p5 p6 p7 p8 p9 p10 p11;(with_reducible refine(zBW x.attr HA.out c0 c1 HB2.out H.out).mono ?_);rintro e_ wn ⟨rfl,h⟩;obtain⟨p0,p1,p2,p3,p4,p5,p6,p7,p8,p9,p10,p11⟩:=uR12 h;simp at p0 p1 p2 p3 p4 p5 p6 p7 p8 p9 p10 p11;obtain⟨z0,z1,z2,z3,z4,z5,z6,z7,z8,z9,z10,z11,z12,z13,zf0,zf1,zf2,zf3,zf4,zf5,zf6,zf7,zf8,zf9,zf10,zf11,zf12,zf13⟩:=zAG (b:=rb) (h.p1);replace H:=hQd h;clear h)
  |(go_at_call 118;clear z0 zf0 z1 zf1 z2 zf2 z3 zf3 z4 zf4 z5 zf5 z6 zf6 z7 zf7 z8 zf8 z9 zf9 z10 zf10 z11 zf11 z12 zf12 z13 zf13;clear p0 p1 p2 p3 p4 p5 p6 p7 p8 p9 p10 p11;(with_reducible refine(zAV 8 H.out).mono ?_);rintro e_ wn ⟨rfl,h⟩;obtain⟨z0,z1,z2,z3,z4,z5,z6,z7,z8,z9,z10,z11,z12,z13,zf0,zf1,zf2,zf3,zf4,zf5,zf6,zf7,zf8,zf9,zf10,zf11,zf12,zf13⟩:=zAG (b:=rb) (h.p1);replace H:=hQd h;clear h))
 have hz:St W0 _ _ (.raw rb #[.int .i64 0,.int .i64 0,.bool false,.bool false,.bool false,.int .i64 0,.int .i64 0,.int .i64 0,.int .i64 0,.int .i64 0,.int .i64 0,.slice none 0 0,.int .i64 0,.int .i64 8] 149::_):=St.sets14 _ _ _ _ _ _ _ _ _ _ _ _ _ _ (H.out.p1);refine bodyPost_ret (zAs rfl _ _ rb [.int .i64 0,.int .i64 0,.bool false,.bool false,.bool false,.int .i64 0,.int .i64 0,.int .i64 0,.int .i64 0,.int .i64 0,.int .i64 0,.slice none 0 0,.int .i64 0,.int .i64 8] _ rfl (zAE hz) Tryz.underlying149 rfl (by kernel_rfl)) rfl ?_;exact⟨rfl,hz.drop.drop⟩
theorem zRq(s:Bs)(hs:s.length≤1000000)(x:PreS)(hp:zBu s=.ok x)(nn:Nat)(hnn:61+(x.len - 49).toNat=nn)(hge0:nn≤s.length)(sd:Bs)(hsd:(s.drop 21).take (nn - 21)=sd)(X:Nat)(hX:(zAm 0#32 sd).toNat=X)(heq:(X:Int)=x.sum)(h8:x.attr % 8=0)(hn0:¬x.attr<0)(hn1:63<x.attr)(h:St W0 w K L):
 Calls Tryz.prog 87 #[.string (bb s)] w fun en w'=>en=.returned (.agg #[.int .i64 0,.int .i64 0,.bool false,.bool false,.bool false,.int .i64 0,.int .i64 0,.int .i64 0,.int .i64 0,.int .i64 0,.int .i64 0,.slice none 0 0,.int .i64 0,.int .i64 8])∧St W0 w' K L:=by
 obtain⟨rb,hrb⟩:∃b,w.heap.size=b:=⟨_,rfl⟩;have g1:=h.allocRaw #[.int .i64 0,.int .i64 0,.bool false,.bool false,.bool false,.int .i64 0,.int .i64 0,.int .i64 0,.int .i64 0,.int .i64 0,.int .i64 0,.slice none 0 0,.int .i64 0,.int .i64 0] 149;rw[hrb]at g1;obtain⟨z0,z1,z2,z3,z4,z5,z6,z7,z8,z9,z10,z11,z12,z13,zf0,zf1,zf2,zf3,zf4,zf5,zf6,zf7,zf8,zf9,zf10,zf11,zf12,zf13⟩:=zAG (b:=rb) (g1);have H:=hQd g1;have HL:=hQd (show s.length≤140737488355328 by omega);have HP:=hQd hp;obtain⟨r1,r2,r3,r4,r5,r6⟩:=zAT hp;have hln:x.len+12=(nn:Int):=by omega
 have hsl:(s.length:Int)≤1000000:=by omega
 have HSD:=hQd hsd;have HX:=hQd hX;have HSL:=hQd (show sd.length≤1000000 by rw[←hsd,List.length_take,List.length_drop];omega);have hX4:(X:Int)<4294967296:=by rw[←hX];have:=(zAm 0#32 sd).isLt;omega
 have hwX:IntKind.i64.wrap (X:Int)=(X:Int):=by rw[IntKind.wrap_i64];omega
 clear hX4;have hge:(nn:Int)≤(s.length:Int):=by omega
 have h21:(21:Int)≤(nn:Int):=by omega
 have h61:(61:Int)≤(nn:Int):=by omega
 have hg9:¬(s.length:Int)<(nn:Int):=by omega
 have g5:((X:Int)==x.sum)=true:=by rw[heq];exact beq_self_eq_true _
 have g6:((X:Int) !=x.sum)=false:=by simp[bne,g5]
 obtain⟨c0,c1,hb2,hc1⟩:=zCv x.attr;have HB2:=hQd hb2;have HA:=hQd (show -9223372036854775808≤x.attr∧x.attr<9223372036854775808 from r3);have hc8:(c1.toNat:Int) % 8=0:=by rw[hc1];omega
 have e9:(((([c0,c1]:List UInt8)[1]'(by simp)).toNat:Int) % 8 !=0)=false:=by show((c1.toNat:Int) % 8 !=0)=false;simp[bne,hc8]
 have e8:(((([c0,c1]:List UInt8)[1]'(by simp)).toNat:Int) % 8==0)=true:=by show((c1.toNat:Int) % 8==0)=true;simp[hc8]
 clear hc8 hc1;have d0:decide (x.attr<0)=false:=decide_eq_false hn0;have d1:decide (63<x.attr)=true:=decide_eq_true hn1;clear h8 hn0 hn1;clear h g1 hp hs hnn r3 r4 r5 r6 hsd hX hge0 heq hb2;go_enter Tryz.func87,Tryz.ntmps87
 go_upto_region 7 with (first
  |(go_at_call 117;clear z0 zf0 z1 zf1 z2 zf2 z3 zf3 z4 zf4 z5 zf5 z6 zf6 z7 zf7 z8 zf8 z9 zf9 z10 zf10 z11 zf11 z12 zf12 z13 zf13;(with_reducible refine(zAD s x HP.out HL.out H.out).mono ?_);rintro e_ wn ⟨bl,rfl,h⟩;obtain⟨p0,p1,p2,p3,p4,p5,p6,p7,p8,p9,p10,p11⟩:=uR12 h;simp at p0 p1 p2 p3 p4 p5 p6 p7 p8 p9 p10 p11;obtain⟨z0,z1,z2,z3,z4,z5,z6,z7,z8,z9,z10,z11,z12,z13,zf0,zf1,zf2,zf3,zf4,zf5,zf6,zf7,zf8,zf9,zf10,zf11,zf12,zf13⟩:=zAG (b:=rb) (h.p1);replace H:=hQd h;clear h))
 clear z0 zf0 z1 zf1 z2 zf2 z3 zf3 z4 zf4 z5 zf5 z6 zf6 z7 zf7 z8 zf8 z9 zf9 z10 zf10 z11 zf11 z12 zf12 z13 zf13;clear p0 p1 p2 p3 p4 p5 p6 p7 p8 p9 p10 p11;go_cut [38] (fun s38 wx=>s38=.bool false∧St W0 wx K (.raw bl #[.int .i64 x.base,.int .i64 x.len,.int .i64 x.leader,.int .i64 x.sum,.int .i64 x.attr,.int .i64 x.last,.int .i64 x.first,.int .i64 x.maxt,.int .i64 x.prod,.int .i64 x.epoch,.int .i64 x.seq,.int .i64 x.count] 3::.raw rb #[.int .i64 0,.int .i64 0,.bool false,.bool false,.bool false,.int .i64 0,.int .i64 0,.int .i64 0,.int .i64 0,.int .i64 0,.int .i64 0,.slice none 0 0,.int .i64 0,.int .i64 0] 149::L))
 case first=>
  exact zq3
 obtain⟨rfl,h⟩:=hcut;clear H;obtain⟨p0,p1,p2,p3,p4,p5,p6,p7,p8,p9,p10,p11⟩:=uR12 h;simp at p0 p1 p2 p3 p4 p5 p6 p7 p8 p9 p10 p11;obtain⟨z0,z1,z2,z3,z4,z5,z6,z7,z8,z9,z10,z11,z12,z13,zf0,zf1,zf2,zf3,zf4,zf5,zf6,zf7,zf8,zf9,zf10,zf11,zf12,zf13⟩:=zAG (b:=rb) (h.p1);have H:=hQd h;clear h
 go_wp2_with (first
  |(go_at_call 49;clear z0 zf0 z1 zf1 z2 zf2 z3 zf3 z4 zf4 z5 zf5 z6 zf6 z7 zf7 z8 zf8 z9 zf9 z10 zf10 z11 zf11 z12 zf12 z13 zf13;clear p0 p1 p2 p3 p4 p5 p6 p7 p8 p9 p10 p11;(with_reducible refine(zBW x.attr HA.out c0 c1 HB2.out H.out).mono ?_);rintro e_ wn ⟨rfl,h⟩;obtain⟨p0,p1,p2,p3,p4,p5,p6,p7,p8,p9,p10,p11⟩:=uR12 h;simp at p0 p1 p2 p3 p4 p5 p6 p7 p8 p9 p10 p11;obtain⟨z0,z1,z2,z3,z4,z5,z6,z7,z8,z9,z10,z11,z12,z13,zf0,zf1,zf2,zf3,zf4,zf5,zf6,zf7,zf8,zf9,zf10,zf11,zf12,zf13⟩:=zAG (b:=rb) (h.p1);replace H:=hQd h;clear h)
  |(go_at_call 118;clear z0 zf0 z1 zf1 z2 zf2 z3 zf3 z4 zf4 z5 zf5 z6 zf6 z7 zf7 z8 zf8 z9 zf9 z10 zf10 z11 zf11 z12 zf12 z13 zf13;clear p0 p1 p2 p3 p4 p5 p6 p7 p8 p9 p10 p11;(with_reducible refine(zAV 8 H.out).mono ?_);rintro e_ wn ⟨rfl,h⟩;obtain⟨z0,z1,z2,z3,z4,z5,z6,z7,z8,z9,z10,z11,z12,z13,zf0,zf1,zf2,zf3,zf4,zf5,zf6,zf7,zf8,zf9,zf10,zf11,zf12,zf13⟩:=zAG (b:=rb) (h.p1);replace H:=hQd h;clear h))
 have hz:St W0 _ _ (.raw rb #[.int .i64 0,.int .i64 0,.bool false,.bool false,.bool false,.int .i64 0,.int .i64 0,.int .i64 0,.int .i64 0,.int .i64 0,.int .i64 0,.slice none 0 0,.int .i64 0,.int .i64 8] 149::_):=St.sets14 _ _ _ _ _ _ _ _ _ _ _ _ _ _ (H.out.p1);refine bodyPost_ret (zAs rfl _ _ rb [.int .i64 0,.int .i64 0,.bool false,.bool false,.bool false,.int .i64 0,.int .i64 0,.int .i64 0,.int .i64 0,.int .i64 0,.int .i64 0,.slice none 0 0,.int .i64 0,.int .i64 8] _ rfl (zAE hz) Tryz.underlying149 rfl (by kernel_rfl)) rfl ?_;exact⟨rfl,hz.drop.drop⟩
theorem zRp(s:Bs)(hs:s.length≤1000000)(x:PreS)(hp:zBu s=.ok x)(nn:Nat)(hnn:61+(x.len - 49).toNat=nn)(hge0:nn≤s.length)(sd:Bs)(hsd:(s.drop 21).take (nn - 21)=sd)(X:Nat)(hX:(zAm 0#32 sd).toNat=X)(heq:(X:Int)=x.sum)(h8:x.attr % 8=0)(hn0:¬x.attr<0)(hn1:¬63<x.attr)(hn2:32≤x.attr)(hn3:x.attr % 32<16)(h:St W0 w K L):
 Calls Tryz.prog 87 #[.string (bb s)] w fun en w'=>en=.returned (.agg #[.int .i64 0,.int .i64 0,.bool false,.bool false,.bool false,.int .i64 0,.int .i64 0,.int .i64 0,.int .i64 0,.int .i64 0,.int .i64 0,.slice none 0 0,.int .i64 0,.int .i64 8])∧St W0 w' K L:=by
 obtain⟨rb,hrb⟩:∃b,w.heap.size=b:=⟨_,rfl⟩;have g1:=h.allocRaw #[.int .i64 0,.int .i64 0,.bool false,.bool false,.bool false,.int .i64 0,.int .i64 0,.int .i64 0,.int .i64 0,.int .i64 0,.int .i64 0,.slice none 0 0,.int .i64 0,.int .i64 0] 149;rw[hrb]at g1;obtain⟨z0,z1,z2,z3,z4,z5,z6,z7,z8,z9,z10,z11,z12,z13,zf0,zf1,zf2,zf3,zf4,zf5,zf6,zf7,zf8,zf9,zf10,zf11,zf12,zf13⟩:=zAG (b:=rb) (g1);have H:=hQd g1;have HL:=hQd (show s.length≤140737488355328 by omega);have HP:=hQd hp;obtain⟨r1,r2,r3,r4,r5,r6⟩:=zAT hp;have hln:x.len+12=(nn:Int):=by omega
 have hsl:(s.length:Int)≤1000000:=by omega
 have HSD:=hQd hsd;have HX:=hQd hX;have HSL:=hQd (show sd.length≤1000000 by rw[←hsd,List.length_take,List.length_drop];omega);have hX4:(X:Int)<4294967296:=by rw[←hX];have:=(zAm 0#32 sd).isLt;omega
 have hwX:IntKind.i64.wrap (X:Int)=(X:Int):=by rw[IntKind.wrap_i64];omega
 clear hX4;have hge:(nn:Int)≤(s.length:Int):=by omega
 have h21:(21:Int)≤(nn:Int):=by omega
 have h61:(61:Int)≤(nn:Int):=by omega
 have hg9:¬(s.length:Int)<(nn:Int):=by omega
 have g5:((X:Int)==x.sum)=true:=by rw[heq];exact beq_self_eq_true _
 have g6:((X:Int) !=x.sum)=false:=by simp[bne,g5]
 obtain⟨c0,c1,hb2,hc1⟩:=zCv x.attr;have HB2:=hQd hb2;have HA:=hQd (show -9223372036854775808≤x.attr∧x.attr<9223372036854775808 from r3);have hc8:(c1.toNat:Int) % 8=0:=by rw[hc1];omega
 have e9:(((([c0,c1]:List UInt8)[1]'(by simp)).toNat:Int) % 8 !=0)=false:=by show((c1.toNat:Int) % 8 !=0)=false;simp[bne,hc8]
 have e8:(((([c0,c1]:List UInt8)[1]'(by simp)).toNat:Int) % 8==0)=true:=by show((c1.toNat:Int) % 8==0)=true;simp[hc8]
 clear hc8 hc1;have d0:decide (x.attr<0)=false:=decide_eq_false hn0;have d1:decide (63<x.attr)=false:=decide_eq_false hn1;have d2:decide (32≤x.attr)=true:=decide_eq_true hn2;have d3:decide (x.attr % 32<16)=true:=decide_eq_true hn3;have ha0:0≤x.attr:=by omega
 have d4:decide (x.attr.tmod 32<16)=true:=decide_eq_true (by rw[Int.tmod_eq_emod_of_nonneg ha0];exact hn3);clear h8 hn0 hn1 hn2 hn3;clear h g1 hp hs hnn r3 r4 r5 r6 hsd hX hge0 heq hb2;go_enter Tryz.func87,Tryz.ntmps87
 go_upto_region 7 with (first
  |(go_at_call 117;clear z0 zf0 z1 zf1 z2 zf2 z3 zf3 z4 zf4 z5 zf5 z6 zf6 z7 zf7 z8 zf8 z9 zf9 z10 zf10 z11 zf11 z12 zf12 z13 zf13;(with_reducible refine(zAD s x HP.out HL.out H.out).mono ?_);rintro e_ wn ⟨bl,rfl,h⟩;obtain⟨p0,p1,p2,p3,p4,p5,p6,p7,p8,p9,p10,p11⟩:=uR12 h;simp at p0 p1 p2 p3 p4 p5 p6 p7 p8 p9 p10 p11;obtain⟨z0,z1,z2,z3,z4,z5,z6,z7,z8,z9,z10,z11,z12,z13,zf0,zf1,zf2,zf3,zf4,zf5,zf6,zf7,zf8,zf9,zf10,zf11,zf12,zf13⟩:=zAG (b:=rb) (h.p1);replace H:=hQd h;clear h))
 clear z0 zf0 z1 zf1 z2 zf2 z3 zf3 z4 zf4 z5 zf5 z6 zf6 z7 zf7 z8 zf8 z9 zf9 z10 zf10 z11 zf11 z12 zf12 z13 zf13;clear p0 p1 p2 p3 p4 p5 p6 p7 p8 p9 p10 p11;go_cut [38] (fun s38 wx=>s38=.bool false∧St W0 wx K (.raw bl #[.int .i64 x.base,.int .i64 x.len,.int .i64 x.leader,.int .i64 x.sum,.int .i64 x.attr,.int .i64 x.last,.int .i64 x.first,.int .i64 x.maxt,.int .i64 x.prod,.int .i64 x.epoch,.int .i64 x.seq,.int .i64 x.count] 3::.raw rb #[.int .i64 0,.int .i64 0,.bool false,.bool false,.bool false,.int .i64 0,.int .i64 0,.int .i64 0,.int .i64 0,.int .i64 0,.int .i64 0,.slice none 0 0,.int .i64 0,.int .i64 0] 149::L))
 case first=>
  exact zq3
 obtain⟨rfl,h⟩:=hcut;clear H;obtain⟨p0,p1,p2,p3,p4,p5,p6,p7,p8,p9,p10,p11⟩:=uR12 h;simp at p0 p1 p2 p3 p4 p5 p6 p7 p8 p9 p10 p11;obtain⟨z0,z1,z2,z3,z4,z5,z6,z7,z8,z9,z10,z11,z12,z13,zf0,zf1,zf2,zf3,zf4,zf5,zf6,zf7,zf8,zf9,zf10,zf11,zf12,zf13⟩:=zAG (b:=rb) (h.p1);have H:=hQd h;clear h
 go_wp2_with (first
  |(go_at_call 49;clear z0 zf0 z1 zf1 z2 zf2 z3 zf3 z4 zf4 z5 zf5 z6 zf6 z7 zf7 z8 zf8 z9 zf9 z10 zf10 z11 zf11 z12 zf12 z13 zf13;clear p0 p1 p2 p3 p4 p5 p6 p7 p8 p9 p10 p11;(with_reducible refine(zBW x.attr HA.out c0 c1 HB2.out H.out).mono ?_);rintro e_ wn ⟨rfl,h⟩;obtain⟨p0,p1,p2,p3,p4,p5,p6,p7,p8,p9,p10,p11⟩:=uR12 h;simp at p0 p1 p2 p3 p4 p5 p6 p7 p8 p9 p10 p11;obtain⟨z0,z1,z2,z3,z4,z5,z6,z7,z8,z9,z10,z11,z12,z13,zf0,zf1,zf2,zf3,zf4,zf5,zf6,zf7,zf8,zf9,zf10,zf11,zf12,zf13⟩:=zAG (b:=rb) (h.p1);replace H:=hQd h;clear h)
  |(go_at_call 118;clear z0 zf0 z1 zf1 z2 zf2 z3 zf3 z4 zf4 z5 zf5 z6 zf6 z7 zf7 z8 zf8 z9 zf9 z10 zf10 z11 zf11 z12 zf12 z13 zf13;clear p0 p1 p2 p3 p4 p5 p6 p7 p8 p9 p10 p11;(with_reducible refine(zAV 8 H.out).mono ?_);rintro e_ wn ⟨rfl,h⟩;obtain⟨z0,z1,z2,z3,z4,z5,z6,z7,z8,z9,z10,z11,z12,z13,zf0,zf1,zf2,zf3,zf4,zf5,zf6,zf7,zf8,zf9,zf10,zf11,zf12,zf13⟩:=zAG (b:=rb) (h.p1);replace H:=hQd h;clear h))
 have hz:St W0 _ _ (.raw rb #[.int .i64 0,.int .i64 0,.bool false,.bool false,.bool false,.int .i64 0,.int .i64 0,.int .i64 0,.int .i64 0,.int .i64 0,.int .i64 0,.slice none 0 0,.int .i64 0,.int .i64 8] 149::_):=St.sets14 _ _ _ _ _ _ _ _ _ _ _ _ _ _ (H.out.p1);refine bodyPost_ret (zAs rfl _ _ rb [.int .i64 0,.int .i64 0,.bool false,.bool false,.bool false,.int .i64 0,.int .i64 0,.int .i64 0,.int .i64 0,.int .i64 0,.int .i64 0,.slice none 0 0,.int .i64 0,.int .i64 8] _ rfl (zAE hz) Tryz.underlying149 rfl (by kernel_rfl)) rfl ?_;exact⟨rfl,hz.drop.drop⟩
theorem zRs(s:Bs)(hs:s.length≤1000000)(x:PreS)(hp:zBu s=.ok x)(nn:Nat)(hnn:61+(x.len - 49).toNat=nn)(hge0:nn≤s.length)(sd:Bs)(hsd:(s.drop 21).take (nn - 21)=sd)(X:Nat)(hX:(zAm 0#32 sd).toNat=X)(heq:(X:Int)=x.sum)(h8:x.attr % 8=0)(hn0:¬x.attr<0)(hn1:¬63<x.attr)(hn2:¬(32≤x.attr∧x.attr % 32<16))(n:Nat)(hcn:x.count=(n:Int))(hnb:n≤2147483647)(rs:List RecS)(hu:unpT n ((s.drop 61).take (nn - 61))=.ok rs)(hrs:rs.length≤1000000)(hrf:∀l:List (RecS×Value),l.map (·.1)=rs→FitB l)(e:Int)(he0:e≠0)(hbe:zAl ⟨x.base,x.leader,zAf x.attr 3,zAf x.attr 4,zAf x.attr 5,x.last,x.first,x.maxt,x.prod,x.epoch,x.seq,rs⟩=e){W0 w:World}{K:Know}{L:List Res}(h:St W0 w K L):
 Calls Tryz.prog 87 #[.string (bb s)] w fun en w'=>en=.returned (.agg #[.int .i64 0,.int .i64 0,.bool false,.bool false,.bool false,.int .i64 0,.int .i64 0,.int .i64 0,.int .i64 0,.int .i64 0,.int .i64 0,.slice none 0 0,.int .i64 0,.int .i64 e])∧St W0 w' K L:=by
 obtain⟨rb,hrb⟩:∃b,w.heap.size=b:=⟨_,rfl⟩;have g1:=h.allocRaw #[.int .i64 0,.int .i64 0,.bool false,.bool false,.bool false,.int .i64 0,.int .i64 0,.int .i64 0,.int .i64 0,.int .i64 0,.int .i64 0,.slice none 0 0,.int .i64 0,.int .i64 0] 149;rw[hrb]at g1;obtain⟨z0,z1,z2,z3,z4,z5,z6,z7,z8,z9,z10,z11,z12,z13,zf0,zf1,zf2,zf3,zf4,zf5,zf6,zf7,zf8,zf9,zf10,zf11,zf12,zf13⟩:=zAG (b:=rb) (g1);have H:=hQd g1;have HL:=hQd (show s.length≤140737488355328 by omega);have HP:=hQd hp;obtain⟨r1,r2,r3,r4,r5,r6⟩:=zAT hp;have hln:x.len+12=(nn:Int):=by omega
 have hsl:(s.length:Int)≤1000000:=by omega
 have HSD:=hQd hsd;have HX:=hQd hX;have HSL:=hQd (show sd.length≤1000000 by rw[←hsd,List.length_take,List.length_drop];omega);have hX4:(X:Int)<4294967296:=by rw[←hX];have:=(zAm 0#32 sd).isLt;omega
 have hwX:IntKind.i64.wrap (X:Int)=(X:Int):=by rw[IntKind.wrap_i64];omega
 clear hX4;have hge:(nn:Int)≤(s.length:Int):=by omega
 have h21:(21:Int)≤(nn:Int):=by omega
 have h61:(61:Int)≤(nn:Int):=by omega
 have hg9:¬(s.length:Int)<(nn:Int):=by omega
 have g5:((X:Int)==x.sum)=true:=by rw[heq];exact beq_self_eq_true _
 have g6:((X:Int) !=x.sum)=false:=by simp[bne,g5]
 obtain⟨c0,c1,hb2,hc1⟩:=zCv x.attr;have HB2:=hQd hb2;have HA:=hQd (show -9223372036854775808≤x.attr∧x.attr<9223372036854775808 from r3);have hc8:(c1.toNat:Int) % 8=0:=by rw[hc1];omega
 have e9:(((([c0,c1]:List UInt8)[1]'(by simp)).toNat:Int) % 8 !=0)=false:=by show((c1.toNat:Int) % 8 !=0)=false;simp[bne,hc8]
 have e8:(((([c0,c1]:List UInt8)[1]'(by simp)).toNat:Int) % 8==0)=true:=by show((c1.toNat:Int) % 8==0)=true;simp[hc8]
 clear hc8 hc1;have d0:decide (x.attr<0)=false:=decide_eq_false hn0;have d1:decide (63<x.attr)=false:=decide_eq_false hn1;have ha0:0≤x.attr:=by omega
 have ha63:x.attr≤63:=by omega
 have q8:x.attr.tdiv 8=x.attr / 8:=Int.tdiv_eq_ediv_of_nonneg ha0;have q16:x.attr.tdiv 16=x.attr / 16:=Int.tdiv_eq_ediv_of_nonneg ha0;have q32:x.attr.tdiv 32=x.attr / 32:=Int.tdiv_eq_ediv_of_nonneg ha0;have m8:(x.attr / 8).tmod 2=x.attr / 8 % 2:=Int.tmod_eq_emod_of_nonneg oM;have m16:(x.attr / 16).tmod 2=x.attr / 16 % 2:=Int.tmod_eq_emod_of_nonneg oM;have w8:IntKind.i64.wrap (x.attr / 8)=x.attr / 8:=by rw[IntKind.wrap_i64];omega
 have w16:IntKind.i64.wrap (x.attr / 16)=x.attr / 16:=by rw[IntKind.wrap_i64];omega
 have w32:IntKind.i64.wrap (x.attr / 32)=x.attr / 32:=by rw[IntKind.wrap_i64];omega
 have w8m:IntKind.i64.wrap (x.attr / 8 % 2)=x.attr / 8 % 2:=by rw[IntKind.wrap_i64];omega
 have w16m:IntKind.i64.wrap (x.attr / 16 % 2)=x.attr / 16 % 2:=by rw[IntKind.wrap_i64];omega
 have b5:(x.attr / 32==1)=zAf x.attr 5:=by unfold zAf;rw[show(2:Int) ^ 5=32 by decide,show(x.attr / 32==1)=decide (x.attr / 32=1)from rfl];congr 1;rw[eq_iff_iff];omega
 have b3:(x.attr / 8 % 2==1)=zAf x.attr 3:=rfl;have b4:(x.attr / 16 % 2==1)=zAf x.attr 4:=rfl;have HD:=hQd (And.intro b3 (And.intro b4 b5));have HN2:=hQd hn2;clear h8 hn0 hn1 hn2 b3 b4 b5;obtain⟨rw0,hrw⟩:∃r,(s.drop 61).take (nn - 61)=r:=⟨_,rfl⟩;rw[hrw]at hu;have HRW:=hQd hrw;have HRW1:=hQd (show rw0.length≤1000000 by rw[←hrw,List.length_take,List.length_drop];omega);obtain⟨tot,htot⟩:∃t,unpT n rw0=t:=⟨_,rfl⟩;have HTT:=hQd (htot.symm.trans hu);have HT:=hQd (show preU [] (unpT (n - 0) rw0)=tot by rw[zEr];exact htot);have HNB:=hQd hnb;have HCN:=hQd hcn;have HE0:=hQd he0;have HBE:=hQd hbe;have HRS:=hQd hrs;have HRF:=hQd hrf;have HB0:=hQd r6;have HB1:=hQd (show Rn x.base from(zIN hp).1);clear h g1 hp hs hnn r3 r4 r5 r6 hsd hX hge0 heq hb2 hu hrw htot hnb hcn he0 hbe hrs hrf;go_enter Tryz.func87,Tryz.ntmps87
 go_upto_region 7 with (first
  |(go_at_call 117;clear z0 zf0 z1 zf1 z2 zf2 z3 zf3 z4 zf4 z5 zf5 z6 zf6 z7 zf7 z8 zf8 z9 zf9 z10 zf10 z11 zf11 z12 zf12 z13 zf13;(with_reducible refine(zAD s x HP.out HL.out H.out).mono ?_);rintro e_ wn ⟨bl,rfl,h⟩;obtain⟨p0,p1,p2,p3,p4,p5,p6,p7,p8,p9,p10,p11⟩:=uR12 h;simp at p0 p1 p2 p3 p4 p5 p6 p7 p8 p9 p10 p11;obtain⟨z0,z1,z2,z3,z4,z5,z6,z7,z8,z9,z10,z11,z12,z13,zf0,zf1,zf2,zf3,zf4,zf5,zf6,zf7,zf8,zf9,zf10,zf11,zf12,zf13⟩:=zAG (b:=rb) (h.p1);replace H:=hQd h;clear h))
 clear z0 zf0 z1 zf1 z2 zf2 z3 zf3 z4 zf4 z5 zf5 z6 zf6 z7 zf7 z8 zf8 z9 zf9 z10 zf10 z11 zf11 z12 zf12 z13 zf13;clear p0 p1 p2 p3 p4 p5 p6 p7 p8 p9 p10 p11;go_cut [38] (fun s38 wx=>s38=.bool false∧St W0 wx K (.raw bl #[.int .i64 x.base,.int .i64 x.len,.int .i64 x.leader,.int .i64 x.sum,.int .i64 x.attr,.int .i64 x.last,.int .i64 x.first,.int .i64 x.maxt,.int .i64 x.prod,.int .i64 x.epoch,.int .i64 x.seq,.int .i64 x.count] 3::.raw rb #[.int .i64 0,.int .i64 0,.bool false,.bool false,.bool false,.int .i64 0,.int .i64 0,.int .i64 0,.int .i64 0,.int .i64 0,.int .i64 0,.slice none 0 0,.int .i64 0,.int .i64 0] 149::L))
 case first=>
  exact zq3
 obtain⟨rfl,h⟩:=hcut;clear H;obtain⟨p0,p1,p2,p3,p4,p5,p6,p7,p8,p9,p10,p11⟩:=uR12 h;simp at p0 p1 p2 p3 p4 p5 p6 p7 p8 p9 p10 p11;obtain⟨z0,z1,z2,z3,z4,z5,z6,z7,z8,z9,z10,z11,z12,z13,zf0,zf1,zf2,zf3,zf4,zf5,zf6,zf7,zf8,zf9,zf10,zf11,zf12,zf13⟩:=zAG (b:=rb) (h.p1);have H:=hQd h;clear h
 go_upto_region 12 with (first
  |(go_at_call 49;clear z0 zf0 z1 zf1 z2 zf2 z3 zf3 z4 zf4 z5 zf5 z6 zf6 z7 zf7 z8 zf8 z9 zf9 z10 zf10 z11 zf11 z12 zf12 z13 zf13;clear p0 p1 p2 p3 p4 p5 p6 p7 p8 p9 p10 p11;(with_reducible refine(zBW x.attr HA.out c0 c1 HB2.out H.out).mono ?_);rintro e_ wn ⟨rfl,h⟩;obtain⟨p0,p1,p2,p3,p4,p5,p6,p7,p8,p9,p10,p11⟩:=uR12 h;simp at p0 p1 p2 p3 p4 p5 p6 p7 p8 p9 p10 p11;obtain⟨z0,z1,z2,z3,z4,z5,z6,z7,z8,z9,z10,z11,z12,z13,zf0,zf1,zf2,zf3,zf4,zf5,zf6,zf7,zf8,zf9,zf10,zf11,zf12,zf13⟩:=zAG (b:=rb) (h.p1);replace H:=hQd h;clear h))
 go_cut [63] (fun s63 wx=>s63=.bool false∧St W0 wx K (.raw bl #[.int .i64 x.base,.int .i64 x.len,.int .i64 x.leader,.int .i64 x.sum,.int .i64 x.attr,.int .i64 x.last,.int .i64 x.first,.int .i64 x.maxt,.int .i64 x.prod,.int .i64 x.epoch,.int .i64 x.seq,.int .i64 x.count] 3::.raw rb #[.int .i64 0,.int .i64 0,.bool false,.bool false,.bool false,.int .i64 0,.int .i64 0,.int .i64 0,.int .i64 0,.int .i64 0,.int .i64 0,.slice none 0 0,.int .i64 0,.int .i64 0] 149::L))
 case first=>
  exact zq17
 obtain⟨rfl,h⟩:=hcut;clear H;have H:=hQd h;clear h;go_upto_region 14 with (fail);clear z0 zf0 z1 zf1 z2 zf2 z3 zf3 z4 zf4 z5 zf5 z6 zf6 z7 zf7 z8 zf8 z9 zf9 z10 zf10 z11 zf11 z12 zf12 z13 zf13;clear p0 p1 p2 p3 p4 p5 p6 p7 p8 p9 p10 p11;go_cut [7] (fun s7 wx=>∃tb:Nat,s7=.pointer (some ⟨tb,0,none⟩)∧St W0 wx K (.raw tb #[.int .i64 x.base,.int .i64 x.leader,.bool (zAf x.attr 3),.bool (zAf x.attr 4),.bool (zAf x.attr 5),.int .i64 x.last,.int .i64 x.first,.int .i64 x.maxt,.int .i64 x.prod,.int .i64 x.epoch,.int .i64 x.seq,.slice none 0 0] 58::.raw bl #[.int .i64 x.base,.int .i64 x.len,.int .i64 x.leader,.int .i64 x.sum,.int .i64 x.attr,.int .i64 x.last,.int .i64 x.first,.int .i64 x.maxt,.int .i64 x.prod,.int .i64 x.epoch,.int .i64 x.seq,.int .i64 x.count] 3::.raw rb #[.int .i64 0,.int .i64 0,.bool false,.bool false,.bool false,.int .i64 0,.int .i64 0,.int .i64 0,.int .i64 0,.int .i64 0,.int .i64 0,.slice none 0 0,.int .i64 0,.int .i64 0] 149::L))
 case first=>
  exact zq5
 obtain⟨tb,rfl,h⟩:=hcut;clear H q8 q16 q32 m8 m16 w8 w16 w32 w8m w16m d0 d1 ha0 ha63 g5 g6 e8 e9;have H:=hQd h;clear h;have hge:=hge;go_wp2;rw[HRW.out];go_loopw [8,9] (fun rv iv wr=>∃(k:Nat) (acc:List (RecS×Value)) (r:Bs) (K2:Know) (tv:Value),k≤n∧iv=.int .i64 k∧rv=.string (bb r)∧acc.length=k∧Hid (preU (acc.map (·.1)) (unpT (n - k) r)=tot)∧Hid (r.length≤1000000)∧Hid (K2.has K)∧Hid (∀x∈acc,K2.has (Know.flat RHdr x.2 3 x.1.hdrs))∧St W0 wr K2 (.row tv 119 7 acc.length (acc.flatMap zGN)::.raw tb #[.int .i64 x.base,.int .i64 x.leader,.bool (zAf x.attr 3),.bool (zAf x.attr 4),.bool (zAf x.attr 5),.int .i64 x.last,.int .i64 x.first,.int .i64 x.maxt,.int .i64 x.prod,.int .i64 x.epoch,.int .i64 x.seq,tv] 58::.raw bl #[.int .i64 x.base,.int .i64 x.len,.int .i64 x.leader,.int .i64 x.sum,.int .i64 x.attr,.int .i64 x.last,.int .i64 x.first,.int .i64 x.maxt,.int .i64 x.prod,.int .i64 x.epoch,.int .i64 x.seq,.int .i64 x.count] 3::.raw rb #[.int .i64 0,.int .i64 0,.bool false,.bool false,.bool false,.int .i64 0,.int .i64 0,.int .i64 0,.int .i64 0,.int .i64 0,.int .i64 0,.slice none 0 0,.int .i64 0,.int .i64 0] 149::L)) (fun _ iv _=>n - (intOf iv).toNat)
 case atStart=>exact⟨0,[],rw0,K,.slice none 0 0,Nat.zero_le _,rfl,rfl,rfl,HT,HRW1,hQd (Know.has_refl _),hQd (fun x h=>by cases h),H.out.nilRow 119 7⟩
 case round=>
  obtain⟨k,acc,r,K2,tv,hk,rfl,rfl,hacc,HC,HRL,HK2,HALL,hst⟩:=hrel;have HACC:=hQd hacc;have HKB:=hQd (show k≤2147483647 by have:=HNB.out;omega);clear H hacc;have t11:=hst.p1.rawCell 11;have tf11:=hst.p1.rawFree 11;simp at t11;have p11:=hst.p2.rawCell 11;simp at p11;obtain⟨z0,z1,z2,z3,z4,z5,z6,z7,z8,z9,z10,z11,z12,z13,zf0,zf1,zf2,zf3,zf4,zf5,zf6,zf7,zf8,zf9,zf10,zf11,zf12,zf13⟩:=zAG (b:=rb) (hst.p3);have H:=hQd hst;clear hst;have hc9:=HCN.out;rw[hc9]at p11;clear hc9
  by_cases hlt:k<n
  ·have hc:=HC.out;rw[show n - k=(n - (k+1))+1 by omega]at hc;have hki:(k:Int)<(n:Int):=by omega
   have hnb:(n:Int)≤2147483647:=by have:=HNB.out;omega
   by_cases hr0:r=[]
   ·subst hr0;rw[zFQ]at hc;have hc2:Except.error 10=tot:=hc;have hc3:=hc2.trans HTT.out
    cases hc3
   have z1:(r==[])=false:=by rw[beq_eq_false_iff_ne];exact hr0
   have z2:(r !=[])=true:=by simp[bne,z1]
   have z3:¬r=[]:=hr0;have hrl1:(r.length:Int)≤1000000:=by have:=HRL.out;omega
   cases hrr:zCj r with
   |error e2=>
    rw[zFR hr0 hrr]at hc;have hc2:Except.error e2=tot:=hc;have hc3:=hc2.trans HTT.out
    cases hc3
   |ok yy=>
    obtain⟨y,m⟩:=yy;rw[zIi hr0 hrr,←zDw]at hc;have hmr:=(zCX hrr).2.2.2.2.2;have hmi:(m:Int)≤(r.length:Int):=by omega
    have HRR:=hQd hrr;have HC2:=hQd hc;have HDR:=hQd (show List.take (r.length - m) (r.drop m)=r.drop m from List.take_of_length_le zq62);clear hc hrr hr0
    go_wp2_with (first
  |(go_at_call 119;clear t11 tf11;clear p11;clear z0 zf0 z1 zf1 z2 zf2 z3 zf3 z4 zf4 z5 zf5 z6 zf6 z7 zf7 z8 zf8 z9 zf9 z10 zf10 z11 zf11 z12 zf12 z13 zf13;(with_reducible refine(zD4 r y m HRR.out HRL.out H.out).mono ?_);rintro e_ wn ⟨v1,rfl,h⟩;obtain⟨q1,cc1,hv1⟩:=zAq (Know.has_right (Know.has_refl _)) h;subst hv1;obtain⟨xb,hxb⟩:∃b,wn.heap.size=b:=⟨_,rfl⟩;have h:=h.allocRaw #[.int .i64 y.time,.int .i64 y.off,.bool y.key.null,.string (bb y.key.data),.bool y.val.null,.string (bb y.val.data),(.slice q1 y.hdrs.length cc1),.int .i64 m,.int .i64 0] 176;rw[hxb]at h;obtain⟨r0,r1,r2,r3,r4,r5,r6,r7,r8⟩:=uR9 h;simp at r0 r1 r2 r3 r4 r5 r6 r7 r8;have t11:=h.p2.rawCell 11;have tf11:=h.p2.rawFree 11;simp at t11;have p11:=h.p3.rawCell 11;simp at p11;obtain⟨z0,z1,z2,z3,z4,z5,z6,z7,z8,z9,z10,z11,z12,z13,zf0,zf1,zf2,zf3,zf4,zf5,zf6,zf7,zf8,zf9,zf10,zf11,zf12,zf13⟩:=zAG (b:=rb) (h.p4);replace H:=hQd h;clear h)
  |(at_builtin;clear t11 tf11;clear p11;clear z0 zf0 z1 zf1 z2 zf2 z3 zf3 z4 zf4 z5 zf5 z6 zf6 z7 zf7 z8 zf8 z9 zf9 z10 zf10 z11 zf11 z12 zf12 z13 zf13;clear r0 r2 r3 r4 r5 r6 r7 r8;refine zAw rfl _ _ 56 rfl 119 Tryz.underlying56 zDR _ _ _ rfl H.out.p1 [.int .i64 y.time,.int .i64 y.off,.bool y.key.null,.string (bb y.key.data),.bool y.val.null,.string (bb y.val.data),.slice q1 y.hdrs.length cc1] 119 zq63 rfl (by simp[Value.oneCell']) zq66 zq69 ?_;intro v' w' h;obtain⟨qv,cv,hv⟩:=h.rowAny;subst hv;have t11:=h.p2.rawCell 11;have tf11:=h.p2.rawFree 11;simp at t11;have r7:=h.p1.rawCell 7;simp at r7;replace H:=hQd h;clear h))
    go_roundw
    case rel=>
     exact zq11
    case measure=>first|(simp[intOf];done)|(simp[intOf];omega)
  ·obtain rfl:k=n:=by omega
   have hc:=HC.out;rw[Nat.sub_self,zEf]at hc;have hki:¬(k:Int)<(k:Int):=by omega
   by_cases hr0:r=[]
   ·rw[if_pos hr0]at hc;have hc2:Except.ok (acc.map (·.1)++[])=tot:=hc;have hc3:=hc2.trans HTT.out;subst hr0;have hm0:acc.map (·.1)=rs:=by injection hc3 with h;rw[List.append_nil]at h;exact h
    obtain⟨q2,cap2,hv⟩:=H.out.rowAny;subst hv;have h5:=(H.out.freezeRow (R:=RRec) (fun y _=>⟨rfl,rfl⟩));have h6:=h5.know (K':=K.and (Know.recs (.slice q2 acc.length cap2) acc)) (fun w F hh=>⟨HK2.out _ _ hh.1,hh.2,fun y hy=>HALL.out y hy _ _ hh.1⟩);have HM0:=hQd hm0;have HBE2:=hQd (show zAl ⟨x.base,x.leader,zAf x.attr 3,zAf x.attr 4,zAf x.attr 5,x.last,x.first,x.maxt,x.prod,x.epoch,x.seq,acc.map (·.1)⟩=e by rw[hm0];exact HBE.out);have HFB:=hQd (HRF.out acc hm0);have HLL:=hQd (show acc.length≤1000000 by have h8:=congrArg List.length hm0;rw[List.length_map]at h8;have:=HRS.out;omega);clear t11 tf11;clear p11;clear z0 zf0 z1 zf1 z2 zf2 z3 zf3 z4 zf4 z5 zf5 z6 zf6 z7 zf7 z8 zf8 z9 zf9 z10 zf10 z11 zf11 z12 zf12 z13 zf13;obtain⟨z0,z1,z2,z3,z4,z5,z6,z7,z8,z9,z10,z11,z12,z13,zf0,zf1,zf2,zf3,zf4,zf5,zf6,zf7,zf8,zf9,zf10,zf11,zf12,zf13⟩:=zAG (b:=rb) (h6.p2);obtain⟨b0,b1,b2,b3,b4,b5,b6,b7,b8,b9,b10,b11,bf0,bf1,bf2,bf3,bf4,bf5,bf6,bf7,bf8,bf9,bf10,bf11⟩:=zAe (b:=tb) (h6);have p11:=h6.p1.rawCell 11;simp at p11;rw[HCN.out]at p11;clear H hc hc2 hc3 hm0 h5;have H:=hQd h6;clear h6;have gz:(e==0)=false:=by rw[beq_eq_false_iff_ne];exact HE0.out
    have gz2:(e !=0)=true:=by simp[bne,gz]
    go_wp2_with (first
  |(go_at_call 71;clear b0 bf0 b1 bf1 b2 bf2 b3 bf3 b4 bf4 b5 bf5 b6 bf6 b7 bf7 b8 bf8 b9 bf9 b10 bf10 b11 bf11;clear p11;clear z0 zf0 z1 zf1 z2 zf2 z3 zf3 z4 zf4 z5 zf5 z6 zf6 z7 zf7 z8 zf8 z9 zf9 z10 zf10 z11 zf11 z12 zf12 z13 zf13;(with_reducible refine(zBZ x.base x.leader (zAf x.attr 3) (zAf x.attr 4) (zAf x.attr 5) x.last x.first x.maxt x.prod x.epoch x.seq acc q2 cap2 e HBE2.out HB0.out HB1.out HFB.out HLL.out (Know.has_right (Know.has_refl _)) H.out).mono ?_);rintro e_ wn ⟨rfl,h⟩;obtain⟨b0,b1,b2,b3,b4,b5,b6,b7,b8,b9,b10,b11,bf0,bf1,bf2,bf3,bf4,bf5,bf6,bf7,bf8,bf9,bf10,bf11⟩:=zAe (b:=tb) (h);obtain⟨z0,z1,z2,z3,z4,z5,z6,z7,z8,z9,z10,z11,z12,z13,zf0,zf1,zf2,zf3,zf4,zf5,zf6,zf7,zf8,zf9,zf10,zf11,zf12,zf13⟩:=zAG (b:=rb) (h.p2);replace H:=hQd h;clear h)
  |(go_at_call 118;clear b0 bf0 b1 bf1 b2 bf2 b3 bf3 b4 bf4 b5 bf5 b6 bf6 b7 bf7 b8 bf8 b9 bf9 b10 bf10 b11 bf11;clear z0 zf0 z1 zf1 z2 zf2 z3 zf3 z4 zf4 z5 zf5 z6 zf6 z7 zf7 z8 zf8 z9 zf9 z10 zf10 z11 zf11 z12 zf12 z13 zf13;(with_reducible refine(zAV e H.out).mono ?_);rintro e_ wn ⟨rfl,h⟩;obtain⟨z0,z1,z2,z3,z4,z5,z6,z7,z8,z9,z10,z11,z12,z13,zf0,zf1,zf2,zf3,zf4,zf5,zf6,zf7,zf8,zf9,zf10,zf11,zf12,zf13⟩:=zAG (b:=rb) (h.p2);replace H:=hQd h;clear h))
    have hz:St W0 _ _ (.raw rb #[.int .i64 0,.int .i64 0,.bool false,.bool false,.bool false,.int .i64 0,.int .i64 0,.int .i64 0,.int .i64 0,.int .i64 0,.int .i64 0,.slice none 0 0,.int .i64 0,.int .i64 e] 149::_):=St.sets14 _ _ _ _ _ _ _ _ _ _ _ _ _ _ (H.out.p2);refine bodyPost_ret (zAs rfl _ _ rb [.int .i64 0,.int .i64 0,.bool false,.bool false,.bool false,.int .i64 0,.int .i64 0,.int .i64 0,.int .i64 0,.int .i64 0,.int .i64 0,.slice none 0 0,.int .i64 0,.int .i64 e] _ rfl (zAE hz) Tryz.underlying149 rfl (by kernel_rfl)) rfl ?_;exact⟨rfl,hz.drop.drop.drop.know (Know.has_left (Know.has_refl _))⟩
   ·rw[if_neg hr0]at hc;have hc2:Except.error 10=tot:=hc;have hc3:=hc2.trans HTT.out
    cases hc3
end Go.Proofs.YtnnnglklgofabaaGreat
