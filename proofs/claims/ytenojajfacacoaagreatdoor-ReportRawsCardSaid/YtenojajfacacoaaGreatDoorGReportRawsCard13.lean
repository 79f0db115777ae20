/- A text. -/
import Derived.Test.YtenojajfacacoaaGreatDoorGReportRawsCard12
import Derived.Test.YtenojajfacacoaaGreatDoorGReportRawsCard10
import Derived.RegionTactic
import Derived.Deep.RegionHeld3
import Derived.Deep.DeepCutAuto
import Derived.WalkMore
import Derived.Test.YtenojajfacacoaaGreatDoorGReportRawsCard2
import Derived.Test.YtenojajfacacoaaGreatDoorGReportRawsCard3
import Derived.Test.YtenojajfacacoaaGreatDoorGReportRawsCard5
import Derived.Test.YtenojajfacacoaaGreatDoorGReportRawsCard4
import Derived.Test.YtenojajfacacoaaGreatDoorGReportRawsCard7
import Derived.Test.YtenojajfacacoaaGreatDoorGReportRawsCard11
import Derived.Test.YtenojajfacacoaaGreatDoorGReportRawsCard6
import Derived.Test.YtenojajfacacoaaGreatDoorGReportRawsCard8
/- A text. -/
namespace Go.Proofs.YtenojajfacacoaaGreatDoor
open Go.RowKit
def ValM (ob:Nat) (w:World):Nat:=(intOf ((w.cell? ⟨ob,1,none⟩).getD undef)).toNat
theorem zMZ{a b c:Nat}(h:a=b)(h2:b<c):a<c:=h ▸ h2
theorem valM{W0 w:World}{K:Know}{L:List Res}{ob V:Nat}{a c d:Value}{T:TypeId}(h:St W0 w K (.raw ob #[a,.int .i64 V,c,d] T::L)):ValM ob w=V:=by
 have:=h.rawCell 1;unfold ValM;rw[this]
 rfl
theorem zHI{A:Bs}{V:Nat}{acc:List BatS}(hV:V≤A.length)(hs:zAo A=(acc++(zAo (A.drop V)).1,(zAo (A.drop V)).2))(hf:zAn (A.drop V)=.ok none):finS A=(acc,V,A.drop V,0):=by
 rw[zAy hf]at hs;simp only at hs;unfold finS;rw[hs];simp only;rw[List.append_nil,if_neg (by simp),List.length_drop]
 congr 2
 omega
theorem zNk{A:Bs}{V:Nat}{acc:List BatS}{e:Int}(hV:V≤A.length)(hs:zAo A=(acc++(zAo (A.drop V)).1,(zAo (A.drop V)).2))(hf:zAn (A.drop V)=.error e):finS A=(acc,V,[],e):=by
 have h0:=zGZ hf;rw[zBH hf]at hs;simp only at hs;unfold finS;rw[hs];simp only;rw[List.append_nil,if_pos h0,List.length_drop]
 congr 2
 omega
theorem zMh{A:Bs}{V n:Nat}{acc:List BatS}{b:BatS}(hs:zAo A=(acc++(zAo (A.drop V)).1,(zAo (A.drop V)).2))(hf:zAn (A.drop V)=.ok (some (b,n))):zAo A=((acc++[b])++(zAo (A.drop (V+n))).1,(zAo (A.drop (V+n))).2):=by
 rw[zBe hf,List.drop_drop]at hs;rw[hs,List.append_assoc]
 rfl
set_option maxHeartbeats 1000000
set_option maxRecDepth 100000
variable {W0 w:World}{K:Know}{L:List Res}
theorem zA3(e:Int)(h:St W0 w K L):
  Calls Tryz.prog 96 #[.int .i64 e] w fun en w'=>en=.returned (.agg #[.int .i64 0,.int .i64 0,.bool false,.bool false,.bool false,.int .i64 0,.int .i64 0,.int .i64 0,.int .i64 0,.int .i64 0,.int .i64 0,.slice none 0 0,.int .i64 0,.int .i64 e])∧St W0 w' K L:=by
 obtain⟨rb,hrb⟩:∃b,w.heap.size=b:=⟨_,rfl⟩;have g1:=h.allocRaw #[.int .i64 0,.int .i64 0,.bool false,.bool false,.bool false,.int .i64 0,.int .i64 0,.int .i64 0,.int .i64 0,.int .i64 0,.int .i64 0,.slice none 0 0,.int .i64 0,.int .i64 0] 105;rw[hrb]at g1;obtain⟨z0,z1,z2,z3,z4,z5,z6,z7,z8,z9,z10,z11,z12,z13,zf0,zf1,zf2,zf3,zf4,zf5,zf6,zf7,zf8,zf9,zf10,zf11,zf12,zf13⟩:=zBj (b:=rb) (g1);have g2:=h.allocRaw #[.int .i64 0,.int .i64 0,.bool false,.bool false,.bool false,.int .i64 0,.int .i64 0,.int .i64 0,.int .i64 0,.int .i64 0,.int .i64 0,.slice none 0 0,.int .i64 0,.int .i64 e] 105;rw[hrb]at g2;have H:=hQd g2;clear h g1 g2;go_enter Tryz.func96,Tryz.ntmps96;go_wp2;have hz:=H.out;refine bodyPost_ret (zAl rfl _ _ rb [.int .i64 0,.int .i64 0,.bool false,.bool false,.bool false,.int .i64 0,.int .i64 0,.int .i64 0,.int .i64 0,.int .i64 0,.int .i64 0,.slice none 0 0,.int .i64 0,.int .i64 e] _ rfl (zAp hz) Tryz.underlying105 rfl (by kernel_rfl)) rfl ?_;exact⟨rfl,hz.drop⟩
theorem zD4(n:Int)(hn: -9223372036854775808≤n∧n<9223372036854775808)(c0 c1:UInt8)(hb:zAk n 2=[c0,c1])(h:St W0 w K L):
  Calls Tryz.prog 62 #[.int .i64 n,.int .i64 2] w fun en w'=>en=.returned (.string (bb [c0,c1]))∧St W0 w' K L:=by
 rw[←hb];exact zCW n 2 (by decide) hn h
variable {W0 w:World}{K:Know}{L:List Res}
theorem zDx(s:Bs)(hs:s.length<61)(h:St W0 w K L):
  Calls Tryz.prog 66 #[.string (bb s)] w fun en w'=>en=.returned (.tuple #[.slice none 0 0,.int .i64 1])∧St W0 w' K L:=by
 have H:=hQd h;have hd:decide ((s.length:Int)<61)=true:=decide_eq_true (by omega);clear h hs;go_enter Tryz.func66,Tryz.ntmps66;go_wp2;go_ret2;exact⟨rfl,H.out⟩
theorem zFQ(s:Bs):(preX s).1.len=sInt ((s.drop 8).take 4)∧(preX s).1.count=sInt ((s.drop 57).take 4)∧(preX s).2=sInt ((s.drop 16).take 1):=by
 rw[zFR];exact⟨rfl,rfl,rfl⟩
theorem zCA(s:Bs)(e:Int)(he:zAI s=.error e)(hl:s.length≤140737488355328)(h:St W0 w K L):
   Calls Tryz.prog 66 #[.string (bb s)] w fun en w'=>en=.returned (.tuple #[.slice none 0 0,.int .i64 e])∧St W0 w' K L:=by
 unfold zAI at he
 by_cases h1:s.length<61
 · rw[if_pos h1]at he
   cases he
   exact zDx s h1 h
 rw[if_neg h1]at he;obtain⟨g1,g2,g3⟩:=zFQ s;rw[g1,g2,g3]at he;have h4:=(zBz ((s.drop 17).take 4) (by rw[List.length_take];omega)).1;have h44:=(zBz ((s.drop 17).take 4) (by rw[List.length_take];omega));refine zDy s (sInt ((s.drop 0).take 8)) (sInt ((s.drop 8).take 4)) (sInt ((s.drop 12).take 4)) (sInt ((s.drop 16).take 1)) (sInt ((s.drop 17).take 4)) (sInt ((s.drop 21).take 2)) (sInt ((s.drop 23).take 4)) (sInt ((s.drop 27).take 8)) (sInt ((s.drop 35).take 8)) (sInt ((s.drop 43).take 8)) (sInt ((s.drop 51).take 2)) (sInt ((s.drop 53).take 4)) (sInt ((s.drop 57).take 4)) rfl rfl rfl rfl rfl rfl rfl rfl rfl rfl rfl rfl rfl (by omega) hl h4 (sInt ((s.drop 17).take 4) % 4294967296) (by omega) _ ?_ h
 by_cases hm:sInt ((s.drop 16).take 1)=2
 · rw[if_pos hm]at he
   by_cases hq:sInt ((s.drop 8).take 4)<49
   · rw[if_pos hq]at he
     cases he
     exact .inr (.inl ⟨by simpa using hm,hq,fun _ h=>⟨rfl,h⟩⟩)
   · rw[if_neg hq]at he
     by_cases hc:sInt ((s.drop 57).take 4)<0
     · rw[if_pos hc]at he
       cases he
       exact .inr (.inr (.inl ⟨by simpa using hm,hq,hc,fun _ h=>⟨rfl,h⟩⟩))
     · rw[if_neg hc]at he
       cases he
 · rw[if_neg hm]at he
   cases he
   exact .inl ⟨by simpa using hm,fun _ h=>⟨rfl,h⟩⟩
theorem zAO(s:Bs)(x:PreS)(he:zAI s=.ok x)(hl:s.length≤140737488355328)(h:St W0 w K L):
  Calls Tryz.prog 66 #[.string (bb s)] w fun en w'=>∃bl,en=.returned (.tuple #[.slice (some ⟨bl,0,none⟩) 12 12,.int .i64 0])∧St W0 w' K (.raw bl #[.int .i64 x.base,.int .i64 x.len,.int .i64 x.leader,.int .i64 x.sum,.int .i64 x.attr,.int .i64 x.last,.int .i64 x.first,.int .i64 x.maxt,.int .i64 x.prod,.int .i64 x.epoch,.int .i64 x.seq,.int .i64 x.count] 3::L):=by
 obtain⟨h1,hx,h2,h3,h5⟩:=zBE he;obtain⟨g1,g2,g3⟩:=zFQ s;subst hx;rw[g3]at h2;rw[g1]at h3;rw[g2]at h5;have h4:=(zBz ((s.drop 17).take 4) (by rw[List.length_take];omega));rw[zFR];simp only;exact zDy s (sInt ((s.drop 0).take 8)) (sInt ((s.drop 8).take 4)) (sInt ((s.drop 12).take 4)) (sInt ((s.drop 16).take 1)) (sInt ((s.drop 17).take 4)) (sInt ((s.drop 21).take 2)) (sInt ((s.drop 23).take 4)) (sInt ((s.drop 27).take 8)) (sInt ((s.drop 35).take 8)) (sInt ((s.drop 43).take 8)) (sInt ((s.drop 51).take 2)) (sInt ((s.drop 53).take 4)) (sInt ((s.drop 57).take 4)) rfl rfl rfl rfl rfl rfl rfl rfl rfl rfl rfl rfl rfl (by omega) hl h4.1 (sInt ((s.drop 17).take 4) % 4294967296) (by omega) _ (.inr (.inr (.inr ⟨by simpa using h2,by omega,by omega,fun bl _ h=>⟨bl,rfl,h⟩⟩))) h
set_option maxHeartbeats 4000000
variable {W0 w:World}{K:Know}{L:List Res}
theorem zLt(s:Bs)(hs:s.length≤1000000)(e:Int)(hp:zAI s=.error e)(h:St W0 w K L):
  Calls Tryz.prog 67 #[.string (bb s)] w fun en w'=>en=.returned (.agg #[.int .i64 0,.int .i64 0,.bool false,.bool false,.bool false,.int .i64 0,.int .i64 0,.int .i64 0,.int .i64 0,.int .i64 0,.int .i64 0,.slice none 0 0,.int .i64 0,.int .i64 e])∧St W0 w' K L:=by
 obtain⟨rb,hrb⟩:∃b,w.heap.size=b:=⟨_,rfl⟩;have g1:=h.allocRaw #[.int .i64 0,.int .i64 0,.bool false,.bool false,.bool false,.int .i64 0,.int .i64 0,.int .i64 0,.int .i64 0,.int .i64 0,.int .i64 0,.slice none 0 0,.int .i64 0,.int .i64 0] 105;rw[hrb]at g1;obtain⟨z0,z1,z2,z3,z4,z5,z6,z7,z8,z9,z10,z11,z12,z13,zf0,zf1,zf2,zf3,zf4,zf5,zf6,zf7,zf8,zf9,zf10,zf11,zf12,zf13⟩:=zBj (b:=rb) (g1);have H:=hQd g1;have HL:=hQd (show s.length≤140737488355328 by omega);have HP:=hQd hp;have g0:=zCJ hp;have g1e:(e==0)=false:=by rw[beq_eq_false_iff_ne];exact g0
 have g2e:(e !=0)=true:=by simp[bne,g1e]
 clear g0;clear h g1 hp hs;go_enter Tryz.func67,Tryz.ntmps67
 go_wp2_with (first
  |(go_at_call 66;clear z0 zf0 z1 zf1 z2 zf2 z3 zf3 z4 zf4 z5 zf5 z6 zf6 z7 zf7 z8 zf8 z9 zf9 z10 zf10 z11 zf11 z12 zf12 z13 zf13;(with_reducible refine(zCA s e HP.out HL.out H.out).mono ?_);rintro e_ wn ⟨rfl,h⟩;obtain⟨z0,z1,z2,z3,z4,z5,z6,z7,z8,z9,z10,z11,z12,z13,zf0,zf1,zf2,zf3,zf4,zf5,zf6,zf7,zf8,zf9,zf10,zf11,zf12,zf13⟩:=zBj (b:=rb) (h);replace H:=hQd h;clear h)
  |(go_at_call 96;clear z0 zf0 z1 zf1 z2 zf2 z3 zf3 z4 zf4 z5 zf5 z6 zf6 z7 zf7 z8 zf8 z9 zf9 z10 zf10 z11 zf11 z12 zf12 z13 zf13;(with_reducible refine(zA3 e H.out).mono ?_);rintro e_ wn ⟨rfl,h⟩;obtain⟨z0,z1,z2,z3,z4,z5,z6,z7,z8,z9,z10,z11,z12,z13,zf0,zf1,zf2,zf3,zf4,zf5,zf6,zf7,zf8,zf9,zf10,zf11,zf12,zf13⟩:=zBj (b:=rb) (h);replace H:=hQd h;clear h))
 have hz:St W0 _ _ (.raw rb #[.int .i64 0,.int .i64 0,.bool false,.bool false,.bool false,.int .i64 0,.int .i64 0,.int .i64 0,.int .i64 0,.int .i64 0,.int .i64 0,.slice none 0 0,.int .i64 0,.int .i64 e] 105::_):=St.sets14 _ _ _ _ _ _ _ _ _ _ _ _ _ _ (H.out);refine bodyPost_ret (zAl rfl _ _ rb [.int .i64 0,.int .i64 0,.bool false,.bool false,.bool false,.int .i64 0,.int .i64 0,.int .i64 0,.int .i64 0,.int .i64 0,.int .i64 0,.slice none 0 0,.int .i64 0,.int .i64 e] _ rfl (zAp hz) Tryz.underlying105 rfl (by kernel_rfl)) rfl ?_;exact⟨rfl,hz.drop⟩
theorem zMN(s:Bs)(hs:s.length≤1000000)(x:PreS)(hp:zAI s=.ok x)(nn:Nat)(hnn:61+(x.len - 49).toNat=nn)(hlt:s.length<nn)(h:St W0 w K L):
  Calls Tryz.prog 67 #[.string (bb s)] w fun en w'=>en=.returned (.agg #[.int .i64 0,.int .i64 0,.bool false,.bool false,.bool false,.int .i64 0,.int .i64 0,.int .i64 0,.int .i64 0,.int .i64 0,.int .i64 0,.slice none 0 0,.int .i64 0,.int .i64 1])∧St W0 w' K L:=by
 obtain⟨rb,hrb⟩:∃b,w.heap.size=b:=⟨_,rfl⟩;have g1:=h.allocRaw #[.int .i64 0,.int .i64 0,.bool false,.bool false,.bool false,.int .i64 0,.int .i64 0,.int .i64 0,.int .i64 0,.int .i64 0,.int .i64 0,.slice none 0 0,.int .i64 0,.int .i64 0] 105;rw[hrb]at g1;obtain⟨z0,z1,z2,z3,z4,z5,z6,z7,z8,z9,z10,z11,z12,z13,zf0,zf1,zf2,zf3,zf4,zf5,zf6,zf7,zf8,zf9,zf10,zf11,zf12,zf13⟩:=zBj (b:=rb) (g1);have H:=hQd g1;have HL:=hQd (show s.length≤140737488355328 by omega);have HP:=hQd hp;obtain⟨r1,r2,r3,r4,r5,r6⟩:=zBs hp;have hln:x.len+12=(nn:Int):=by omega
 have hsl:(s.length:Int)≤1000000:=by omega
 have g9:(s.length:Int)<(nn:Int):=by omega
 clear h g1 hp hs hnn hlt r3 r4 r5 r6;go_enter Tryz.func67,Tryz.ntmps67
 go_wp2_with (first
  |(go_at_call 66;clear z0 zf0 z1 zf1 z2 zf2 z3 zf3 z4 zf4 z5 zf5 z6 zf6 z7 zf7 z8 zf8 z9 zf9 z10 zf10 z11 zf11 z12 zf12 z13 zf13;(with_reducible refine(zAO s x HP.out HL.out H.out).mono ?_);rintro e_ wn ⟨bl,rfl,h⟩;have p0:=h.rawCell 0;have p1:=h.rawCell 1;have p2:=h.rawCell 2;have p3:=h.rawCell 3;have p4:=h.rawCell 4;have p5:=h.rawCell 5;have p6:=h.rawCell 6;have p7:=h.rawCell 7;have p8:=h.rawCell 8;have p9:=h.rawCell 9;have p10:=h.rawCell 10;have p11:=h.rawCell 11;simp at p0 p1 p2 p3 p4 p5 p6 p7 p8 p9 p10 p11;obtain⟨z0,z1,z2,z3,z4,z5,z6,z7,z8,z9,z10,z11,z12,z13,zf0,zf1,zf2,zf3,zf4,zf5,zf6,zf7,zf8,zf9,zf10,zf11,zf12,zf13⟩:=zBj (b:=rb) (h.p1);replace H:=hQd h;clear h)
  |(go_at_call 96;clear z0 zf0 z1 zf1 z2 zf2 z3 zf3 z4 zf4 z5 zf5 z6 zf6 z7 zf7 z8 zf8 z9 zf9 z10 zf10 z11 zf11 z12 zf12 z13 zf13;clear p0 p1 p2 p3 p4 p5 p6 p7 p8 p9 p10 p11;(with_reducible refine(zA3 1 H.out).mono ?_);rintro e_ wn ⟨rfl,h⟩;obtain⟨z0,z1,z2,z3,z4,z5,z6,z7,z8,z9,z10,z11,z12,z13,zf0,zf1,zf2,zf3,zf4,zf5,zf6,zf7,zf8,zf9,zf10,zf11,zf12,zf13⟩:=zBj (b:=rb) (h.p1);replace H:=hQd h;clear h))
 have hz:St W0 _ _ (.raw rb #[.int .i64 0,.int .i64 0,.bool false,.bool false,.bool false,.int .i64 0,.int .i64 0,.int .i64 0,.int .i64 0,.int .i64 0,.int .i64 0,.slice none 0 0,.int .i64 0,.int .i64 1] 105::_):=St.sets14 _ _ _ _ _ _ _ _ _ _ _ _ _ _ (H.out.p1);refine bodyPost_ret (zAl rfl _ _ rb [.int .i64 0,.int .i64 0,.bool false,.bool false,.bool false,.int .i64 0,.int .i64 0,.int .i64 0,.int .i64 0,.int .i64 0,.int .i64 0,.slice none 0 0,.int .i64 0,.int .i64 1] _ rfl (zAp hz) Tryz.underlying105 rfl (by kernel_rfl)) rfl ?_;exact⟨rfl,hz.drop.drop⟩
theorem zPB(s:Bs)(hs:s.length≤1000000)(x:PreS)(hp:zAI s=.ok x)(nn:Nat)(hnn:61+(x.len - 49).toNat=nn)(hge0:nn≤s.length)(sd:Bs)(hsd:(s.drop 21).take (nn - 21)=sd)(X:Nat)(hX:(zAq 0#32 sd).toNat=X)(hne:(X:Int)≠x.sum){W0 w:World}{K:Know}{L:List Res}(h:St W0 w K L):
  Calls Tryz.prog 67 #[.string (bb s)] w fun en w'=>en=.returned (.agg #[.int .i64 0,.int .i64 0,.bool false,.bool false,.bool false,.int .i64 0,.int .i64 0,.int .i64 0,.int .i64 0,.int .i64 0,.int .i64 0,.slice none 0 0,.int .i64 0,.int .i64 5])∧St W0 w' K L:=by
 obtain⟨rb,hrb⟩:∃b,w.heap.size=b:=⟨_,rfl⟩;have g1:=h.allocRaw #[.int .i64 0,.int .i64 0,.bool false,.bool false,.bool false,.int .i64 0,.int .i64 0,.int .i64 0,.int .i64 0,.int .i64 0,.int .i64 0,.slice none 0 0,.int .i64 0,.int .i64 0] 105;rw[hrb]at g1;obtain⟨z0,z1,z2,z3,z4,z5,z6,z7,z8,z9,z10,z11,z12,z13,zf0,zf1,zf2,zf3,zf4,zf5,zf6,zf7,zf8,zf9,zf10,zf11,zf12,zf13⟩:=zBj (b:=rb) (g1);have H:=hQd g1;have HL:=hQd (show s.length≤140737488355328 by omega);have HP:=hQd hp;obtain⟨r1,r2,r3,r4,r5,r6⟩:=zBs hp;have hln:x.len+12=(nn:Int):=by omega
 have hsl:(s.length:Int)≤1000000:=by omega
 have HSD:=hQd hsd;have HX:=hQd hX;have HSL:=hQd (show sd.length≤1000000 by rw[←hsd,List.length_take,List.length_drop];omega);have hX4:(X:Int)<4294967296:=by rw[←hX];have:=(zAq 0#32 sd).isLt;omega
 have hwX:IntKind.i64.wrap (X:Int)=(X:Int):=by rw[IntKind.wrap_i64];omega
 clear hX4;have hge:(nn:Int)≤(s.length:Int):=by omega
 have h21:(21:Int)≤(nn:Int):=by omega
 have h61:(61:Int)≤(nn:Int):=by omega
 have hg9:¬(s.length:Int)<(nn:Int):=by omega
 have g5:((X:Int)==x.sum)=false:=by rw[beq_eq_false_iff_ne];exact hne
 have g6:((X:Int) !=x.sum)=true:=by simp[bne,g5]
 clear h g1 hp hs hnn r3 r4 r5 r6 hsd hX hge0 hne;go_enter Tryz.func67,Tryz.ntmps67
 go_upto_region 7 with (first
  |(go_at_call 66;clear z0 zf0 z1 zf1 z2 zf2 z3 zf3 z4 zf4 z5 zf5 z6 zf6 z7 zf7 z8 zf8 z9 zf9 z10 zf10 z11 zf11 z12 zf12 z13 zf13;(with_reducible refine(zAO s x HP.out HL.out H.out).mono ?_);rintro e_ wn ⟨bl,rfl,h⟩;have p0:=h.rawCell 0;have p1:=h.rawCell 1;have p2:=h.rawCell 2;have p3:=h.rawCell 3;have p4:=h.rawCell 4;have p5:=h.rawCell 5;have p6:=h.rawCell 6;have p7:=h.rawCell 7;have p8:=h.rawCell 8;have p9:=h.rawCell 9;have p10:=h.rawCell 10;have p11:=h.rawCell 11;simp at p0 p1 p2 p3 p4 p5 p6 p7 p8 p9 p10 p11;obtain⟨z0,z1,z2,z3,z4,z5,z6,z7,z8,z9,z10,z11,z12,z13,zf0,zf1,zf2,zf3,zf4,zf5,zf6,zf7,zf8,zf9,zf10,zf11,zf12,zf13⟩:=zBj (b:=rb) (h.p1);replace H:=hQd h;clear h))
 clear z0 zf0 z1 zf1 z2 zf2 z3 zf3 z4 zf4 z5 zf5 z6 zf6 z7 zf7 z8 zf8 z9 zf9 z10 zf10 z11 zf11 z12 zf12 z13 zf13;clear p0 p1 p2 p3 p4 p5 p6 p7 p8 p9 p10 p11;have hs:=H.out.drew;refine wp_region_held_drew (S:=fun w'=>w'.cell? ⟨bl,0,none⟩=some (.int .i64 x.base)∧w'.cell? ⟨bl,1,none⟩=some (.int .i64 x.len)∧w'.cell? ⟨bl,2,none⟩=some (.int .i64 x.leader)∧w'.cell? ⟨bl,3,none⟩=some (.int .i64 x.sum)∧w'.cell? ⟨bl,4,none⟩=some (.int .i64 x.attr)∧w'.cell? ⟨bl,5,none⟩=some (.int .i64 x.last)∧w'.cell? ⟨bl,6,none⟩=some (.int .i64 x.first)∧w'.cell? ⟨bl,7,none⟩=some (.int .i64 x.maxt)∧w'.cell? ⟨bl,8,none⟩=some (.int .i64 x.prod)∧w'.cell? ⟨bl,9,none⟩=some (.int .i64 x.epoch)∧w'.cell? ⟨bl,10,none⟩=some (.int .i64 x.seq)∧w'.cell? ⟨bl,11,none⟩=some (.int .i64 x.count)) (by kernel_rfl) (⟨hs.rawCell 0,hs.rawCell 1,hs.rawCell 2,hs.rawCell 3,hs.rawCell 4,hs.rawCell 5,hs.rawCell 6,hs.rawCell 7,hs.rawCell 8,hs.rawCell 9,hs.rawCell 10,hs.rawCell 11⟩) (fun hHeld=> ?_);refine tQ 0 ⟨some 30,.move (.tmp 0),9,_,_,none⟩ ?_;simp only[Act.put,sA,sB,sC];refine tQ 1 ⟨some 31,.move (.tmp 5),3,_,_,none⟩ ?_;simp only[Act.put,sA,sB,sC];refine tQ 2 ⟨some 32,.slice 9 (.tmp 30) (some (.const (Value.int IntKind.i64 21))) (some (.tmp 31)) none,9,_,_,none⟩ ?_;simp only[Act.put,sA,sB,sC];refine tQ 5 ⟨some 35,.move (.tmp 3),23,_,_,none⟩ ?_;simp only[Act.put,sA,sB,sC];refine tQ 6 ⟨some 36,.indexAddr 23 (.tmp 35) (.const (Value.int IntKind.i64 3)),0,_,_,none⟩ ?_;simp only[Act.put,sA,sB,sC];refine tQ 7 ⟨some 37,.load 3 (.tmp 36),3,_,_,none⟩ ?_;simp only[Act.put,sA,sB,sC];refine wpAnyH_ready (rs:=[3]) (by kernel_rfl) (by simp) (AllReadyH.cons (o:=⟨some 33,.call {callee:=.value (.func 31),args:= #[.tmp 32],argTypes:= #[9]},60,_,_,none⟩) rfl (fun KK hK=> ?_) AllReadyH.nil);go_simp
 (try rw[HSD.out])
 go_at_call 31;(with_reducible refine(zEe sd HSL.out X HX.out hs).mono ?_);rintro e wq ⟨rfl,hs⟩;refine hK.out _ _ (⟨hs.rawCell 0,hs.rawCell 1,hs.rawCell 2,hs.rawCell 3,hs.rawCell 4,hs.rawCell 5,hs.rawCell 6,hs.rawCell 7,hs.rawCell 8,hs.rawCell 9,hs.rawCell 10,hs.rawCell 11⟩) (fun hHeld=> ?_);clear hK KK
 try simp only[Act.put,sA,sB,sC]
 refine tQ 4 ⟨some 34,.convert 60 3 (.tmp 33),3,_,_,none⟩ ?_;simp only[Act.put,sA,sB,sC];refine tQ 8 ⟨some 38,.binOp .neq 3 (.tmp 34) (.tmp 37) 3,4,_,_,none⟩ ?_;simp only[Act.put,sA,sB,sC];refine wpAnyH_done (by kernel_rfl) ?_ _;clear hHeld;have H:=hQd hs;clear hs;have p0:=H.out.rawCell 0;have p1:=H.out.rawCell 1;have p2:=H.out.rawCell 2;have p3:=H.out.rawCell 3;have p4:=H.out.rawCell 4;have p5:=H.out.rawCell 5;have p6:=H.out.rawCell 6;have p7:=H.out.rawCell 7;have p8:=H.out.rawCell 8;have p9:=H.out.rawCell 9;have p10:=H.out.rawCell 10;have p11:=H.out.rawCell 11;simp at p0 p1 p2 p3 p4 p5 p6 p7 p8 p9 p10 p11;obtain⟨z0,z1,z2,z3,z4,z5,z6,z7,z8,z9,z10,z11,z12,z13,zf0,zf1,zf2,zf3,zf4,zf5,zf6,zf7,zf8,zf9,zf10,zf11,zf12,zf13⟩:=zBj (b:=rb) (H.out.p1);go_wp2_with (go_at_call 96;clear z0 zf0 z1 zf1 z2 zf2 z3 zf3 z4 zf4 z5 zf5 z6 zf6 z7 zf7 z8 zf8 z9 zf9 z10 zf10 z11 zf11 z12 zf12 z13 zf13;clear p0 p1 p2 p3 p4 p5 p6 p7 p8 p9 p10 p11;(with_reducible refine(zA3 5 H.out).mono ?_);rintro e_ wn ⟨rfl,h⟩;obtain⟨z0,z1,z2,z3,z4,z5,z6,z7,z8,z9,z10,z11,z12,z13,zf0,zf1,zf2,zf3,zf4,zf5,zf6,zf7,zf8,zf9,zf10,zf11,zf12,zf13⟩:=zBj (b:=rb) (h.p1);replace H:=hQd h;clear h);have hz:St W0 _ _ (.raw rb #[.int .i64 0,.int .i64 0,.bool false,.bool false,.bool false,.int .i64 0,.int .i64 0,.int .i64 0,.int .i64 0,.int .i64 0,.int .i64 0,.slice none 0 0,.int .i64 0,.int .i64 5] 105::_):=St.sets14 _ _ _ _ _ _ _ _ _ _ _ _ _ _ (H.out.p1);refine bodyPost_ret (zAl rfl _ _ rb [.int .i64 0,.int .i64 0,.bool false,.bool false,.bool false,.int .i64 0,.int .i64 0,.int .i64 0,.int .i64 0,.int .i64 0,.int .i64 0,.slice none 0 0,.int .i64 0,.int .i64 5] _ rfl (zAp hz) Tryz.underlying105 rfl (by kernel_rfl)) rfl ?_;exact⟨rfl,hz.drop.drop⟩
set_option maxHeartbeats 8000000
theorem zNL{a:Int}(h:a<0∨63<a∨(32≤a∧a % 32<16)):decide (a<0)=true∨(decide (a<0)=false∧decide (63<a)=true)∨(decide (a<0)=false∧decide (63<a)=false∧decide (32≤a)=true∧decide (a % 32<16)=true∧decide (a.tmod 32<16)=true∧0≤a):=by
 by_cases n0:a<0
 · exact .inl (decide_eq_true n0)
 · by_cases n1:63<a
   · exact .inr (.inl ⟨decide_eq_false n0,decide_eq_true n1⟩)
   · have h2:32≤a∧a % 32<16:=by omega
     exact .inr (.inr ⟨decide_eq_false n0,decide_eq_false n1,decide_eq_true h2.1,decide_eq_true h2.2,decide_eq_true (by rw[Int.tmod_eq_emod_of_nonneg (by omega)];exact h2.2),by omega⟩)
theorem zq6{p:Prop}(h:p:=by
  have hs:=H.out.drew;refine wp_region_held_drew (S:=fun w'=>w'.cell? ⟨bl,0,none⟩=some (.int .i64 x.base)∧w'.cell? ⟨bl,1,none⟩=some (.int .i64 x.len)∧w'.cell? ⟨bl,2,none⟩=some (.int .i64 x.leader)∧w'.cell? ⟨bl,3,none⟩=some (.int .i64 x.sum)∧w'.cell? ⟨bl,4,none⟩=some (.int .i64 x.attr)∧w'.cell? ⟨bl,5,none⟩=some (.int .i64 x.last)∧w'.cell? ⟨bl,6,none⟩=some (.int .i64 x.first)∧w'.cell? ⟨bl,7,none⟩=some (.int .i64 x.maxt)∧w'.cell? ⟨bl,8,none⟩=some (.int .i64 x.prod)∧w'.cell? ⟨bl,9,none⟩=some (.int .i64 x.epoch)∧w'.cell? ⟨bl,10,none⟩=some (.int .i64 x.seq)∧w'.cell? ⟨bl,11,none⟩=some (.int .i64 x.count)) (by kernel_rfl) (⟨hs.rawCell 0,hs.rawCell 1,hs.rawCell 2,hs.rawCell 3,hs.rawCell 4,hs.rawCell 5,hs.rawCell 6,hs.rawCell 7,hs.rawCell 8,hs.rawCell 9,hs.rawCell 10,hs.rawCell 11⟩) (fun hHeld=> ?_);refine tQ 0 ⟨some 30,.move (.tmp 0),9,_,_,none⟩ ?_;simp only[Act.put,sA,sB,sC];refine tQ 1 ⟨some 31,.move (.tmp 5),3,_,_,none⟩ ?_;simp only[Act.put,sA,sB,sC];refine tQ 2 ⟨some 32,.slice 9 (.tmp 30) (some (.const (Value.int IntKind.i64 21))) (some (.tmp 31)) none,9,_,_,none⟩ ?_;simp only[Act.put,sA,sB,sC];refine tQ 5 ⟨some 35,.move (.tmp 3),23,_,_,none⟩ ?_;simp only[Act.put,sA,sB,sC];refine tQ 6 ⟨some 36,.indexAddr 23 (.tmp 35) (.const (Value.int IntKind.i64 3)),0,_,_,none⟩ ?_;simp only[Act.put,sA,sB,sC];refine tQ 7 ⟨some 37,.load 3 (.tmp 36),3,_,_,none⟩ ?_;simp only[Act.put,sA,sB,sC];refine wpAnyH_ready (rs:=[3]) (by kernel_rfl) (by simp) (AllReadyH.cons (o:=⟨some 33,.call {callee:=.value (.func 31),args:= #[.tmp 32],argTypes:= #[9]},60,_,_,none⟩) rfl (fun KK hK=> ?_) AllReadyH.nil);go_simp
  (try rw[HSD.out])
  go_at_call 31;(with_reducible refine(zEe sd HSL.out X HX.out hs).mono ?_);rintro e wq ⟨rfl,hs⟩;refine hK.out _ _ (⟨hs.rawCell 0,hs.rawCell 1,hs.rawCell 2,hs.rawCell 3,hs.rawCell 4,hs.rawCell 5,hs.rawCell 6,hs.rawCell 7,hs.rawCell 8,hs.rawCell 9,hs.rawCell 10,hs.rawCell 11⟩) (fun hHeld=> ?_);clear hK KK
  try simp only[Act.put,sA,sB,sC]
  refine tQ 4 ⟨some 34,.convert 60 3 (.tmp 33),3,_,_,none⟩ ?_;simp only[Act.put,sA,sB,sC];refine tQ 8 ⟨some 38,.binOp .neq 3 (.tmp 34) (.tmp 37) 3,4,_,_,none⟩ ?_;simp only[Act.put,sA,sB,sC];refine wpAnyH_done (by kernel_rfl) ?_ _;clear hHeld;go_wp2_with fail;go_meet;exact⟨rfl,hs⟩):p:=h
theorem zKN(s:Bs)(hs:s.length≤1000000)(x:PreS)(hp:zAI s=.ok x)(nn:Nat)(hnn:61+(x.len - 49).toNat=nn)(hge0:nn≤s.length)(sd:Bs)(hsd:(s.drop 21).take (nn - 21)=sd)(X:Nat)(hX:(zAq 0#32 sd).toNat=X)(heq:(X:Int)=x.sum)(e:Int)(hw:(¬x.attr % 8=0∧e=9)∨(x.attr % 8=0∧e=8∧(x.attr<0∨63<x.attr∨(32≤x.attr∧x.attr % 32<16)))){W0 w:World}{K:Know}{L:List Res}(h:St W0 w K L):
   Calls Tryz.prog 67 #[.string (bb s)] w fun en w'=>en=.returned (.agg #[.int .i64 0,.int .i64 0,.bool false,.bool false,.bool false,.int .i64 0,.int .i64 0,.int .i64 0,.int .i64 0,.int .i64 0,.int .i64 0,.slice none 0 0,.int .i64 0,.int .i64 e])∧St W0 w' K L:=by
 obtain⟨rb,hrb⟩:∃b,w.heap.size=b:=⟨_,rfl⟩;have g1:=h.allocRaw #[.int .i64 0,.int .i64 0,.bool false,.bool false,.bool false,.int .i64 0,.int .i64 0,.int .i64 0,.int .i64 0,.int .i64 0,.int .i64 0,.slice none 0 0,.int .i64 0,.int .i64 0] 105;rw[hrb]at g1;obtain⟨z0,z1,z2,z3,z4,z5,z6,z7,z8,z9,z10,z11,z12,z13,zf0,zf1,zf2,zf3,zf4,zf5,zf6,zf7,zf8,zf9,zf10,zf11,zf12,zf13⟩:=zBj (b:=rb) (g1);have H:=hQd g1;have HL:=hQd (show s.length≤140737488355328 by omega);have HP:=hQd hp;obtain⟨r1,r2,r3,r4,r5,r6⟩:=zBs hp;have hln:x.len+12=(nn:Int):=by omega
 have hsl:(s.length:Int)≤1000000:=by omega
 have HSD:=hQd hsd;have HX:=hQd hX;have HSL:=hQd (show sd.length≤1000000 by rw[←hsd,List.length_take,List.length_drop];omega);have hX4:(X:Int)<4294967296:=by rw[←hX];have:=(zAq 0#32 sd).isLt;omega
 have hwX:IntKind.i64.wrap (X:Int)=(X:Int):=by rw[IntKind.wrap_i64];omega
 clear hX4;have hge:(nn:Int)≤(s.length:Int):=by omega
 have h21:(21:Int)≤(nn:Int):=by omega
 have h61:(61:Int)≤(nn:Int):=by omega
 have hg9:¬(s.length:Int)<(nn:Int):=by omega
 have g5:((X:Int)==x.sum)=true:=by rw[heq];exact beq_self_eq_true _
 have g6:((X:Int) !=x.sum)=false:=by simp[bne,g5]
 obtain⟨c0,c1,hb2,hc1⟩:=zH6 x.attr;have HB2:=hQd hb2;have HA:=hQd (show -9223372036854775808≤x.attr∧x.attr<9223372036854775808 from r3);have HC1:=hQd hc1;have HW:=hQd hw;clear hc1 hw;clear h g1 hp hs hnn r3 r4 r5 r6 hsd hX hge0 heq hb2;go_enter Tryz.func67,Tryz.ntmps67
 go_upto_region 7 with (first
   |(go_at_call 66;clear z0 zf0 z1 zf1 z2 zf2 z3 zf3 z4 zf4 z5 zf5 z6 zf6 z7 zf7 z8 zf8 z9 zf9 z10 zf10 z11 zf11 z12 zf12 z13 zf13;(with_reducible refine(zAO s x HP.out HL.out H.out).mono ?_);rintro e_ wn ⟨bl,rfl,h⟩;have p0:=h.rawCell 0;have p1:=h.rawCell 1;have p2:=h.rawCell 2;have p3:=h.rawCell 3;have p4:=h.rawCell 4;have p5:=h.rawCell 5;have p6:=h.rawCell 6;have p7:=h.rawCell 7;have p8:=h.rawCell 8;have p9:=h.rawCell 9;have p10:=h.rawCell 10;have p11:=h.rawCell 11;simp at p0 p1 p2 p3 p4 p5 p6 p7 p8 p9 p10 p11;obtain⟨z0,z1,z2,z3,z4,z5,z6,z7,z8,z9,z10,z11,z12,z13,zf0,zf1,zf2,zf3,zf4,zf5,zf6,zf7,zf8,zf9,zf10,zf11,zf12,zf13⟩:=zBj (b:=rb) (h.p1);replace H:=hQd h;clear h))
 clear z0 zf0 z1 zf1 z2 zf2 z3 zf3 z4 zf4 z5 zf5 z6 zf6 z7 zf7 z8 zf8 z9 zf9 z10 zf10 z11 zf11 z12 zf12 z13 zf13;clear p0 p1 p2 p3 p4 p5 p6 p7 p8 p9 p10 p11;go_cut [38] (fun s38 wx=>s38=.bool false∧St W0 wx K (.raw bl #[.int .i64 x.base,.int .i64 x.len,.int .i64 x.leader,.int .i64 x.sum,.int .i64 x.attr,.int .i64 x.last,.int .i64 x.first,.int .i64 x.maxt,.int .i64 x.prod,.int .i64 x.epoch,.int .i64 x.seq,.int .i64 x.count] 3::.raw rb #[.int .i64 0,.int .i64 0,.bool false,.bool false,.bool false,.int .i64 0,.int .i64 0,.int .i64 0,.int .i64 0,.int .i64 0,.int .i64 0,.slice none 0 0,.int .i64 0,.int .i64 0] 105::L))
 case first=>
   exact zq6
 obtain⟨rfl,h⟩:=hcut;clear H;have p0:=h.rawCell 0;have p1:=h.rawCell 1;have p2:=h.rawCell 2;have p3:=h.rawCell 3;have p4:=h.rawCell 4;have p5:=h.rawCell 5;have p6:=h.rawCell 6;have p7:=h.rawCell 7;have p8:=h.rawCell 8;have p9:=h.rawCell 9;have p10:=h.rawCell 10;have p11:=h.rawCell 11;simp at p0 p1 p2 p3 p4 p5 p6 p7 p8 p9 p10 p11;obtain⟨z0,z1,z2,z3,z4,z5,z6,z7,z8,z9,z10,z11,z12,z13,zf0,zf1,zf2,zf3,zf4,zf5,zf6,zf7,zf8,zf9,zf10,zf11,zf12,zf13⟩:=zBj (b:=rb) (h.p1);have H:=hQd h;clear h;have hc1:=HC1.out
 rcases HW.out with ⟨h8,rfl⟩|⟨h8,rfl,hr⟩
 · skip
   have hc8:¬(c1.toNat:Int) % 8=0:=by rw[hc1];omega
   have e9:(((([c0,c1]:List UInt8)[1]'(by simp)).toNat:Int) % 8 !=0)=true:=by show((c1.toNat:Int) % 8 !=0)=true;simp[bne,hc8]
   have e8:(((([c0,c1]:List UInt8)[1]'(by simp)).toNat:Int) % 8==0)=false:=by show((c1.toNat:Int) % 8==0)=false;simp[hc8]
   clear hc8 hc1;clear h8 HW
   go_wp2_with (first
   |(go_at_call 62;clear z0 zf0 z1 zf1 z2 zf2 z3 zf3 z4 zf4 z5 zf5 z6 zf6 z7 zf7 z8 zf8 z9 zf9 z10 zf10 z11 zf11 z12 zf12 z13 zf13;clear p0 p1 p2 p3 p4 p5 p6 p7 p8 p9 p10 p11;(with_reducible refine(zD4 x.attr HA.out c0 c1 HB2.out H.out).mono ?_);rintro e_ wn ⟨rfl,h⟩;have p0:=h.rawCell 0;have p1:=h.rawCell 1;have p2:=h.rawCell 2;have p3:=h.rawCell 3;have p4:=h.rawCell 4;have p5:=h.rawCell 5;have p6:=h.rawCell 6;have p7:=h.rawCell 7;have p8:=h.rawCell 8;have p9:=h.rawCell 9;have p10:=h.rawCell 10;have p11:=h.rawCell 11;simp at p0 p1 p2 p3 p4 p5 p6 p7 p8 p9 p10 p11;obtain⟨z0,z1,z2,z3,z4,z5,z6,z7,z8,z9,z10,z11,z12,z13,zf0,zf1,zf2,zf3,zf4,zf5,zf6,zf7,zf8,zf9,zf10,zf11,zf12,zf13⟩:=zBj (b:=rb) (h.p1);replace H:=hQd h;clear h)
   |(go_at_call 96;clear z0 zf0 z1 zf1 z2 zf2 z3 zf3 z4 zf4 z5 zf5 z6 zf6 z7 zf7 z8 zf8 z9 zf9 z10 zf10 z11 zf11 z12 zf12 z13 zf13;clear p0 p1 p2 p3 p4 p5 p6 p7 p8 p9 p10 p11;(with_reducible refine(zA3 9 H.out).mono ?_);rintro e_ wn ⟨rfl,h⟩;obtain⟨z0,z1,z2,z3,z4,z5,z6,z7,z8,z9,z10,z11,z12,z13,zf0,zf1,zf2,zf3,zf4,zf5,zf6,zf7,zf8,zf9,zf10,zf11,zf12,zf13⟩:=zBj (b:=rb) (h.p1);replace H:=hQd h;clear h))
   have hz:St W0 _ _ (.raw rb #[.int .i64 0,.int .i64 0,.bool false,.bool false,.bool false,.int .i64 0,.int .i64 0,.int .i64 0,.int .i64 0,.int .i64 0,.int .i64 0,.slice none 0 0,.int .i64 0,.int .i64 9] 105::_):=St.sets14 _ _ _ _ _ _ _ _ _ _ _ _ _ _ (H.out.p1);refine bodyPost_ret (zAl rfl _ _ rb [.int .i64 0,.int .i64 0,.bool false,.bool false,.bool false,.int .i64 0,.int .i64 0,.int .i64 0,.int .i64 0,.int .i64 0,.int .i64 0,.slice none 0 0,.int .i64 0,.int .i64 9] _ rfl (zAp hz) Tryz.underlying105 rfl (by kernel_rfl)) rfl ?_;exact⟨rfl,hz.drop.drop⟩
 · skip
   have hc8:(c1.toNat:Int) % 8=0:=by rw[hc1];omega
   have e9:(((([c0,c1]:List UInt8)[1]'(by simp)).toNat:Int) % 8 !=0)=false:=by show((c1.toNat:Int) % 8 !=0)=false;simp[bne,hc8]
   have e8:(((([c0,c1]:List UInt8)[1]'(by simp)).toNat:Int) % 8==0)=true:=by show((c1.toNat:Int) % 8==0)=true;simp[hc8]
   clear hc8 hc1;clear h8 HW
   rcases zNL hr with d0|⟨d0,d1⟩|⟨d0,d1,d2,d3,d4,ha0⟩<;>clear hr
   all_goals
    go_wp2_with (first
   |(go_at_call 62;clear z0 zf0 z1 zf1 z2 zf2 z3 zf3 z4 zf4 z5 zf5 z6 zf6 z7 zf7 z8 zf8 z9 zf9 z10 zf10 z11 zf11 z12 zf12 z13 zf13;clear p0 p1 p2 p3 p4 p5 p6 p7 p8 p9 p10 p11;(with_reducible refine(zD4 x.attr HA.out c0 c1 HB2.out H.out).mono ?_);rintro e_ wn ⟨rfl,h⟩;have p0:=h.rawCell 0;have p1:=h.rawCell 1;have p2:=h.rawCell 2;have p3:=h.rawCell 3;have p4:=h.rawCell 4;have p5:=h.rawCell 5;have p6:=h.rawCell 6;have p7:=h.rawCell 7;have p8:=h.rawCell 8;have p9:=h.rawCell 9;have p10:=h.rawCell 10;have p11:=h.rawCell 11;simp at p0 p1 p2 p3 p4 p5 p6 p7 p8 p9 p10 p11;obtain⟨z0,z1,z2,z3,z4,z5,z6,z7,z8,z9,z10,z11,z12,z13,zf0,zf1,zf2,zf3,zf4,zf5,zf6,zf7,zf8,zf9,zf10,zf11,zf12,zf13⟩:=zBj (b:=rb) (h.p1);replace H:=hQd h;clear h)
   |(go_at_call 96;clear z0 zf0 z1 zf1 z2 zf2 z3 zf3 z4 zf4 z5 zf5 z6 zf6 z7 zf7 z8 zf8 z9 zf9 z10 zf10 z11 zf11 z12 zf12 z13 zf13;clear p0 p1 p2 p3 p4 p5 p6 p7 p8 p9 p10 p11;(with_reducible refine(zA3 8 H.out).mono ?_);rintro e_ wn ⟨rfl,h⟩;obtain⟨z0,z1,z2,z3,z4,z5,z6,z7,z8,z9,z10,z11,z12,z13,zf0,zf1,zf2,zf3,zf4,zf5,zf6,zf7,zf8,zf9,zf10,zf11,zf12,zf13⟩:=zBj (b:=rb) (h.p1);replace H:=hQd h;clear h))
    have hz:St W0 _ _ (.raw rb #[.int .i64 0,.int .i64 0,.bool false,.bool false,.bool false,.int .i64 0,.int .i64 0,.int .i64 0,.int .i64 0,.int .i64 0,.int .i64 0,.slice none 0 0,.int .i64 0,.int .i64 8] 105::_):=St.sets14 _ _ _ _ _ _ _ _ _ _ _ _ _ _ (H.out.p1);refine bodyPost_ret (zAl rfl _ _ rb [.int .i64 0,.int .i64 0,.bool false,.bool false,.bool false,.int .i64 0,.int .i64 0,.int .i64 0,.int .i64 0,.int .i64 0,.int .i64 0,.slice none 0 0,.int .i64 0,.int .i64 8] _ rfl (zAp hz) Tryz.underlying105 rfl (by kernel_rfl)) rfl ?_;exact⟨rfl,hz.drop.drop⟩
set_option maxHeartbeats 16000000
theorem zHu(s:Bs)(hs:s.length≤1000000)(x:PreS)(hp:zAI s=.ok x)(nn:Nat)(hnn:61+(x.len - 49).toNat=nn)(hge0:nn≤s.length)(sd:Bs)(hsd:(s.drop 21).take (nn - 21)=sd)(X:Nat)(hX:(zAq 0#32 sd).toNat=X)(heq:(X:Int)=x.sum)(h8:x.attr % 8=0)(hn0:¬x.attr<0)(hn1:¬63<x.attr)(hn2:¬(32≤x.attr∧x.attr % 32<16))(n:Nat)(hcn:x.count=(n:Int))(hnb:n≤2147483647)(tot:Except Int (List RecS))(hu:unpT n ((s.drop 61).take (nn - 61))=tot)(hrf:∀rs,tot=.ok rs→rs.length≤1000000∧∀l:List (RecS×Value),l.map (·.1)=rs→FitB l){W0 w:World}{K:Know}{L:List Res}(Q:Ending→World→Prop)(hbad:∀e w',e≠0→(tot=.error e∨∃rs,tot=.ok rs∧zAA ⟨x.base,x.leader,zAf x.attr 3,zAf x.attr 4,zAf x.attr 5,x.last,x.first,x.maxt,x.prod,x.epoch,x.seq,rs⟩=e)→St W0 w' K L→Q (.returned (.agg #[.int .i64 0,.int .i64 0,.bool false,.bool false,.bool false,.int .i64 0,.int .i64 0,.int .i64 0,.int .i64 0,.int .i64 0,.int .i64 0,.slice none 0 0,.int .i64 0,.int .i64 e])) w')(hgood:∀rs q l cap w',tot=.ok rs→zAA ⟨x.base,x.leader,zAf x.attr 3,zAf x.attr 4,zAf x.attr 5,x.last,x.first,x.maxt,x.prod,x.epoch,x.seq,rs⟩=0→l.map (·.1)=rs→St W0 w' (K.and (Know.recs (.slice q l.length cap) l)) L→Q (.returned (.agg #[.int .i64 x.base,.int .i64 x.leader,.bool (zAf x.attr 3),.bool (zAf x.attr 4),.bool (zAf x.attr 5),.int .i64 x.last,.int .i64 x.first,.int .i64 x.maxt,.int .i64 x.prod,.int .i64 x.epoch,.int .i64 x.seq,.slice q l.length cap,.int .i64 nn,.int .i64 0])) w')(h:St W0 w K L):
  Calls Tryz.prog 67 #[.string (bb s)] w Q:=by
 obtain⟨rb,hrb⟩:∃b,w.heap.size=b:=⟨_,rfl⟩;have g1:=h.allocRaw #[.int .i64 0,.int .i64 0,.bool false,.bool false,.bool false,.int .i64 0,.int .i64 0,.int .i64 0,.int .i64 0,.int .i64 0,.int .i64 0,.slice none 0 0,.int .i64 0,.int .i64 0] 105;rw[hrb]at g1;obtain⟨z0,z1,z2,z3,z4,z5,z6,z7,z8,z9,z10,z11,z12,z13,zf0,zf1,zf2,zf3,zf4,zf5,zf6,zf7,zf8,zf9,zf10,zf11,zf12,zf13⟩:=zBj (b:=rb) (g1);have H:=hQd g1;have HL:=hQd (show s.length≤140737488355328 by omega);have HP:=hQd hp;obtain⟨r1,r2,r3,r4,r5,r6⟩:=zBs hp;have hln:x.len+12=(nn:Int):=by omega
 have hsl:(s.length:Int)≤1000000:=by omega
 have HSD:=hQd hsd;have HX:=hQd hX;have HSL:=hQd (show sd.length≤1000000 by rw[←hsd,List.length_take,List.length_drop];omega);have hX4:(X:Int)<4294967296:=by rw[←hX];have:=(zAq 0#32 sd).isLt;omega
 have hwX:IntKind.i64.wrap (X:Int)=(X:Int):=by rw[IntKind.wrap_i64];omega
 clear hX4;have hge:(nn:Int)≤(s.length:Int):=by omega
 have h21:(21:Int)≤(nn:Int):=by omega
 have h61:(61:Int)≤(nn:Int):=by omega
 have hg9:¬(s.length:Int)<(nn:Int):=by omega
 have g5:((X:Int)==x.sum)=true:=by rw[heq];exact beq_self_eq_true _
 have g6:((X:Int) !=x.sum)=false:=by simp[bne,g5]
 obtain⟨c0,c1,hb2,hc1⟩:=zH6 x.attr;have HB2:=hQd hb2;have HA:=hQd (show -9223372036854775808≤x.attr∧x.attr<9223372036854775808 from r3);have hc8:(c1.toNat:Int) % 8=0:=by rw[hc1];omega
 have e9:(((([c0,c1]:List UInt8)[1]'(by simp)).toNat:Int) % 8 !=0)=false:=by show((c1.toNat:Int) % 8 !=0)=false;simp[bne,hc8]
 have e8:(((([c0,c1]:List UInt8)[1]'(by simp)).toNat:Int) % 8==0)=true:=by show((c1.toNat:Int) % 8==0)=true;simp[hc8]
 clear hc8 hc1;have d0:decide (x.attr<0)=false:=decide_eq_false hn0;have d1:decide (63<x.attr)=false:=decide_eq_false hn1;have ha0:0≤x.attr:=by omega
 have ha63:x.attr≤63:=by omega
 have q8:x.attr.tdiv 8=x.attr / 8:=Int.tdiv_eq_ediv_of_nonneg ha0;have q16:x.attr.tdiv 16=x.attr / 16:=Int.tdiv_eq_ediv_of_nonneg ha0;have q32:x.attr.tdiv 32=x.attr / 32:=Int.tdiv_eq_ediv_of_nonneg ha0;have m8:(x.attr / 8).tmod 2=x.attr / 8 % 2:=Int.tmod_eq_emod_of_nonneg (by omega);have m16:(x.attr / 16).tmod 2=x.attr / 16 % 2:=Int.tmod_eq_emod_of_nonneg (by omega);have w8:IntKind.i64.wrap (x.attr / 8)=x.attr / 8:=by rw[IntKind.wrap_i64];omega
 have w16:IntKind.i64.wrap (x.attr / 16)=x.attr / 16:=by rw[IntKind.wrap_i64];omega
 have w32:IntKind.i64.wrap (x.attr / 32)=x.attr / 32:=by rw[IntKind.wrap_i64];omega
 have w8m:IntKind.i64.wrap (x.attr / 8 % 2)=x.attr / 8 % 2:=by rw[IntKind.wrap_i64];omega
 have w16m:IntKind.i64.wrap (x.attr / 16 % 2)=x.attr / 16 % 2:=by rw[IntKind.wrap_i64];omega
 have b5:(x.attr / 32==1)=zAf x.attr 5:=by unfold zAf;rw[show(2:Int) ^ 5=32 by decide,show(x.attr / 32==1)=decide (x.attr / 32=1)from rfl];congr 1;rw[eq_iff_iff];omega
 have b3:(x.attr / 8 % 2==1)=zAf x.attr 3:=rfl;have b4:(x.attr / 16 % 2==1)=zAf x.attr 4:=rfl;have HD:=hQd (And.intro b3 (And.intro b4 b5));have HN2:=hQd hn2;clear h8 hn0 hn1 hn2 b3 b4 b5;obtain⟨rw0,hrw⟩:∃r,(s.drop 61).take (nn - 61)=r:=⟨_,rfl⟩;rw[hrw]at hu;have HRW:=hQd hrw;have HRW1:=hQd (show rw0.length≤1000000 by rw[←hrw,List.length_take,List.length_drop];omega);have HT:=hQd (show preU [] (unpT (n - 0) rw0)=tot by rw[zHy];exact hu);have HNB:=hQd hnb;have HCN:=hQd hcn;have HBAD:=hQd hbad;have HGOOD:=hQd hgood;have HRF:=hQd hrf;have HB0:=hQd r6;have HB1:=hQd (show Rn x.base from(zMQ hp).1);clear h g1 hp hs hnn r3 r4 r5 r6 hsd hX hge0 heq hb2 hu hrw hnb hcn hbad hgood hrf;go_enter Tryz.func67,Tryz.ntmps67
 go_upto_region 7 with (first
  |(go_at_call 66;clear z0 zf0 z1 zf1 z2 zf2 z3 zf3 z4 zf4 z5 zf5 z6 zf6 z7 zf7 z8 zf8 z9 zf9 z10 zf10 z11 zf11 z12 zf12 z13 zf13;(with_reducible refine(zAO s x HP.out HL.out H.out).mono ?_);rintro e_ wn ⟨bl,rfl,h⟩;have p0:=h.rawCell 0;have p1:=h.rawCell 1;have p2:=h.rawCell 2;have p3:=h.rawCell 3;have p4:=h.rawCell 4;have p5:=h.rawCell 5;have p6:=h.rawCell 6;have p7:=h.rawCell 7;have p8:=h.rawCell 8;have p9:=h.rawCell 9;have p10:=h.rawCell 10;have p11:=h.rawCell 11;simp at p0 p1 p2 p3 p4 p5 p6 p7 p8 p9 p10 p11;obtain⟨z0,z1,z2,z3,z4,z5,z6,z7,z8,z9,z10,z11,z12,z13,zf0,zf1,zf2,zf3,zf4,zf5,zf6,zf7,zf8,zf9,zf10,zf11,zf12,zf13⟩:=zBj (b:=rb) (h.p1);replace H:=hQd h;clear h))
 clear z0 zf0 z1 zf1 z2 zf2 z3 zf3 z4 zf4 z5 zf5 z6 zf6 z7 zf7 z8 zf8 z9 zf9 z10 zf10 z11 zf11 z12 zf12 z13 zf13;clear p0 p1 p2 p3 p4 p5 p6 p7 p8 p9 p10 p11;go_cut [38] (fun s38 wx=>s38=.bool false∧St W0 wx K (.raw bl #[.int .i64 x.base,.int .i64 x.len,.int .i64 x.leader,.int .i64 x.sum,.int .i64 x.attr,.int .i64 x.last,.int .i64 x.first,.int .i64 x.maxt,.int .i64 x.prod,.int .i64 x.epoch,.int .i64 x.seq,.int .i64 x.count] 3::.raw rb #[.int .i64 0,.int .i64 0,.bool false,.bool false,.bool false,.int .i64 0,.int .i64 0,.int .i64 0,.int .i64 0,.int .i64 0,.int .i64 0,.slice none 0 0,.int .i64 0,.int .i64 0] 105::L))
 case first=>
  exact zq6
 obtain⟨rfl,h⟩:=hcut;clear H;have p0:=h.rawCell 0;have p1:=h.rawCell 1;have p2:=h.rawCell 2;have p3:=h.rawCell 3;have p4:=h.rawCell 4;have p5:=h.rawCell 5;have p6:=h.rawCell 6;have p7:=h.rawCell 7;have p8:=h.rawCell 8;have p9:=h.rawCell 9;have p10:=h.rawCell 10;have p11:=h.rawCell 11;simp at p0 p1 p2 p3 p4 p5 p6 p7 p8 p9 p10 p11;obtain⟨z0,z1,z2,z3,z4,z5,z6,z7,z8,z9,z10,z11,z12,z13,zf0,zf1,zf2,zf3,zf4,zf5,zf6,zf7,zf8,zf9,zf10,zf11,zf12,zf13⟩:=zBj (b:=rb) (h.p1);have H:=hQd h;clear h
 go_upto_region 12 with (first
  |(go_at_call 62;clear z0 zf0 z1 zf1 z2 zf2 z3 zf3 z4 zf4 z5 zf5 z6 zf6 z7 zf7 z8 zf8 z9 zf9 z10 zf10 z11 zf11 z12 zf12 z13 zf13;clear p0 p1 p2 p3 p4 p5 p6 p7 p8 p9 p10 p11;(with_reducible refine(zD4 x.attr HA.out c0 c1 HB2.out H.out).mono ?_);rintro e_ wn ⟨rfl,h⟩;have p0:=h.rawCell 0;have p1:=h.rawCell 1;have p2:=h.rawCell 2;have p3:=h.rawCell 3;have p4:=h.rawCell 4;have p5:=h.rawCell 5;have p6:=h.rawCell 6;have p7:=h.rawCell 7;have p8:=h.rawCell 8;have p9:=h.rawCell 9;have p10:=h.rawCell 10;have p11:=h.rawCell 11;simp at p0 p1 p2 p3 p4 p5 p6 p7 p8 p9 p10 p11;obtain⟨z0,z1,z2,z3,z4,z5,z6,z7,z8,z9,z10,z11,z12,z13,zf0,zf1,zf2,zf3,zf4,zf5,zf6,zf7,zf8,zf9,zf10,zf11,zf12,zf13⟩:=zBj (b:=rb) (h.p1);replace H:=hQd h;clear h))
 go_cut [63] (fun s63 wx=>s63=.bool false∧St W0 wx K (.raw bl #[.int .i64 x.base,.int .i64 x.len,.int .i64 x.leader,.int .i64 x.sum,.int .i64 x.attr,.int .i64 x.last,.int .i64 x.first,.int .i64 x.maxt,.int .i64 x.prod,.int .i64 x.epoch,.int .i64 x.seq,.int .i64 x.count] 3::.raw rb #[.int .i64 0,.int .i64 0,.bool false,.bool false,.bool false,.int .i64 0,.int .i64 0,.int .i64 0,.int .i64 0,.int .i64 0,.int .i64 0,.slice none 0 0,.int .i64 0,.int .i64 0] 105::L))
 case first=>
  have h9:=H.out
  by_cases c32:32≤x.attr
  · have d2:decide (32≤x.attr)=true:=decide_eq_true c32;have d3:decide (x.attr % 32<16)=false:=decide_eq_false (by have:=HN2.out;omega);clear c32;go_wp2_with fail;go_meet;exact⟨rfl,h9⟩
  · have d2:decide (32≤x.attr)=false:=decide_eq_false c32;clear c32;go_wp2_with fail;go_meet;exact⟨rfl,h9⟩
 obtain⟨rfl,h⟩:=hcut;clear H;have H:=hQd h;clear h;go_upto_region 14 with (fail);clear z0 zf0 z1 zf1 z2 zf2 z3 zf3 z4 zf4 z5 zf5 z6 zf6 z7 zf7 z8 zf8 z9 zf9 z10 zf10 z11 zf11 z12 zf12 z13 zf13;clear p0 p1 p2 p3 p4 p5 p6 p7 p8 p9 p10 p11;go_cut [7] (fun s7 wx=>∃tb:Nat,s7=.pointer (some ⟨tb,0,none⟩)∧St W0 wx K (.raw tb #[.int .i64 x.base,.int .i64 x.leader,.bool (zAf x.attr 3),.bool (zAf x.attr 4),.bool (zAf x.attr 5),.int .i64 x.last,.int .i64 x.first,.int .i64 x.maxt,.int .i64 x.prod,.int .i64 x.epoch,.int .i64 x.seq,.slice none 0 0] 30::.raw bl #[.int .i64 x.base,.int .i64 x.len,.int .i64 x.leader,.int .i64 x.sum,.int .i64 x.attr,.int .i64 x.last,.int .i64 x.first,.int .i64 x.maxt,.int .i64 x.prod,.int .i64 x.epoch,.int .i64 x.seq,.int .i64 x.count] 3::.raw rb #[.int .i64 0,.int .i64 0,.bool false,.bool false,.bool false,.int .i64 0,.int .i64 0,.int .i64 0,.int .i64 0,.int .i64 0,.int .i64 0,.slice none 0 0,.int .i64 0,.int .i64 0] 105::L))
 case first=>
  have hs:=H.out.drew;refine wp_region_held_drew (S:=fun w'=>w'.cell? ⟨bl,0,none⟩=some (.int .i64 x.base)∧w'.cell? ⟨bl,1,none⟩=some (.int .i64 x.len)∧w'.cell? ⟨bl,2,none⟩=some (.int .i64 x.leader)∧w'.cell? ⟨bl,3,none⟩=some (.int .i64 x.sum)∧w'.cell? ⟨bl,4,none⟩=some (.int .i64 x.attr)∧w'.cell? ⟨bl,5,none⟩=some (.int .i64 x.last)∧w'.cell? ⟨bl,6,none⟩=some (.int .i64 x.first)∧w'.cell? ⟨bl,7,none⟩=some (.int .i64 x.maxt)∧w'.cell? ⟨bl,8,none⟩=some (.int .i64 x.prod)∧w'.cell? ⟨bl,9,none⟩=some (.int .i64 x.epoch)∧w'.cell? ⟨bl,10,none⟩=some (.int .i64 x.seq)∧w'.cell? ⟨bl,11,none⟩=some (.int .i64 x.count)) (by kernel_rfl) (⟨hs.rawCell 0,hs.rawCell 1,hs.rawCell 2,hs.rawCell 3,hs.rawCell 4,hs.rawCell 5,hs.rawCell 6,hs.rawCell 7,hs.rawCell 8,hs.rawCell 9,hs.rawCell 10,hs.rawCell 11⟩) (fun hHeld=> ?_);refine tQ 0 ⟨some 65,.move (.tmp 3),23,_,_,none⟩ ?_;simp only[Act.put,sA,sB,sC];refine tQ 1 ⟨some 66,.indexAddr 23 (.tmp 65) (.const (Value.int IntKind.i64 0)),0,_,_,none⟩ ?_;simp only[Act.put,sA,sB,sC];refine tQ 2 ⟨some 67,.load 3 (.tmp 66),3,_,_,none⟩ ?_;simp only[Act.put,sA,sB,sC];refine tQ 3 ⟨some 68,.move (.tmp 3),23,_,_,none⟩ ?_;simp only[Act.put,sA,sB,sC];refine tQ 4 ⟨some 69,.indexAddr 23 (.tmp 68) (.const (Value.int IntKind.i64 2)),0,_,_,none⟩ ?_;simp only[Act.put,sA,sB,sC];refine tQ 5 ⟨some 70,.load 3 (.tmp 69),3,_,_,none⟩ ?_;simp only[Act.put,sA,sB,sC];refine tQ 6 ⟨some 71,.move (.tmp 6),3,_,_,none⟩ ?_;simp only[Act.put,sA,sB,sC];refine tQ 7 ⟨some 72,.binOp .quo 3 (.tmp 71) (.const (Value.int IntKind.i64 8)) 3,3,_,_,none⟩ ?_;simp only[Act.put,sA,sB,sC];refine tQ 8 ⟨some 73,.binOp .rem 3 (.tmp 72) (.const (Value.int IntKind.i64 2)) 3,3,_,_,none⟩ ?_;simp only[Act.put,sA,sB,sC];refine tQ 9 ⟨some 74,.binOp .eql 3 (.tmp 73) (.const (Value.int IntKind.i64 1)) 3,4,_,_,none⟩ ?_;simp only[Act.put,sA,sB,sC];refine tQ 10 ⟨some 75,.move (.tmp 6),3,_,_,none⟩ ?_;simp only[Act.put,sA,sB,sC];refine tQ 11 ⟨some 76,.binOp .quo 3 (.tmp 75) (.const (Value.int IntKind.i64 16)) 3,3,_,_,none⟩ ?_;simp only[Act.put,sA,sB,sC];refine tQ 12 ⟨some 77,.binOp .rem 3 (.tmp 76) (.const (Value.int IntKind.i64 2)) 3,3,_,_,none⟩ ?_;simp only[Act.put,sA,sB,sC];refine tQ 13 ⟨some 78,.binOp .eql 3 (.tmp 77) (.const (Value.int IntKind.i64 1)) 3,4,_,_,none⟩ ?_;simp only[Act.put,sA,sB,sC];refine tQ 14 ⟨some 79,.move (.tmp 6),3,_,_,none⟩ ?_;simp only[Act.put,sA,sB,sC];refine tQ 15 ⟨some 80,.binOp .quo 3 (.tmp 79) (.const (Value.int IntKind.i64 32)) 3,3,_,_,none⟩ ?_;simp only[Act.put,sA,sB,sC];refine tQ 16 ⟨some 81,.binOp .eql 3 (.tmp 80) (.const (Value.int IntKind.i64 1)) 3,4,_,_,none⟩ ?_;simp only[Act.put,sA,sB,sC];refine tQ 17 ⟨some 82,.move (.tmp 3),23,_,_,none⟩ ?_;simp only[Act.put,sA,sB,sC];refine tQ 18 ⟨some 83,.indexAddr 23 (.tmp 82) (.const (Value.int IntKind.i64 5)),0,_,_,none⟩ ?_;simp only[Act.put,sA,sB,sC];refine tQ 19 ⟨some 84,.load 3 (.tmp 83),3,_,_,none⟩ ?_;simp only[Act.put,sA,sB,sC];refine tQ 20 ⟨some 85,.move (.tmp 3),23,_,_,none⟩ ?_;simp only[Act.put,sA,sB,sC];refine tQ 21 ⟨some 86,.indexAddr 23 (.tmp 85) (.const (Value.int IntKind.i64 6)),0,_,_,none⟩ ?_;simp only[Act.put,sA,sB,sC];refine tQ 22 ⟨some 87,.load 3 (.tmp 86),3,_,_,none⟩ ?_;simp only[Act.put,sA,sB,sC];refine tQ 23 ⟨some 88,.move (.tmp 3),23,_,_,none⟩ ?_;simp only[Act.put,sA,sB,sC];refine tQ 24 ⟨some 89,.indexAddr 23 (.tmp 88) (.const (Value.int IntKind.i64 7)),0,_,_,none⟩ ?_;simp only[Act.put,sA,sB,sC];refine tQ 25 ⟨some 90,.load 3 (.tmp 89),3,_,_,none⟩ ?_;simp only[Act.put,sA,sB,sC];refine tQ 26 ⟨some 91,.move (.tmp 3),23,_,_,none⟩ ?_;simp only[Act.put,sA,sB,sC];refine tQ 27 ⟨some 92,.indexAddr 23 (.tmp 91) (.const (Value.int IntKind.i64 8)),0,_,_,none⟩ ?_;simp only[Act.put,sA,sB,sC];refine tQ 28 ⟨some 93,.load 3 (.tmp 92),3,_,_,none⟩ ?_;simp only[Act.put,sA,sB,sC];refine tQ 29 ⟨some 94,.move (.tmp 3),23,_,_,none⟩ ?_;simp only[Act.put,sA,sB,sC];refine tQ 30 ⟨some 95,.indexAddr 23 (.tmp 94) (.const (Value.int IntKind.i64 9)),0,_,_,none⟩ ?_;simp only[Act.put,sA,sB,sC];refine tQ 31 ⟨some 96,.load 3 (.tmp 95),3,_,_,none⟩ ?_;simp only[Act.put,sA,sB,sC];refine tQ 32 ⟨some 97,.move (.tmp 3),23,_,_,none⟩ ?_;simp only[Act.put,sA,sB,sC];refine tQ 33 ⟨some 98,.indexAddr 23 (.tmp 97) (.const (Value.int IntKind.i64 10)),0,_,_,none⟩ ?_;simp only[Act.put,sA,sB,sC];refine tQ 34 ⟨some 99,.load 3 (.tmp 98),3,_,_,none⟩ ?_;simp only[Act.put,sA,sB,sC];refine tQ 35 ⟨some 100,.build 30 #[(0,.tmp 67),(1,.tmp 70),(2,.tmp 74),(3,.tmp 78),(4,.tmp 81),(5,.tmp 84),(6,.tmp 87),(7,.tmp 90),(8,.tmp 93),(9,.tmp 96),(10,.tmp 99)],30,_,_,none⟩ ?_;simp only[Act.put,sA,sB,sC];refine wpAnyH_ready (rs:=[36]) (by kernel_rfl) (by simp) (AllReadyH.cons (o:=⟨some 7,.alloc 30,0,_,_,none⟩) rfl (fun KK hK=> ?_) AllReadyH.nil);obtain⟨wy,tb,ey,er,hs⟩:=hs.allocEx #[.int .i64 0,.int .i64 0,.bool false,.bool false,.bool false,.int .i64 0,.int .i64 0,.int .i64 0,.int .i64 0,.int .i64 0,.int .i64 0,.slice none 0 0] 30;go_simp
  try rw[ey]
  try rw[er]
  clear ey er;refine hK.out _ _ (⟨hs.p1.rawCell 0,hs.p1.rawCell 1,hs.p1.rawCell 2,hs.p1.rawCell 3,hs.p1.rawCell 4,hs.p1.rawCell 5,hs.p1.rawCell 6,hs.p1.rawCell 7,hs.p1.rawCell 8,hs.p1.rawCell 9,hs.p1.rawCell 10,hs.p1.rawCell 11⟩) (fun hHeld=> ?_);clear hK KK
  try simp only[Act.put,sA,sB,sC]
  refine wpAnyH_ready (rs:=[37]) (by kernel_rfl) (by simp) (AllReadyH.cons (o:=⟨none,.store 30 (.tmp 7) (.tmp 100),0,_,_,none⟩) rfl (fun KK hK=> ?_) AllReadyH.nil);rw[if_pos (by rfl)];refine wp_store_mid 30 (.tmp 7) (.tmp 100) rfl tb 0 #[.int .i64 x.base,.int .i64 x.leader,.bool (x.attr / 8 % 2==1),.bool (x.attr / 16 % 2==1),.bool (x.attr / 32==1),.int .i64 x.last,.int .i64 x.first,.int .i64 x.maxt,.int .i64 x.prod,.int .i64 x.epoch,.int .i64 x.seq,.slice none 0 0] (by rfl) (by rfl) hs.there (by kernel_rfl) (by simp[Value.oneCell']) ?_;obtain⟨wz,ez,hs⟩:=hs.storeEx #[.int .i64 x.base,.int .i64 x.leader,.bool (x.attr / 8 % 2==1),.bool (x.attr / 16 % 2==1),.bool (x.attr / 32==1),.int .i64 x.last,.int .i64 x.first,.int .i64 x.maxt,.int .i64 x.prod,.int .i64 x.epoch,.int .i64 x.seq,.slice none 0 0];rw[ez];clear ez;rw[zB2]at hs;rotate_left
  · rfl
  rw[HD.out.1,HD.out.2.1,HD.out.2.2]at hs;refine hK.out _ _ (⟨hs.p1.rawCell 0,hs.p1.rawCell 1,hs.p1.rawCell 2,hs.p1.rawCell 3,hs.p1.rawCell 4,hs.p1.rawCell 5,hs.p1.rawCell 6,hs.p1.rawCell 7,hs.p1.rawCell 8,hs.p1.rawCell 9,hs.p1.rawCell 10,hs.p1.rawCell 11⟩) (fun hHeld=> ?_);clear hK KK
  try simp only[Act.put]
  refine wpAnyH_done (by kernel_rfl) ?_ _;clear hHeld;go_wp2_with fail;go_meet;exact⟨tb,rfl,hs⟩
 obtain⟨tb,rfl,h⟩:=hcut;clear H q8 q16 q32 m8 m16 w8 w16 w32 w8m w16m d0 d1 ha0 ha63 g5 g6 e8 e9;have H:=hQd h;clear h;have hge:=hge;go_wp2;rw[HRW.out];go_loopw [8,9] (fun rv iv wr=>∃(k:Nat) (acc:List (RecS×Value)) (r:Bs) (K2:Know) (tv:Value),k≤n∧iv=.int .i64 k∧rv=.string (bb r)∧acc.length=k∧Hid (preU (acc.map (·.1)) (unpT (n - k) r)=tot)∧Hid (r.length≤1000000)∧Hid (K2.has K)∧Hid (∀x∈acc,K2.has (Know.flat RHdr x.2 3 x.1.hdrs))∧St W0 wr K2 (.row tv 54 7 acc.length (acc.flatMap zFG)::.raw tb #[.int .i64 x.base,.int .i64 x.leader,.bool (zAf x.attr 3),.bool (zAf x.attr 4),.bool (zAf x.attr 5),.int .i64 x.last,.int .i64 x.first,.int .i64 x.maxt,.int .i64 x.prod,.int .i64 x.epoch,.int .i64 x.seq,tv] 30::.raw bl #[.int .i64 x.base,.int .i64 x.len,.int .i64 x.leader,.int .i64 x.sum,.int .i64 x.attr,.int .i64 x.last,.int .i64 x.first,.int .i64 x.maxt,.int .i64 x.prod,.int .i64 x.epoch,.int .i64 x.seq,.int .i64 x.count] 3::.raw rb #[.int .i64 0,.int .i64 0,.bool false,.bool false,.bool false,.int .i64 0,.int .i64 0,.int .i64 0,.int .i64 0,.int .i64 0,.int .i64 0,.slice none 0 0,.int .i64 0,.int .i64 0] 105::L)) (fun _ iv _=>n - (intOf iv).toNat)
 case atStart=>exact⟨0,[],rw0,K,.slice none 0 0,Nat.zero_le _,rfl,rfl,rfl,HT,HRW1,hQd (Know.has_refl _),hQd (fun x h=>by cases h),H.out.nilRow 54 7⟩
 case round=>
  obtain⟨k,acc,r,K2,tv,hk,rfl,rfl,hacc,HC,HRL,HK2,HALL,hst⟩:=hrel;have HACC:=hQd hacc;have HKB:=hQd (show k≤2147483647 by have:=HNB.out;omega);clear H hacc;have t11:=hst.p1.rawCell 11;have tf11:=hst.p1.rawFree 11;simp at t11;have p11:=hst.p2.rawCell 11;simp at p11;obtain⟨z0,z1,z2,z3,z4,z5,z6,z7,z8,z9,z10,z11,z12,z13,zf0,zf1,zf2,zf3,zf4,zf5,zf6,zf7,zf8,zf9,zf10,zf11,zf12,zf13⟩:=zBj (b:=rb) (hst.p3);have H:=hQd hst;clear hst;have hc9:=HCN.out;rw[hc9]at p11;clear hc9
  by_cases hlt:k<n
  · have hc:=HC.out;rw[show n - k=(n - (k+1))+1 by omega]at hc;have hki:(k:Int)<(n:Int):=by omega
    have hnb:(n:Int)≤2147483647:=by have:=HNB.out;omega
    by_cases hr0:r=[]
    · subst hr0;rw[zNV]at hc;have hc2:Except.error 10=tot:=hc;have HC3:=hQd hc2.symm;clear hc hc2;go_wp2_with (go_at_call 96;clear t11 tf11;clear p11;clear z0 zf0 z1 zf1 z2 zf2 z3 zf3 z4 zf4 z5 zf5 z6 zf6 z7 zf7 z8 zf8 z9 zf9 z10 zf10 z11 zf11 z12 zf12 z13 zf13;(with_reducible refine(zA3 10 H.out).mono ?_);rintro e_ wn ⟨rfl,h⟩;obtain⟨z0,z1,z2,z3,z4,z5,z6,z7,z8,z9,z10,z11,z12,z13,zf0,zf1,zf2,zf3,zf4,zf5,zf6,zf7,zf8,zf9,zf10,zf11,zf12,zf13⟩:=zBj (b:=rb) (h.p3);replace H:=hQd h;clear h);have hz:St W0 _ _ (.raw rb #[.int .i64 0,.int .i64 0,.bool false,.bool false,.bool false,.int .i64 0,.int .i64 0,.int .i64 0,.int .i64 0,.int .i64 0,.int .i64 0,.slice none 0 0,.int .i64 0,.int .i64 10] 105::_):=St.sets14 _ _ _ _ _ _ _ _ _ _ _ _ _ _ (H.out.p3);refine bodyPost_ret (zAl rfl _ _ rb [.int .i64 0,.int .i64 0,.bool false,.bool false,.bool false,.int .i64 0,.int .i64 0,.int .i64 0,.int .i64 0,.int .i64 0,.int .i64 0,.slice none 0 0,.int .i64 0,.int .i64 10] _ rfl (zAp hz) Tryz.underlying105 rfl (by kernel_rfl)) rfl ?_;exact HBAD.out 10 _ (by decide) (.inl HC3.out) (hz.drop.drop.drop.drop.know HK2.out)
    have z1:(r==[])=false:=by rw[beq_eq_false_iff_ne];exact hr0
    have z2:(r !=[])=true:=by simp[bne,z1]
    have z3:¬r=[]:=hr0;have hrl1:(r.length:Int)≤1000000:=by have:=HRL.out;omega
    cases hrr:zBU r with
    |error e2=>
      rw[zNW hr0 hrr]at hc;have hc2:Except.error e2=tot:=hc;have HC3:=hQd hc2.symm;have HRR:=hQd hrr;have HE2:=hQd (zKM hrr);have gz:(e2==0)=false:=by rw[beq_eq_false_iff_ne];exact zKM hrr
      have gz2:(e2 !=0)=true:=by simp[bne,gz]
      clear hc hc2 hrr hr0
      go_wp2_with (first
  |(go_at_call 97;clear t11 tf11;clear p11;clear z0 zf0 z1 zf1 z2 zf2 z3 zf3 z4 zf4 z5 zf5 z6 zf6 z7 zf7 z8 zf8 z9 zf9 z10 zf10 z11 zf11 z12 zf12 z13 zf13;(with_reducible refine(zJF r e2 HRR.out HRL.out H.out).mono ?_);rintro e_ wn ⟨mm,rfl,h⟩;obtain⟨xb,hxb⟩:∃b,wn.heap.size=b:=⟨_,rfl⟩;have h:=h.allocRaw #[.int .i64 0,.int .i64 0,.bool false,.string ⟨#[]⟩,.bool false,.string ⟨#[]⟩,.slice none 0 0,.int .i64 mm,.int .i64 e2] 146;rw[hxb]at h;have r0:=h.rawCell 0;have r1:=h.rawCell 1;have r2:=h.rawCell 2;have r3:=h.rawCell 3;have r4:=h.rawCell 4;have r5:=h.rawCell 5;have r6:=h.rawCell 6;have r7:=h.rawCell 7;have r8:=h.rawCell 8;simp at r0 r1 r2 r3 r4 r5 r6 r7 r8;have t11:=h.p2.rawCell 11;have tf11:=h.p2.rawFree 11;simp at t11;have p11:=h.p3.rawCell 11;simp at p11;obtain⟨z0,z1,z2,z3,z4,z5,z6,z7,z8,z9,z10,z11,z12,z13,zf0,zf1,zf2,zf3,zf4,zf5,zf6,zf7,zf8,zf9,zf10,zf11,zf12,zf13⟩:=zBj (b:=rb) (h.p4);replace H:=hQd h;clear h)
  |(go_at_call 96;clear r0 r1 r2 r3 r4 r5 r6 r7 r8;clear t11 tf11;clear p11;clear z0 zf0 z1 zf1 z2 zf2 z3 zf3 z4 zf4 z5 zf5 z6 zf6 z7 zf7 z8 zf8 z9 zf9 z10 zf10 z11 zf11 z12 zf12 z13 zf13;(with_reducible refine(zA3 e2 H.out).mono ?_);rintro e_ wn ⟨rfl,h⟩;obtain⟨z0,z1,z2,z3,z4,z5,z6,z7,z8,z9,z10,z11,z12,z13,zf0,zf1,zf2,zf3,zf4,zf5,zf6,zf7,zf8,zf9,zf10,zf11,zf12,zf13⟩:=zBj (b:=rb) (h.p4);replace H:=hQd h;clear h))
      have hz:St W0 _ _ (.raw rb #[.int .i64 0,.int .i64 0,.bool false,.bool false,.bool false,.int .i64 0,.int .i64 0,.int .i64 0,.int .i64 0,.int .i64 0,.int .i64 0,.slice none 0 0,.int .i64 0,.int .i64 e2] 105::_):=St.sets14 _ _ _ _ _ _ _ _ _ _ _ _ _ _ (H.out.p4);refine bodyPost_ret (zAl rfl _ _ rb [.int .i64 0,.int .i64 0,.bool false,.bool false,.bool false,.int .i64 0,.int .i64 0,.int .i64 0,.int .i64 0,.int .i64 0,.int .i64 0,.slice none 0 0,.int .i64 0,.int .i64 e2] _ rfl (zAp hz) Tryz.underlying105 rfl (by kernel_rfl)) rfl ?_;exact HBAD.out e2 _ HE2.out (.inl HC3.out) (hz.drop.drop.drop.drop.drop.know HK2.out)
    |ok yy=>
      obtain⟨y,m⟩:=yy;rw[zO9 hr0 hrr,←zFS]at hc;have hmr:=(zDA hrr).2.2.2.2.2;have hmi:(m:Int)≤(r.length:Int):=by omega
      have HRR:=hQd hrr;have HC2:=hQd hc;have HDR:=hQd (show List.take (r.length - m) (r.drop m)=r.drop m from List.take_of_length_le zq35);clear hc hrr hr0
      go_wp2_with (first
  |(go_at_call 97;clear t11 tf11;clear p11;clear z0 zf0 z1 zf1 z2 zf2 z3 zf3 z4 zf4 z5 zf5 z6 zf6 z7 zf7 z8 zf8 z9 zf9 z10 zf10 z11 zf11 z12 zf12 z13 zf13;(with_reducible refine(zJE r y m HRR.out HRL.out H.out).mono ?_);rintro e_ wn ⟨v1,rfl,h⟩;obtain⟨q1,cc1,hv1⟩:=zAu (Know.has_right (Know.has_refl _)) h;subst hv1;obtain⟨xb,hxb⟩:∃b,wn.heap.size=b:=⟨_,rfl⟩;have h:=h.allocRaw #[.int .i64 y.time,.int .i64 y.off,.bool y.key.null,.string (bb y.key.data),.bool y.val.null,.string (bb y.val.data),(.slice q1 y.hdrs.length cc1),.int .i64 m,.int .i64 0] 146;rw[hxb]at h;have r0:=h.rawCell 0;have r1:=h.rawCell 1;have r2:=h.rawCell 2;have r3:=h.rawCell 3;have r4:=h.rawCell 4;have r5:=h.rawCell 5;have r6:=h.rawCell 6;have r7:=h.rawCell 7;have r8:=h.rawCell 8;simp at r0 r1 r2 r3 r4 r5 r6 r7 r8;have t11:=h.p2.rawCell 11;have tf11:=h.p2.rawFree 11;simp at t11;have p11:=h.p3.rawCell 11;simp at p11;obtain⟨z0,z1,z2,z3,z4,z5,z6,z7,z8,z9,z10,z11,z12,z13,zf0,zf1,zf2,zf3,zf4,zf5,zf6,zf7,zf8,zf9,zf10,zf11,zf12,zf13⟩:=zBj (b:=rb) (h.p4);replace H:=hQd h;clear h)
  |(at_builtin;clear t11 tf11;clear p11;clear z0 zf0 z1 zf1 z2 zf2 z3 zf3 z4 zf4 z5 zf5 z6 zf6 z7 zf7 z8 zf8 z9 zf9 z10 zf10 z11 zf11 z12 zf12 z13 zf13;clear r0 r2 r3 r4 r5 r6 r7 r8;refine zAB rfl _ _ 28 rfl 54 Tryz.underlying28 zE3 _ _ _ rfl H.out.p1 [.int .i64 y.time,.int .i64 y.off,.bool y.key.null,.string (bb y.key.data),.bool y.val.null,.string (bb y.val.data),.slice q1 y.hdrs.length cc1] 54 (by first|rfl|(rw[World.size_alloc];rfl)|(rw[World.size_alloc,hxb];rfl)) rfl (by simp[Value.oneCell']) zq39 (by have:=HACC.out;have:=HKB.out;omega) ?_;intro v' w' h;obtain⟨qv,cv,hv⟩:=h.rowAny;subst hv;have t11:=h.p2.rawCell 11;have tf11:=h.p2.rawFree 11;simp at t11;have r7:=h.p1.rawCell 7;simp at r7;replace H:=hQd h;clear h))
      go_roundw
      case rel=>
        refine⟨k+1,acc++[(y,.slice q1 y.hdrs.length cc1)],r.drop m,K2.and (Know.flat RHdr (.slice q1 y.hdrs.length cc1) 3 y.hdrs),.slice qv (acc.length+1) cv,hlt,by go_num,?_,?_,?_,?_,?_,?_,?_⟩
        · rw[HDR.out]
        · rw[List.length_append,HACC.out];rfl
        · exact hQd (by rw[List.map_append];exact HC2.out)
        · exact hQd (by rw[List.length_drop];have:=HRL.out;omega)
        · exact hQd (Know.has_trans (Know.has_left (Know.has_refl _)) HK2.out)
        · refine hQd (fun z hz=> ?_)
          rcases List.mem_append.1 hz with hz|hz
          · exact Know.has_trans (Know.has_left (Know.has_refl _)) (HALL.out z hz)
          · rw[List.mem_singleton.1 hz];exact Know.has_right (Know.has_refl _)
        · rw[List.length_append,List.flatMap_append];exact(H.out.p2.rawSet 11 (.slice qv _ cv)).p1.p2.drop
      case measure=>first|(simp[intOf];done)|(simp[intOf];omega)
  · obtain rfl:k=n:=by omega
    have hc:=HC.out;rw[Nat.sub_self,zL6]at hc;have hki:¬(k:Int)<(k:Int):=by omega
    by_cases hr0:r=[]
    · rw[if_pos hr0]at hc;have hc2:Except.ok (acc.map (·.1)++[])=tot:=hc;have HC3:=hQd hc2.symm;subst hr0;have hm0:tot=.ok (acc.map (·.1)):=by rw[←hc2,List.append_nil]
      obtain⟨q2,cap2,hv⟩:=H.out.rowAny;subst hv;have h5:=(H.out.freezeRow (R:=RRec) (fun y _=>⟨rfl,rfl⟩));have h6:=h5.know (K':=K.and (Know.recs (.slice q2 acc.length cap2) acc)) (fun w F hh=>⟨HK2.out _ _ hh.1,hh.2,fun y hy=>HALL.out y hy _ _ hh.1⟩);have HM0:=hQd hm0;obtain⟨e,hbe⟩:∃e,zAA ⟨x.base,x.leader,zAf x.attr 3,zAf x.attr 4,zAf x.attr 5,x.last,x.first,x.maxt,x.prod,x.epoch,x.seq,acc.map (·.1)⟩=e:=⟨_,rfl⟩;have HBE2:=hQd hbe;have HFB:=hQd ((HRF.out _ hm0).2 acc rfl);have HLL:=hQd (show acc.length≤1000000 by have h8:=(HRF.out _ hm0).1;rw[List.length_map]at h8;exact h8);clear t11 tf11;clear p11;clear z0 zf0 z1 zf1 z2 zf2 z3 zf3 z4 zf4 z5 zf5 z6 zf6 z7 zf7 z8 zf8 z9 zf9 z10 zf10 z11 zf11 z12 zf12 z13 zf13;obtain⟨z0,z1,z2,z3,z4,z5,z6,z7,z8,z9,z10,z11,z12,z13,zf0,zf1,zf2,zf3,zf4,zf5,zf6,zf7,zf8,zf9,zf10,zf11,zf12,zf13⟩:=zBj (b:=rb) (h6.p2);obtain⟨b0,b1,b2,b3,b4,b5,b6,b7,b8,b9,b10,b11,bf0,bf1,bf2,bf3,bf4,bf5,bf6,bf7,bf8,bf9,bf10,bf11⟩:=zAc (b:=tb) (h6);have p11:=h6.p1.rawCell 11;simp at p11;rw[HCN.out]at p11;clear H hc hc2 HC3 hm0 h5;have H:=hQd h6;clear h6
      by_cases he0:e=0
      · subst he0;clear hbe;go_wp2_with (go_at_call 8;clear b0 bf0 b1 bf1 b2 bf2 b3 bf3 b4 bf4 b5 bf5 b6 bf6 b7 bf7 b8 bf8 b9 bf9 b10 bf10 b11 bf11;clear p11;clear z0 zf0 z1 zf1 z2 zf2 z3 zf3 z4 zf4 z5 zf5 z6 zf6 z7 zf7 z8 zf8 z9 zf9 z10 zf10 z11 zf11 z12 zf12 z13 zf13;(with_reducible refine(zDi x.base x.leader (zAf x.attr 3) (zAf x.attr 4) (zAf x.attr 5) x.last x.first x.maxt x.prod x.epoch x.seq acc q2 cap2 0 HBE2.out HB0.out HB1.out HFB.out HLL.out (Know.has_right (Know.has_refl _)) H.out).mono ?_);rintro e_ wn ⟨rfl,h⟩;obtain⟨b0,b1,b2,b3,b4,b5,b6,b7,b8,b9,b10,b11,bf0,bf1,bf2,bf3,bf4,bf5,bf6,bf7,bf8,bf9,bf10,bf11⟩:=zAc (b:=tb) (h);obtain⟨z0,z1,z2,z3,z4,z5,z6,z7,z8,z9,z10,z11,z12,z13,zf0,zf1,zf2,zf3,zf4,zf5,zf6,zf7,zf8,zf9,zf10,zf11,zf12,zf13⟩:=zBj (b:=rb) (h.p2);replace H:=hQd h;clear h);have hz:St W0 _ _ (.raw rb #[.int .i64 x.base,.int .i64 x.leader,.bool (zAf x.attr 3),.bool (zAf x.attr 4),.bool (zAf x.attr 5),.int .i64 x.last,.int .i64 x.first,.int .i64 x.maxt,.int .i64 x.prod,.int .i64 x.epoch,.int .i64 x.seq,.slice q2 acc.length cap2,.int .i64 nn,.int .i64 0] 105::_):=St.sets14 _ _ _ _ _ _ _ _ _ _ _ _ _ _ (H.out.p2);refine bodyPost_ret (zAl rfl _ _ rb [.int .i64 x.base,.int .i64 x.leader,.bool (zAf x.attr 3),.bool (zAf x.attr 4),.bool (zAf x.attr 5),.int .i64 x.last,.int .i64 x.first,.int .i64 x.maxt,.int .i64 x.prod,.int .i64 x.epoch,.int .i64 x.seq,.slice q2 acc.length cap2,.int .i64 nn,.int .i64 0] _ rfl (zAp hz) Tryz.underlying105 rfl (by kernel_rfl)) rfl ?_;exact HGOOD.out _ q2 acc cap2 _ HM0.out HBE2.out rfl hz.drop.drop.drop
      · have HE0:=hQd he0;have gz:(e==0)=false:=by rw[beq_eq_false_iff_ne];exact he0
        have gz2:(e !=0)=true:=by simp[bne,gz]
        clear hbe he0
        go_wp2_with (first
  |(go_at_call 8;clear b0 bf0 b1 bf1 b2 bf2 b3 bf3 b4 bf4 b5 bf5 b6 bf6 b7 bf7 b8 bf8 b9 bf9 b10 bf10 b11 bf11;clear p11;clear z0 zf0 z1 zf1 z2 zf2 z3 zf3 z4 zf4 z5 zf5 z6 zf6 z7 zf7 z8 zf8 z9 zf9 z10 zf10 z11 zf11 z12 zf12 z13 zf13;(with_reducible refine(zDi x.base x.leader (zAf x.attr 3) (zAf x.attr 4) (zAf x.attr 5) x.last x.first x.maxt x.prod x.epoch x.seq acc q2 cap2 e HBE2.out HB0.out HB1.out HFB.out HLL.out (Know.has_right (Know.has_refl _)) H.out).mono ?_);rintro e_ wn ⟨rfl,h⟩;obtain⟨b0,b1,b2,b3,b4,b5,b6,b7,b8,b9,b10,b11,bf0,bf1,bf2,bf3,bf4,bf5,bf6,bf7,bf8,bf9,bf10,bf11⟩:=zAc (b:=tb) (h);obtain⟨z0,z1,z2,z3,z4,z5,z6,z7,z8,z9,z10,z11,z12,z13,zf0,zf1,zf2,zf3,zf4,zf5,zf6,zf7,zf8,zf9,zf10,zf11,zf12,zf13⟩:=zBj (b:=rb) (h.p2);replace H:=hQd h;clear h)
  |(go_at_call 96;clear b0 bf0 b1 bf1 b2 bf2 b3 bf3 b4 bf4 b5 bf5 b6 bf6 b7 bf7 b8 bf8 b9 bf9 b10 bf10 b11 bf11;clear z0 zf0 z1 zf1 z2 zf2 z3 zf3 z4 zf4 z5 zf5 z6 zf6 z7 zf7 z8 zf8 z9 zf9 z10 zf10 z11 zf11 z12 zf12 z13 zf13;(with_reducible refine(zA3 e H.out).mono ?_);rintro e_ wn ⟨rfl,h⟩;obtain⟨z0,z1,z2,z3,z4,z5,z6,z7,z8,z9,z10,z11,z12,z13,zf0,zf1,zf2,zf3,zf4,zf5,zf6,zf7,zf8,zf9,zf10,zf11,zf12,zf13⟩:=zBj (b:=rb) (h.p2);replace H:=hQd h;clear h))
        have hz:St W0 _ _ (.raw rb #[.int .i64 0,.int .i64 0,.bool false,.bool false,.bool false,.int .i64 0,.int .i64 0,.int .i64 0,.int .i64 0,.int .i64 0,.int .i64 0,.slice none 0 0,.int .i64 0,.int .i64 e] 105::_):=St.sets14 _ _ _ _ _ _ _ _ _ _ _ _ _ _ (H.out.p2);refine bodyPost_ret (zAl rfl _ _ rb [.int .i64 0,.int .i64 0,.bool false,.bool false,.bool false,.int .i64 0,.int .i64 0,.int .i64 0,.int .i64 0,.int .i64 0,.int .i64 0,.slice none 0 0,.int .i64 0,.int .i64 e] _ rfl (zAp hz) Tryz.underlying105 rfl (by kernel_rfl)) rfl ?_;exact HBAD.out e _ HE0.out (.inr ⟨_,HM0.out,HBE2.out⟩) (hz.drop.drop.drop.know (Know.has_left (Know.has_refl _)))
    · rw[if_neg hr0]at hc;have hc2:Except.error 10=tot:=hc;have HC3:=hQd hc2.symm;have z1:(r==[])=false:=by rw[beq_eq_false_iff_ne];exact hr0
      have z2:(r !=[])=true:=by simp[bne,z1]
      have z3:¬r=[]:=hr0;clear hc hc2 hr0;go_wp2_with (go_at_call 96;clear t11 tf11;clear p11;clear z0 zf0 z1 zf1 z2 zf2 z3 zf3 z4 zf4 z5 zf5 z6 zf6 z7 zf7 z8 zf8 z9 zf9 z10 zf10 z11 zf11 z12 zf12 z13 zf13;(with_reducible refine(zA3 10 H.out).mono ?_);rintro e_ wn ⟨rfl,h⟩;obtain⟨z0,z1,z2,z3,z4,z5,z6,z7,z8,z9,z10,z11,z12,z13,zf0,zf1,zf2,zf3,zf4,zf5,zf6,zf7,zf8,zf9,zf10,zf11,zf12,zf13⟩:=zBj (b:=rb) (h.p3);replace H:=hQd h;clear h);have hz:St W0 _ _ (.raw rb #[.int .i64 0,.int .i64 0,.bool false,.bool false,.bool false,.int .i64 0,.int .i64 0,.int .i64 0,.int .i64 0,.int .i64 0,.int .i64 0,.slice none 0 0,.int .i64 0,.int .i64 10] 105::_):=St.sets14 _ _ _ _ _ _ _ _ _ _ _ _ _ _ (H.out.p3);refine bodyPost_ret (zAl rfl _ _ rb [.int .i64 0,.int .i64 0,.bool false,.bool false,.bool false,.int .i64 0,.int .i64 0,.int .i64 0,.int .i64 0,.int .i64 0,.int .i64 0,.slice none 0 0,.int .i64 0,.int .i64 10] _ rfl (zAp hz) Tryz.underlying105 rfl (by kernel_rfl)) rfl ?_;exact HBAD.out 10 _ (by decide) (.inl HC3.out) (hz.drop.drop.drop.drop.know HK2.out)
theorem zPj(s:Bs)(k:Nat):(s.drop 21).take (61+k - 21)=(s.take 61).drop 21++(s.drop 61).take k:=by
 rw[show 61+k - 21=40+k by omega,List.take_add,List.drop_drop,List.drop_take]
theorem zLX(x:PreS)(said rows:Bs)(P:Except Int BatS→Prop)
    (h1:((zAq 0#32 (said.drop 21++rows)).toNat:Int)≠x.sum→P (.error 5))
    (h2:((zAq 0#32 (said.drop 21++rows)).toNat:Int)=x.sum→chk x.attr≠0→P (.error (chk x.attr)))
    (h3:((zAq 0#32 (said.drop 21++rows)).toNat:Int)=x.sum→chk x.attr=0→∀e,unp x.count.toNat ⟨rows,0,0⟩=.error e→P (.error e))
    (h4:((zAq 0#32 (said.drop 21++rows)).toNat:Int)=x.sum→chk x.attr=0→∀rs e,unp x.count.toNat ⟨rows,0,0⟩=.ok rs→e≠0→zAA ⟨x.base,x.leader,zAf x.attr 3,zAf x.attr 4,zAf x.attr 5,x.last,x.first,x.maxt,x.prod,x.epoch,x.seq,rs⟩=e→P (.error e))
    (h5:((zAq 0#32 (said.drop 21++rows)).toNat:Int)=x.sum→chk x.attr=0→∀rs,unp x.count.toNat ⟨rows,0,0⟩=.ok rs→zAA ⟨x.base,x.leader,zAf x.attr 3,zAf x.attr 4,zAf x.attr 5,x.last,x.first,x.maxt,x.prod,x.epoch,x.seq,rs⟩=0→P (.ok ⟨x.base,x.leader,zAf x.attr 3,zAf x.attr 4,zAf x.attr 5,x.last,x.first,x.maxt,x.prod,x.epoch,x.seq,rs⟩)):P (asmB x said rows):=by
  unfold asmB
  by_cases c1:((zAq 0#32 (said.drop 21++rows)).toNat:Int)≠x.sum
  · rw[if_pos c1];exact h1 c1
  rw[if_neg c1];have c1:=Decidable.of_not_not c1
  by_cases c2:chk x.attr≠0
  · rw[if_pos c2];exact h2 c1 c2
  rw[if_neg c2];have c2:=Decidable.of_not_not c2
  cases hu:unp x.count.toNat ⟨rows,0,0⟩with
  |error e=>exact h3 c1 c2 e hu
  |ok rs=>
    simp only
    split
    · rename_i c3;exact h5 c1 c2 rs hu c3
    · rename_i c3;exact h4 c1 c2 rs _ hu c3 rfl
theorem zFo(s:Bs)(hs:s.length≤1000000)(h:St W0 w K L):
  Calls Tryz.prog 67 #[.string (bb s)] w fun en w'=>match zBv s with
    | .error e=>en=.returned (.agg #[.int .i64 0,.int .i64 0,.bool false,.bool false,.bool false,.int .i64 0,.int .i64 0,.int .i64 0,.int .i64 0,.int .i64 0,.int .i64 0,.slice none 0 0,.int .i64 0,.int .i64 e])∧St W0 w' K L
    | .ok (b,n)=>∃(q:Option Addr) (l:List (RecS×Value)) (cap:Nat),en=.returned (.agg #[.int .i64 b.base,.int .i64 b.leader,.bool b.app,.bool b.txn,.bool b.ctl,.int .i64 b.last,.int .i64 b.first,.int .i64 b.maxt,.int .i64 b.prod,.int .i64 b.epoch,.int .i64 b.seq,.slice q l.length cap,.int .i64 n,.int .i64 0])∧l.map (·.1)=b.recs∧St W0 w' (K.and (Know.recs (.slice q l.length cap) l)) L:=by
 unfold zBv
 cases hp:zAI s with
 |error e=>exact zLt s hs e hp h
 |ok x=>
  simp only
  by_cases c1:s.length<61+(x.len - 49).toNat
  · rw[if_pos c1];exact zMN s hs x hp _ rfl c1 h
  rw[if_neg c1];have hse:=zPj s (x.len - 49).toNat;have hpr:=zBs hp;have hcn:x.count=(x.count.toNat:Int):=by have:=hpr.2.2.2.1;omega
  have hnb:x.count.toNat≤2147483647:=by have:=hpr.2.2.2.2.1;omega
  have hrw:(s.drop 61).take (61+(x.len - 49).toNat - 61)=(s.drop 61).take (x.len - 49).toNat:=by rw[Nat.add_sub_cancel_left]
  have ok1:chk x.attr=0→x.attr % 8=0∧¬x.attr<0∧¬63<x.attr∧¬(32≤x.attr∧x.attr % 32<16):=by
    intro hc
    by_cases h8:x.attr % 8=0
    · rw[zHT _ h8]at hc
      split at hc
      · cases hc
      · omega
    · rw[(zKY _).2 h8]at hc;cases hc
  refine zLX x (s.take 61) ((s.drop 61).take (x.len - 49).toNat) (fun r=>Calls Tryz.prog 67 #[.string (bb s)] w fun en w'=>match (match r with| .error e=>Except.error e| .ok b=>Except.ok (b,61+(x.len - 49).toNat))with
    | .error e=>en=.returned (.agg #[.int .i64 0,.int .i64 0,.bool false,.bool false,.bool false,.int .i64 0,.int .i64 0,.int .i64 0,.int .i64 0,.int .i64 0,.int .i64 0,.slice none 0 0,.int .i64 0,.int .i64 e])∧St W0 w' K L
    | .ok (b,n)=>∃(q:Option Addr) (l:List (RecS×Value)) (cap:Nat),en=.returned (.agg #[.int .i64 b.base,.int .i64 b.leader,.bool b.app,.bool b.txn,.bool b.ctl,.int .i64 b.last,.int .i64 b.first,.int .i64 b.maxt,.int .i64 b.prod,.int .i64 b.epoch,.int .i64 b.seq,.slice q l.length cap,.int .i64 n,.int .i64 0])∧l.map (·.1)=b.recs∧St W0 w' (K.and (Know.recs (.slice q l.length cap) l)) L) ?_ ?_ ?_ ?_ ?_
  · intro e1;exact zPB s hs x hp _ rfl (by omega) _ hse _ rfl e1 h
  · intro e1 e2
    by_cases h8:x.attr % 8=0
    · have e3:=e2;rw[zHT _ h8]at e3
      have e4:x.attr<0∨63<x.attr∨(32≤x.attr∧x.attr % 32<16):=by
       by_cases hh:x.attr<0∨63<x.attr∨(32≤x.attr∧x.attr % 32<16)
       · exact hh
       · rw[if_neg hh]at e3;exact absurd rfl e3
      rw[zHT _ h8,if_pos e4];exact zKN s hs x hp _ rfl (by omega) _ hse _ rfl e1 8 (.inr ⟨h8,rfl,e4⟩) h
    · rw[(zKY _).2 h8];exact zKN s hs x hp _ rfl (by omega) _ hse _ rfl e1 9 (.inl ⟨h8,rfl⟩) h
  · intro e1 e2 e hu;obtain⟨a1,a2,a3,a4⟩:=ok1 e2;rw[zDp _ _ 0 (Nat.zero_le _),List.drop_zero,←hrw]at hu;refine zHu s hs x hp _ rfl (by omega) _ hse _ rfl e1 a1 a2 a3 a4 _ hcn hnb _ hu (fun rs9 hh=>by cases hh) _ (fun e9 w9 h9 hw hst=>by rcases hw with hw|⟨_,hw,_⟩<;>cases hw;exact⟨rfl,hst⟩) (fun rs9 q l cap w9 hh hb9 hl hst=>by cases hh) h
  · intro e1 e2 rs e hu h0 hb;obtain⟨a1,a2,a3,a4⟩:=ok1 e2;have hrl:((s.drop 61).take (x.len - 49).toNat).length≤1000000:=by rw[List.length_take,List.length_drop];omega
    have hf:∀l:List (RecS×Value),l.map (·.1)=rs→FitB l:=fun l hl=>(zET hu hl hrl).1
    have hl2:rs.length≤1000000:=by have:=(zD1 _ _ 0 _ (Nat.zero_le _) hu).2.1;omega
    rw[zDp _ _ 0 (Nat.zero_le _),List.drop_zero,←hrw]at hu;refine zHu s hs x hp _ rfl (by omega) _ hse _ rfl e1 a1 a2 a3 a4 _ hcn hnb _ hu (fun rs9 hh=>by cases hh;exact⟨hl2,hf⟩) _ (fun e9 w9 h9 hw hst=>by rcases hw with hw|⟨_,hw,hb9⟩<;>cases hw;obtain rfl:=hb.symm.trans hb9;exact⟨rfl,hst⟩) (fun rs9 q l cap w9 hh hb9 hl hst=>by cases hh;exact absurd (hb.symm.trans hb9) h0) h
  · intro e1 e2 rs hu hb;obtain⟨a1,a2,a3,a4⟩:=ok1 e2;have hrl:((s.drop 61).take (x.len - 49).toNat).length≤1000000:=by rw[List.length_take,List.length_drop];omega
    have hf:∀l:List (RecS×Value),l.map (·.1)=rs→FitB l:=fun l hl=>(zET hu hl hrl).1
    have hl2:rs.length≤1000000:=by have:=(zD1 _ _ 0 _ (Nat.zero_le _) hu).2.1;omega
    rw[zDp _ _ 0 (Nat.zero_le _),List.drop_zero,←hrw]at hu;refine zHu s hs x hp _ rfl (by omega) _ hse _ rfl e1 a1 a2 a3 a4 _ hcn hnb _ hu (fun rs9 hh=>by cases hh;exact⟨hl2,hf⟩) _ (fun e9 w9 h9 hw hst=>by rcases hw with hw|⟨_,hw,hb9⟩<;>cases hw;exact absurd (hb9.symm.trans hb) h9) (fun rs9 q l cap w9 hh hb9 hl hst=>by cases hh;exact⟨q,l,cap,rfl,hl,hst⟩) h
theorem zFp(s:Bs)(hs:s.length≤1000000)(e:Int)(hr:zBv s=.error e)(h:St W0 w K L):
  Calls Tryz.prog 67 #[.string (bb s)] w fun en w'=>en=.returned (.agg #[.int .i64 0,.int .i64 0,.bool false,.bool false,.bool false,.int .i64 0,.int .i64 0,.int .i64 0,.int .i64 0,.int .i64 0,.int .i64 0,.slice none 0 0,.int .i64 0,.int .i64 e])∧St W0 w' K L:=
 (zFo s hs h).mono fun en w' hh=>by rw[hr]at hh;exact hh
theorem zJB(s:Bs)(hs:s.length≤1000000)(b:BatS)(n:Nat)(hr:zBv s=.ok (b,n))(h:St W0 w K L):
  Calls Tryz.prog 67 #[.string (bb s)] w fun en w'=>∃(q:Option Addr) (l:List (RecS×Value)) (cap:Nat),en=.returned (.agg #[.int .i64 b.base,.int .i64 b.leader,.bool b.app,.bool b.txn,.bool b.ctl,.int .i64 b.last,.int .i64 b.first,.int .i64 b.maxt,.int .i64 b.prod,.int .i64 b.epoch,.int .i64 b.seq,.slice q l.length cap,.int .i64 n,.int .i64 0])∧l.map (·.1)=b.recs∧St W0 w' (K.and (Know.recs (.slice q l.length cap) l)) L:=
 (zFo s hs h).mono fun en w' hh=>by rw[hr]at hh;exact hh
end Go.Proofs.YtenojajfacacoaaGreatDoor
