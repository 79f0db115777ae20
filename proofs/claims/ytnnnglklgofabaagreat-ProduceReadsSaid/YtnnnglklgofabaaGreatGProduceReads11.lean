/- A text. -/
import Derived.Test.YtnnnglklgofabaaGreatGProduceReads9
import Derived.Test.YtnnnglklgofabaaGreatGProduceReads10
import Derived.RegionTactic
import Derived.Deep.RegionHeld3
import Derived.Deep.DeepCutAuto
import Derived.WalkMore
import Derived.Test.YtnnnglklgofabaaGreatGProduceReads6
import Derived.Test.YtnnnglklgofabaaGreatGProduceReads2
import Derived.Deep.OwnRows
import Derived.IntWalk
/- A text. -/
namespace Go.Proofs.YtnnnglklgofabaaGreat
open Go.RowKit
set_option maxHeartbeats 2000000
set_option maxRecDepth 100000
variable {W0 w:World}{K:Know}{L:List Res}
theorem rqc_r0(nl:Bool)(dd:Bs)(ac tm v:Int)(l:List PTop)(q:Option Addr)(cap:Nat)(hdd:dd.length≤140737488355328)(hf:∀x∈l,CkT x)(hll:l.length≤4398046511104)(hr:(⟨nl,dd⟩:BlobS).right=false)(hk:K.has (Know.ptops (.slice q l.length cap) l))(h:St W0 w K L):
 Calls Tryz.prog 12 #[.agg #[.bool nl,.string (bb dd),.int .i64 ac,.int .i64 tm,.slice q l.length cap],.int .i64 v] w fun en w'=>en=.returned (.int .i64 4)∧St W0 w' K L:=by
 obtain⟨rb,hrb⟩:∃b,w.heap.size=b:=⟨_,rfl⟩;have g1:=h.allocRaw #[.bool nl,.string (bb dd),.int .i64 ac,.int .i64 tm,.slice q l.length cap] 26;rw[hrb]at g1;obtain⟨z0,z1,z2,z3,z4⟩:=uR5 g1;simp at z0 z1 z2 z3 z4;have H:=hQd g1;have HK:=hQd hk;have HF:=hQd hf;have HTF:=hQd (zBU hf);have HLL:=hQd hll;have HDL:=hQd hdd;have HBR:=hQd hr;clear h g1 hk hf hll hdd hr;go_enter Tryz.func12,Tryz.ntmps12
 go_wp2_with (first
  |(go_at_call 37;clear z0 z1 z2 z3 z4;(with_reducible refine(zAA nl dd false HBR.out H.out).mono ?_);rintro e_ wn ⟨rfl,h⟩;obtain⟨z0,z1,z2,z3,z4⟩:=uR5 h;simp at z0 z1 z2 z3 z4;replace H:=hQd h;clear h))
 go_ret;exact⟨rfl,H.out.drop⟩
theorem rqc_k0(dd:Bs)(ac tm v:Int)(l:List PTop)(q:Option Addr)(cap:Nat)(hdd:dd.length≤140737488355328)(hf:∀x∈l,CkT x)(hll:l.length≤4398046511104)(hr:(⟨false,dd⟩:BlobS).right=true)(hkr:zAv dd=false)(hk:K.has (Know.ptops (.slice q l.length cap) l))(h:St W0 w K L):
 Calls Tryz.prog 12 #[.agg #[.bool false,.string (bb dd),.int .i64 ac,.int .i64 tm,.slice q l.length cap],.int .i64 v] w fun en w'=>en=.returned (.int .i64 4)∧St W0 w' K L:=by
 obtain⟨rb,hrb⟩:∃b,w.heap.size=b:=⟨_,rfl⟩;have g1:=h.allocRaw #[.bool false,.string (bb dd),.int .i64 ac,.int .i64 tm,.slice q l.length cap] 26;rw[hrb]at g1;obtain⟨z0,z1,z2,z3,z4⟩:=uR5 g1;simp at z0 z1 z2 z3 z4;have H:=hQd g1;have HK:=hQd hk;have HF:=hQd hf;have HTF:=hQd (zBU hf);have HLL:=hQd hll;have HDL:=hQd hdd;have HBR:=hQd hr;have HKR:=hQd hkr;clear h g1 hk hf hll hdd hr hkr;go_enter Tryz.func12,Tryz.ntmps12
 go_wp2_with (first
  |(go_at_call 37;clear z0 z1 z2 z3 z4;(with_reducible refine(zAA false dd true HBR.out H.out).mono ?_);rintro e_ wn ⟨rfl,h⟩;obtain⟨z0,z1,z2,z3,z4⟩:=uR5 h;simp at z0 z1 z2 z3 z4;replace H:=hQd h;clear h)
  |(go_at_call 38;clear z0 z1 z2 z3 z4;(with_reducible refine(zA0 dd false HKR.out HDL.out H.out).mono ?_);rintro e_ wn ⟨rfl,h⟩;obtain⟨z0,z1,z2,z3,z4⟩:=uR5 h;simp at z0 z1 z2 z3 z4;replace H:=hQd h;clear h))
 go_ret;exact⟨rfl,H.out.drop⟩
theorem zLn(dd:Bs)(ac tm v:Int)(l:List PTop)(q:Option Addr)(cap:Nat)(hdd:dd.length≤140737488355328)(hf:∀x∈l,CkT x)(hll:l.length≤4398046511104)(hr:(⟨true,dd⟩:BlobS).right=true)(n1:ac< -1)(hk:K.has (Know.ptops (.slice q l.length cap) l))(h:St W0 w K L):
 Calls Tryz.prog 12 #[.agg #[.bool true,.string (bb dd),.int .i64 ac,.int .i64 tm,.slice q l.length cap],.int .i64 v] w fun en w'=>en=.returned (.int .i64 11)∧St W0 w' K L:=by
 obtain⟨rb,hrb⟩:∃b,w.heap.size=b:=⟨_,rfl⟩;have g1:=h.allocRaw #[.bool true,.string (bb dd),.int .i64 ac,.int .i64 tm,.slice q l.length cap] 26;rw[hrb]at g1;obtain⟨z0,z1,z2,z3,z4⟩:=uR5 g1;simp at z0 z1 z2 z3 z4;have H:=hQd g1;have HK:=hQd hk;have HF:=hQd hf;have HTF:=hQd (zBU hf);have HLL:=hQd hll;have HDL:=hQd hdd;have HBR:=hQd hr;have d1:decide (ac< -1)=true:=decide_eq_true n1;clear h g1 hk hf hll hdd hr n1;go_enter Tryz.func12,Tryz.ntmps12
 go_wp2_with (first
  |(go_at_call 37;clear z0 z1 z2 z3 z4;(with_reducible refine(zAA true dd true HBR.out H.out).mono ?_);rintro e_ wn ⟨rfl,h⟩;obtain⟨z0,z1,z2,z3,z4⟩:=uR5 h;simp at z0 z1 z2 z3 z4;replace H:=hQd h;clear h))
 go_ret;exact⟨rfl,H.out.drop⟩
theorem zLm(dd:Bs)(ac tm v:Int)(l:List PTop)(q:Option Addr)(cap:Nat)(hdd:dd.length≤140737488355328)(hf:∀x∈l,CkT x)(hll:l.length≤4398046511104)(hr:(⟨true,dd⟩:BlobS).right=true)(n1:¬ac< -1)(n2:1<ac)(hk:K.has (Know.ptops (.slice q l.length cap) l))(h:St W0 w K L):
 Calls Tryz.prog 12 #[.agg #[.bool true,.string (bb dd),.int .i64 ac,.int .i64 tm,.slice q l.length cap],.int .i64 v] w fun en w'=>en=.returned (.int .i64 11)∧St W0 w' K L:=by
 obtain⟨rb,hrb⟩:∃b,w.heap.size=b:=⟨_,rfl⟩;have g1:=h.allocRaw #[.bool true,.string (bb dd),.int .i64 ac,.int .i64 tm,.slice q l.length cap] 26;rw[hrb]at g1;obtain⟨z0,z1,z2,z3,z4⟩:=uR5 g1;simp at z0 z1 z2 z3 z4;have H:=hQd g1;have HK:=hQd hk;have HF:=hQd hf;have HTF:=hQd (zBU hf);have HLL:=hQd hll;have HDL:=hQd hdd;have HBR:=hQd hr;have d1:decide (ac< -1)=false:=decide_eq_false n1;have d2:decide (1<ac)=true:=decide_eq_true n2;clear h g1 hk hf hll hdd hr n1 n2;go_enter Tryz.func12,Tryz.ntmps12
 go_wp2_with (first
  |(go_at_call 37;clear z0 z1 z2 z3 z4;(with_reducible refine(zAA true dd true HBR.out H.out).mono ?_);rintro e_ wn ⟨rfl,h⟩;obtain⟨z0,z1,z2,z3,z4⟩:=uR5 h;simp at z0 z1 z2 z3 z4;replace H:=hQd h;clear h))
 go_ret;exact⟨rfl,H.out.drop⟩
theorem zLl(dd:Bs)(ac tm v:Int)(l:List PTop)(q:Option Addr)(cap:Nat)(hdd:dd.length≤140737488355328)(hf:∀x∈l,CkT x)(hll:l.length≤4398046511104)(hr:(⟨true,dd⟩:BlobS).right=true)(n1:¬ac< -1)(n2:¬1<ac)(n3:tm<0)(hk:K.has (Know.ptops (.slice q l.length cap) l))(h:St W0 w K L):
 Calls Tryz.prog 12 #[.agg #[.bool true,.string (bb dd),.int .i64 ac,.int .i64 tm,.slice q l.length cap],.int .i64 v] w fun en w'=>en=.returned (.int .i64 11)∧St W0 w' K L:=by
 obtain⟨rb,hrb⟩:∃b,w.heap.size=b:=⟨_,rfl⟩;have g1:=h.allocRaw #[.bool true,.string (bb dd),.int .i64 ac,.int .i64 tm,.slice q l.length cap] 26;rw[hrb]at g1;obtain⟨z0,z1,z2,z3,z4⟩:=uR5 g1;simp at z0 z1 z2 z3 z4;have H:=hQd g1;have HK:=hQd hk;have HF:=hQd hf;have HTF:=hQd (zBU hf);have HLL:=hQd hll;have HDL:=hQd hdd;have HBR:=hQd hr;have d1:decide (ac< -1)=false:=decide_eq_false n1;have d2:decide (1<ac)=false:=decide_eq_false n2;have d3:decide (tm<0)=true:=decide_eq_true n3;clear h g1 hk hf hll hdd hr n1 n2 n3;go_enter Tryz.func12,Tryz.ntmps12
 go_wp2_with (first
  |(go_at_call 37;clear z0 z1 z2 z3 z4;(with_reducible refine(zAA true dd true HBR.out H.out).mono ?_);rintro e_ wn ⟨rfl,h⟩;obtain⟨z0,z1,z2,z3,z4⟩:=uR5 h;simp at z0 z1 z2 z3 z4;replace H:=hQd h;clear h))
 go_ret;exact⟨rfl,H.out.drop⟩
theorem zLk(dd:Bs)(ac tm v:Int)(l:List PTop)(q:Option Addr)(cap:Nat)(hdd:dd.length≤140737488355328)(hf:∀x∈l,CkT x)(hll:l.length≤4398046511104)(hr:(⟨true,dd⟩:BlobS).right=true)(n1:¬ac< -1)(n2:¬1<ac)(n3:¬tm<0)(n4:2147483647<tm)(hk:K.has (Know.ptops (.slice q l.length cap) l))(h:St W0 w K L):
 Calls Tryz.prog 12 #[.agg #[.bool true,.string (bb dd),.int .i64 ac,.int .i64 tm,.slice q l.length cap],.int .i64 v] w fun en w'=>en=.returned (.int .i64 11)∧St W0 w' K L:=by
 obtain⟨rb,hrb⟩:∃b,w.heap.size=b:=⟨_,rfl⟩;have g1:=h.allocRaw #[.bool true,.string (bb dd),.int .i64 ac,.int .i64 tm,.slice q l.length cap] 26;rw[hrb]at g1;obtain⟨z0,z1,z2,z3,z4⟩:=uR5 g1;simp at z0 z1 z2 z3 z4;have H:=hQd g1;have HK:=hQd hk;have HF:=hQd hf;have HTF:=hQd (zBU hf);have HLL:=hQd hll;have HDL:=hQd hdd;have HBR:=hQd hr;have d1:decide (ac< -1)=false:=decide_eq_false n1;have d2:decide (1<ac)=false:=decide_eq_false n2;have d3:decide (tm<0)=false:=decide_eq_false n3;have d4:decide (2147483647<tm)=true:=decide_eq_true n4;clear h g1 hk hf hll hdd hr n1 n2 n3 n4;go_enter Tryz.func12,Tryz.ntmps12
 go_wp2_with (first
  |(go_at_call 37;clear z0 z1 z2 z3 z4;(with_reducible refine(zAA true dd true HBR.out H.out).mono ?_);rintro e_ wn ⟨rfl,h⟩;obtain⟨z0,z1,z2,z3,z4⟩:=uR5 h;simp at z0 z1 z2 z3 z4;replace H:=hQd h;clear h))
 go_ret;exact⟨rfl,H.out.drop⟩
theorem zNk(dd:Bs)(ac tm v:Int)(l:List PTop)(q:Option Addr)(cap:Nat)(hdd:dd.length≤140737488355328)(hf:∀x∈l,CkT x)(hll:l.length≤4398046511104)(hr:(⟨true,dd⟩:BlobS).right=true)(n1:¬ac< -1)(n2:¬1<ac)(n3:¬tm<0)(n4:¬2147483647<tm)(e:Int)(het:zAP l=e)(h0:e≠0)(hk:K.has (Know.ptops (.slice q l.length cap) l))(h:St W0 w K L):
 Calls Tryz.prog 12 #[.agg #[.bool true,.string (bb dd),.int .i64 ac,.int .i64 tm,.slice q l.length cap],.int .i64 v] w fun en w'=>en=.returned (.int .i64 e)∧St W0 w' K L:=by
 obtain⟨rb,hrb⟩:∃b,w.heap.size=b:=⟨_,rfl⟩;have g1:=h.allocRaw #[.bool true,.string (bb dd),.int .i64 ac,.int .i64 tm,.slice q l.length cap] 26;rw[hrb]at g1;obtain⟨z0,z1,z2,z3,z4⟩:=uR5 g1;simp at z0 z1 z2 z3 z4;have H:=hQd g1;have HK:=hQd hk;have HF:=hQd hf;have HTF:=hQd (zBU hf);have HLL:=hQd hll;have HDL:=hQd hdd;have HBR:=hQd hr;have d1:decide (ac< -1)=false:=decide_eq_false n1;have d2:decide (1<ac)=false:=decide_eq_false n2;have d3:decide (tm<0)=false:=decide_eq_false n3;have d4:decide (2147483647<tm)=false:=decide_eq_false n4;have HET:=hQd het;have e1:(e==0)=false:=by rw[beq_eq_false_iff_ne];exact h0
 have e3:(e !=0)=true:=by simp[bne,e1]
 clear h g1 hk hf hll hdd hr n1 n2 n3 n4 het h0;go_enter Tryz.func12,Tryz.ntmps12
 go_wp2_with (first
  |(go_at_call 37;clear z0 z1 z2 z3 z4;(with_reducible refine(zAA true dd true HBR.out H.out).mono ?_);rintro e_ wn ⟨rfl,h⟩;obtain⟨z0,z1,z2,z3,z4⟩:=uR5 h;simp at z0 z1 z2 z3 z4;replace H:=hQd h;clear h)
  |(go_at_call 39;clear z0 z1 z2 z3 z4;(with_reducible refine(zCM l q cap e HET.out HTF.out HLL.out HK.out H.out).mono ?_);rintro e_ wn ⟨rfl,h⟩;obtain⟨z0,z1,z2,z3,z4⟩:=uR5 h;simp at z0 z1 z2 z3 z4;replace H:=hQd h;clear h))
 go_ret;exact⟨rfl,H.out.drop⟩
theorem zNl(dd:Bs)(ac tm v:Int)(l:List PTop)(q:Option Addr)(cap:Nat)(hdd:dd.length≤140737488355328)(hf:∀x∈l,CkT x)(hll:l.length≤4398046511104)(hr:(⟨true,dd⟩:BlobS).right=true)(n1:¬ac< -1)(n2:¬1<ac)(n3:¬tm<0)(n4:¬2147483647<tm)(het:zAP l=0)(e:Int)(hep:zBO (!true) v l=e)(hk:K.has (Know.ptops (.slice q l.length cap) l))(h:St W0 w K L):
 Calls Tryz.prog 12 #[.agg #[.bool true,.string (bb dd),.int .i64 ac,.int .i64 tm,.slice q l.length cap],.int .i64 v] w fun en w'=>en=.returned (.int .i64 e)∧St W0 w' K L:=by
 obtain⟨rb,hrb⟩:∃b,w.heap.size=b:=⟨_,rfl⟩;have g1:=h.allocRaw #[.bool true,.string (bb dd),.int .i64 ac,.int .i64 tm,.slice q l.length cap] 26;rw[hrb]at g1;obtain⟨z0,z1,z2,z3,z4⟩:=uR5 g1;simp at z0 z1 z2 z3 z4;have H:=hQd g1;have HK:=hQd hk;have HF:=hQd hf;have HTF:=hQd (zBU hf);have HLL:=hQd hll;have HDL:=hQd hdd;have HBR:=hQd hr;have d1:decide (ac< -1)=false:=decide_eq_false n1;have d2:decide (1<ac)=false:=decide_eq_false n2;have d3:decide (tm<0)=false:=decide_eq_false n3;have d4:decide (2147483647<tm)=false:=decide_eq_false n4;have HET:=hQd het;have HEP:=hQd hep;clear h g1 hk hf hll hdd hr n1 n2 n3 n4 het hep;go_enter Tryz.func12,Tryz.ntmps12
 go_wp2_with (first
  |(go_at_call 37;clear z0 z1 z2 z3 z4;(with_reducible refine(zAA true dd true HBR.out H.out).mono ?_);rintro e_ wn ⟨rfl,h⟩;obtain⟨z0,z1,z2,z3,z4⟩:=uR5 h;simp at z0 z1 z2 z3 z4;replace H:=hQd h;clear h)
  |(go_at_call 39;clear z0 z1 z2 z3 z4;(with_reducible refine(zCM l q cap 0 HET.out HTF.out HLL.out HK.out H.out).mono ?_);rintro e_ wn ⟨rfl,h⟩;obtain⟨z0,z1,z2,z3,z4⟩:=uR5 h;simp at z0 z1 z2 z3 z4;replace H:=hQd h;clear h)
  |(go_at_call 40;clear z0 z1 z2 z3 z4;(with_reducible refine(zHm true dd ac tm v l q cap e HEP.out HF.out HLL.out HK.out H.out).mono ?_);rintro e_ wn ⟨rfl,h⟩;obtain⟨z0,z1,z2,z3,z4⟩:=uR5 h;simp at z0 z1 z2 z3 z4;replace H:=hQd h;clear h))
 go_ret;exact⟨rfl,H.out.drop⟩
theorem zJH(dd:Bs)(ac tm v:Int)(l:List PTop)(q:Option Addr)(cap:Nat)(hdd:dd.length≤140737488355328)(hf:∀x∈l,CkT x)(hll:l.length≤4398046511104)(hr:(⟨false,dd⟩:BlobS).right=true)(hkr:zAv dd=true)(n1:ac< -1)(hk:K.has (Know.ptops (.slice q l.length cap) l))(h:St W0 w K L):
 Calls Tryz.prog 12 #[.agg #[.bool false,.string (bb dd),.int .i64 ac,.int .i64 tm,.slice q l.length cap],.int .i64 v] w fun en w'=>en=.returned (.int .i64 11)∧St W0 w' K L:=by
 obtain⟨rb,hrb⟩:∃b,w.heap.size=b:=⟨_,rfl⟩;have g1:=h.allocRaw #[.bool false,.string (bb dd),.int .i64 ac,.int .i64 tm,.slice q l.length cap] 26;rw[hrb]at g1;obtain⟨z0,z1,z2,z3,z4⟩:=uR5 g1;simp at z0 z1 z2 z3 z4;have H:=hQd g1;have HK:=hQd hk;have HF:=hQd hf;have HTF:=hQd (zBU hf);have HLL:=hQd hll;have HDL:=hQd hdd;have HBR:=hQd hr;have HKR:=hQd hkr;have d1:decide (ac< -1)=true:=decide_eq_true n1;clear h g1 hk hf hll hdd hr hkr n1;go_enter Tryz.func12,Tryz.ntmps12
 go_wp2_with (first
  |(go_at_call 37;clear z0 z1 z2 z3 z4;(with_reducible refine(zAA false dd true HBR.out H.out).mono ?_);rintro e_ wn ⟨rfl,h⟩;obtain⟨z0,z1,z2,z3,z4⟩:=uR5 h;simp at z0 z1 z2 z3 z4;replace H:=hQd h;clear h)
  |(go_at_call 38;clear z0 z1 z2 z3 z4;(with_reducible refine(zA0 dd true HKR.out HDL.out H.out).mono ?_);rintro e_ wn ⟨rfl,h⟩;obtain⟨z0,z1,z2,z3,z4⟩:=uR5 h;simp at z0 z1 z2 z3 z4;replace H:=hQd h;clear h))
 go_ret;exact⟨rfl,H.out.drop⟩
theorem zJG(dd:Bs)(ac tm v:Int)(l:List PTop)(q:Option Addr)(cap:Nat)(hdd:dd.length≤140737488355328)(hf:∀x∈l,CkT x)(hll:l.length≤4398046511104)(hr:(⟨false,dd⟩:BlobS).right=true)(hkr:zAv dd=true)(n1:¬ac< -1)(n2:1<ac)(hk:K.has (Know.ptops (.slice q l.length cap) l))(h:St W0 w K L):
 Calls Tryz.prog 12 #[.agg #[.bool false,.string (bb dd),.int .i64 ac,.int .i64 tm,.slice q l.length cap],.int .i64 v] w fun en w'=>en=.returned (.int .i64 11)∧St W0 w' K L:=by
 obtain⟨rb,hrb⟩:∃b,w.heap.size=b:=⟨_,rfl⟩;have g1:=h.allocRaw #[.bool false,.string (bb dd),.int .i64 ac,.int .i64 tm,.slice q l.length cap] 26;rw[hrb]at g1;obtain⟨z0,z1,z2,z3,z4⟩:=uR5 g1;simp at z0 z1 z2 z3 z4;have H:=hQd g1;have HK:=hQd hk;have HF:=hQd hf;have HTF:=hQd (zBU hf);have HLL:=hQd hll;have HDL:=hQd hdd;have HBR:=hQd hr;have HKR:=hQd hkr;have d1:decide (ac< -1)=false:=decide_eq_false n1;have d2:decide (1<ac)=true:=decide_eq_true n2;clear h g1 hk hf hll hdd hr hkr n1 n2;go_enter Tryz.func12,Tryz.ntmps12
 go_wp2_with (first
  |(go_at_call 37;clear z0 z1 z2 z3 z4;(with_reducible refine(zAA false dd true HBR.out H.out).mono ?_);rintro e_ wn ⟨rfl,h⟩;obtain⟨z0,z1,z2,z3,z4⟩:=uR5 h;simp at z0 z1 z2 z3 z4;replace H:=hQd h;clear h)
  |(go_at_call 38;clear z0 z1 z2 z3 z4;(with_reducible refine(zA0 dd true HKR.out HDL.out H.out).mono ?_);rintro e_ wn ⟨rfl,h⟩;obtain⟨z0,z1,z2,z3,z4⟩:=uR5 h;simp at z0 z1 z2 z3 z4;replace H:=hQd h;clear h))
 go_ret;exact⟨rfl,H.out.drop⟩
theorem zJF(dd:Bs)(ac tm v:Int)(l:List PTop)(q:Option Addr)(cap:Nat)(hdd:dd.length≤140737488355328)(hf:∀x∈l,CkT x)(hll:l.length≤4398046511104)(hr:(⟨false,dd⟩:BlobS).right=true)(hkr:zAv dd=true)(n1:¬ac< -1)(n2:¬1<ac)(n3:tm<0)(hk:K.has (Know.ptops (.slice q l.length cap) l))(h:St W0 w K L):
 Calls Tryz.prog 12 #[.agg #[.bool false,.string (bb dd),.int .i64 ac,.int .i64 tm,.slice q l.length cap],.int .i64 v] w fun en w'=>en=.returned (.int .i64 11)∧St W0 w' K L:=by
 obtain⟨rb,hrb⟩:∃b,w.heap.size=b:=⟨_,rfl⟩;have g1:=h.allocRaw #[.bool false,.string (bb dd),.int .i64 ac,.int .i64 tm,.slice q l.length cap] 26;rw[hrb]at g1;obtain⟨z0,z1,z2,z3,z4⟩:=uR5 g1;simp at z0 z1 z2 z3 z4;have H:=hQd g1;have HK:=hQd hk;have HF:=hQd hf;have HTF:=hQd (zBU hf);have HLL:=hQd hll;have HDL:=hQd hdd;have HBR:=hQd hr;have HKR:=hQd hkr;have d1:decide (ac< -1)=false:=decide_eq_false n1;have d2:decide (1<ac)=false:=decide_eq_false n2;have d3:decide (tm<0)=true:=decide_eq_true n3;clear h g1 hk hf hll hdd hr hkr n1 n2 n3;go_enter Tryz.func12,Tryz.ntmps12
 go_wp2_with (first
  |(go_at_call 37;clear z0 z1 z2 z3 z4;(with_reducible refine(zAA false dd true HBR.out H.out).mono ?_);rintro e_ wn ⟨rfl,h⟩;obtain⟨z0,z1,z2,z3,z4⟩:=uR5 h;simp at z0 z1 z2 z3 z4;replace H:=hQd h;clear h)
  |(go_at_call 38;clear z0 z1 z2 z3 z4;(with_reducible refine(zA0 dd true HKR.out HDL.out H.out).mono ?_);rintro e_ wn ⟨rfl,h⟩;obtain⟨z0,z1,z2,z3,z4⟩:=uR5 h;simp at z0 z1 z2 z3 z4;replace H:=hQd h;clear h))
 go_ret;exact⟨rfl,H.out.drop⟩
theorem zJE(dd:Bs)(ac tm v:Int)(l:List PTop)(q:Option Addr)(cap:Nat)(hdd:dd.length≤140737488355328)(hf:∀x∈l,CkT x)(hll:l.length≤4398046511104)(hr:(⟨false,dd⟩:BlobS).right=true)(hkr:zAv dd=true)(n1:¬ac< -1)(n2:¬1<ac)(n3:¬tm<0)(n4:2147483647<tm)(hk:K.has (Know.ptops (.slice q l.length cap) l))(h:St W0 w K L):
 Calls Tryz.prog 12 #[.agg #[.bool false,.string (bb dd),.int .i64 ac,.int .i64 tm,.slice q l.length cap],.int .i64 v] w fun en w'=>en=.returned (.int .i64 11)∧St W0 w' K L:=by
 obtain⟨rb,hrb⟩:∃b,w.heap.size=b:=⟨_,rfl⟩;have g1:=h.allocRaw #[.bool false,.string (bb dd),.int .i64 ac,.int .i64 tm,.slice q l.length cap] 26;rw[hrb]at g1;obtain⟨z0,z1,z2,z3,z4⟩:=uR5 g1;simp at z0 z1 z2 z3 z4;have H:=hQd g1;have HK:=hQd hk;have HF:=hQd hf;have HTF:=hQd (zBU hf);have HLL:=hQd hll;have HDL:=hQd hdd;have HBR:=hQd hr;have HKR:=hQd hkr;have d1:decide (ac< -1)=false:=decide_eq_false n1;have d2:decide (1<ac)=false:=decide_eq_false n2;have d3:decide (tm<0)=false:=decide_eq_false n3;have d4:decide (2147483647<tm)=true:=decide_eq_true n4;clear h g1 hk hf hll hdd hr hkr n1 n2 n3 n4;go_enter Tryz.func12,Tryz.ntmps12
 go_wp2_with (first
  |(go_at_call 37;clear z0 z1 z2 z3 z4;(with_reducible refine(zAA false dd true HBR.out H.out).mono ?_);rintro e_ wn ⟨rfl,h⟩;obtain⟨z0,z1,z2,z3,z4⟩:=uR5 h;simp at z0 z1 z2 z3 z4;replace H:=hQd h;clear h)
  |(go_at_call 38;clear z0 z1 z2 z3 z4;(with_reducible refine(zA0 dd true HKR.out HDL.out H.out).mono ?_);rintro e_ wn ⟨rfl,h⟩;obtain⟨z0,z1,z2,z3,z4⟩:=uR5 h;simp at z0 z1 z2 z3 z4;replace H:=hQd h;clear h))
 go_ret;exact⟨rfl,H.out.drop⟩
theorem zLi(dd:Bs)(ac tm v:Int)(l:List PTop)(q:Option Addr)(cap:Nat)(hdd:dd.length≤140737488355328)(hf:∀x∈l,CkT x)(hll:l.length≤4398046511104)(hr:(⟨false,dd⟩:BlobS).right=true)(hkr:zAv dd=true)(n1:¬ac< -1)(n2:¬1<ac)(n3:¬tm<0)(n4:¬2147483647<tm)(e:Int)(het:zAP l=e)(h0:e≠0)(hk:K.has (Know.ptops (.slice q l.length cap) l))(h:St W0 w K L):
 Calls Tryz.prog 12 #[.agg #[.bool false,.string (bb dd),.int .i64 ac,.int .i64 tm,.slice q l.length cap],.int .i64 v] w fun en w'=>en=.returned (.int .i64 e)∧St W0 w' K L:=by
 obtain⟨rb,hrb⟩:∃b,w.heap.size=b:=⟨_,rfl⟩;have g1:=h.allocRaw #[.bool false,.string (bb dd),.int .i64 ac,.int .i64 tm,.slice q l.length cap] 26;rw[hrb]at g1;obtain⟨z0,z1,z2,z3,z4⟩:=uR5 g1;simp at z0 z1 z2 z3 z4;have H:=hQd g1;have HK:=hQd hk;have HF:=hQd hf;have HTF:=hQd (zBU hf);have HLL:=hQd hll;have HDL:=hQd hdd;have HBR:=hQd hr;have HKR:=hQd hkr;have d1:decide (ac< -1)=false:=decide_eq_false n1;have d2:decide (1<ac)=false:=decide_eq_false n2;have d3:decide (tm<0)=false:=decide_eq_false n3;have d4:decide (2147483647<tm)=false:=decide_eq_false n4;have HET:=hQd het;have e1:(e==0)=false:=by rw[beq_eq_false_iff_ne];exact h0
 have e3:(e !=0)=true:=by simp[bne,e1]
 clear h g1 hk hf hll hdd hr hkr n1 n2 n3 n4 het h0;go_enter Tryz.func12,Tryz.ntmps12
 go_wp2_with (first
  |(go_at_call 37;clear z0 z1 z2 z3 z4;(with_reducible refine(zAA false dd true HBR.out H.out).mono ?_);rintro e_ wn ⟨rfl,h⟩;obtain⟨z0,z1,z2,z3,z4⟩:=uR5 h;simp at z0 z1 z2 z3 z4;replace H:=hQd h;clear h)
  |(go_at_call 38;clear z0 z1 z2 z3 z4;(with_reducible refine(zA0 dd true HKR.out HDL.out H.out).mono ?_);rintro e_ wn ⟨rfl,h⟩;obtain⟨z0,z1,z2,z3,z4⟩:=uR5 h;simp at z0 z1 z2 z3 z4;replace H:=hQd h;clear h)
  |(go_at_call 39;clear z0 z1 z2 z3 z4;(with_reducible refine(zCM l q cap e HET.out HTF.out HLL.out HK.out H.out).mono ?_);rintro e_ wn ⟨rfl,h⟩;obtain⟨z0,z1,z2,z3,z4⟩:=uR5 h;simp at z0 z1 z2 z3 z4;replace H:=hQd h;clear h))
 go_ret;exact⟨rfl,H.out.drop⟩
theorem zLj(dd:Bs)(ac tm v:Int)(l:List PTop)(q:Option Addr)(cap:Nat)(hdd:dd.length≤140737488355328)(hf:∀x∈l,CkT x)(hll:l.length≤4398046511104)(hr:(⟨false,dd⟩:BlobS).right=true)(hkr:zAv dd=true)(n1:¬ac< -1)(n2:¬1<ac)(n3:¬tm<0)(n4:¬2147483647<tm)(het:zAP l=0)(e:Int)(hep:zBO (!false) v l=e)(hk:K.has (Know.ptops (.slice q l.length cap) l))(h:St W0 w K L):
 Calls Tryz.prog 12 #[.agg #[.bool false,.string (bb dd),.int .i64 ac,.int .i64 tm,.slice q l.length cap],.int .i64 v] w fun en w'=>en=.returned (.int .i64 e)∧St W0 w' K L:=by
 obtain⟨rb,hrb⟩:∃b,w.heap.size=b:=⟨_,rfl⟩;have g1:=h.allocRaw #[.bool false,.string (bb dd),.int .i64 ac,.int .i64 tm,.slice q l.length cap] 26;rw[hrb]at g1;obtain⟨z0,z1,z2,z3,z4⟩:=uR5 g1;simp at z0 z1 z2 z3 z4;have H:=hQd g1;have HK:=hQd hk;have HF:=hQd hf;have HTF:=hQd (zBU hf);have HLL:=hQd hll;have HDL:=hQd hdd;have HBR:=hQd hr;have HKR:=hQd hkr;have d1:decide (ac< -1)=false:=decide_eq_false n1;have d2:decide (1<ac)=false:=decide_eq_false n2;have d3:decide (tm<0)=false:=decide_eq_false n3;have d4:decide (2147483647<tm)=false:=decide_eq_false n4;have HET:=hQd het;have HEP:=hQd hep;clear h g1 hk hf hll hdd hr hkr n1 n2 n3 n4 het hep;go_enter Tryz.func12,Tryz.ntmps12
 go_wp2_with (first
  |(go_at_call 37;clear z0 z1 z2 z3 z4;(with_reducible refine(zAA false dd true HBR.out H.out).mono ?_);rintro e_ wn ⟨rfl,h⟩;obtain⟨z0,z1,z2,z3,z4⟩:=uR5 h;simp at z0 z1 z2 z3 z4;replace H:=hQd h;clear h)
  |(go_at_call 38;clear z0 z1 z2 z3 z4;(with_reducible refine(zA0 dd true HKR.out HDL.out H.out).mono ?_);rintro e_ wn ⟨rfl,h⟩;obtain⟨z0,z1,z2,z3,z4⟩:=uR5 h;simp at z0 z1 z2 z3 z4;replace H:=hQd h;clear h)
  |(go_at_call 39;clear z0 z1 z2 z3 z4;(with_reducible refine(zCM l q cap 0 HET.out HTF.out HLL.out HK.out H.out).mono ?_);rintro e_ wn ⟨rfl,h⟩;obtain⟨z0,z1,z2,z3,z4⟩:=uR5 h;simp at z0 z1 z2 z3 z4;replace H:=hQd h;clear h)
  |(go_at_call 40;clear z0 z1 z2 z3 z4;(with_reducible refine(zHm false dd ac tm v l q cap e HEP.out HF.out HLL.out HK.out H.out).mono ?_);rintro e_ wn ⟨rfl,h⟩;obtain⟨z0,z1,z2,z3,z4⟩:=uR5 h;simp at z0 z1 z2 z3 z4;replace H:=hQd h;clear h))
 go_ret;exact⟨rfl,H.out.drop⟩
theorem zDO(nl:Bool)(dd:Bs)(ac tm v:Int)(l:List PTop)(q:Option Addr)(cap:Nat)(hdd:dd.length≤140737488355328)(hf:∀x∈l,CkT x)(hll:l.length≤4398046511104)(e:Int)(he:zAC ⟨nl,dd⟩ ac tm v l=e){W0 w:World}{K:Know}{L:List Res}(hk:K.has (Know.ptops (.slice q l.length cap) l))(h:St W0 w K L):
 Calls Tryz.prog 12 #[.agg #[.bool nl,.string (bb dd),.int .i64 ac,.int .i64 tm,.slice q l.length cap],.int .i64 v] w fun en w'=>en=.returned (.int .i64 e)∧St W0 w' K L:=by
 unfold zAC at he
 cases hr:(⟨nl,dd⟩:BlobS).right with
 |false=>
  rw[if_pos (.inl hr)]at he;subst he;exact rqc_r0 nl dd ac tm v l q cap hdd hf hll hr hk h
 |true=>
  cases nl with
  |true=>
   rw[if_neg (by simp[hr])]at he
   by_cases n1:ac< -1
   ·rw[if_pos (.inl n1)]at he;subst he;exact zLn dd ac tm v l q cap hdd hf hll hr n1 hk h
   by_cases n2:1<ac
   ·rw[if_pos (.inr (.inl n2))]at he;subst he;exact zLm dd ac tm v l q cap hdd hf hll hr n1 n2 hk h
   by_cases n3:tm<0
   ·rw[if_pos (.inr (.inr (.inl n3)))]at he;subst he;exact zLl dd ac tm v l q cap hdd hf hll hr n1 n2 n3 hk h
   by_cases n4:2147483647<tm
   ·rw[if_pos (.inr (.inr (.inr n4)))]at he;subst he;exact zLk dd ac tm v l q cap hdd hf hll hr n1 n2 n3 n4 hk h
   rw[if_neg oM]at he
   by_cases ht:zAP l=0
   ·rw[if_neg (by simp[ht])]at he;exact zNl dd ac tm v l q cap hdd hf hll hr n1 n2 n3 n4 ht e he hk h
   ·rw[if_pos ht]at he;exact zNk dd ac tm v l q cap hdd hf hll hr n1 n2 n3 n4 e he (by rw[←he];exact ht) hk h
  |false=>
   cases hkr:zAv dd with
   |false=>
    rw[if_pos (.inr ⟨rfl,hkr⟩)]at he;subst he;exact rqc_k0 dd ac tm v l q cap hdd hf hll hr hkr hk h
   |true=>
    rw[if_neg (by simp[hr,hkr])]at he
    by_cases n1:ac< -1
    ·rw[if_pos (.inl n1)]at he;subst he;exact zJH dd ac tm v l q cap hdd hf hll hr hkr n1 hk h
    by_cases n2:1<ac
    ·rw[if_pos (.inr (.inl n2))]at he;subst he;exact zJG dd ac tm v l q cap hdd hf hll hr hkr n1 n2 hk h
    by_cases n3:tm<0
    ·rw[if_pos (.inr (.inr (.inl n3)))]at he;subst he;exact zJF dd ac tm v l q cap hdd hf hll hr hkr n1 n2 n3 hk h
    by_cases n4:2147483647<tm
    ·rw[if_pos (.inr (.inr (.inr n4)))]at he;subst he;exact zJE dd ac tm v l q cap hdd hf hll hr hkr n1 n2 n3 n4 hk h
    rw[if_neg oM]at he
    by_cases ht:zAP l=0
    ·rw[if_neg (by simp[ht])]at he;exact zLj dd ac tm v l q cap hdd hf hll hr hkr n1 n2 n3 n4 ht e he hk h
    ·rw[if_pos ht]at he;exact zLi dd ac tm v l q cap hdd hf hll hr hkr n1 n2 n3 n4 e he (by rw[←he];exact ht) hk h
set_option maxHeartbeats 6000000
theorem zIK(po:Nat)(o:Bs)(nl:Bool)(dd:Bs)(ac tm v:Int)(l:List PTop)(q:Option Addr)(cap:Nat)(hdd:dd.length≤140737488355328)(hf:∀x∈l,CkT x)(hll:l.length≤1000000)(he:zAC ⟨nl,dd⟩ ac tm v l=0)(o2:Bs)(hs:o++zCi nl dd ac tm l=o2)(h2:o2.length≤9000000)(hrt:(⟨nl,dd⟩:BlobS).right=true)(hd2:dd.length≤32767)(hac: -32768≤ac∧ac<32768)(htm:0≤tm∧tm<2147483648)(hpt:∀x∈l,PutT x){W0 w:World}{K:Know}{L:List Res}(hk:K.has (Know.ptops (.slice q l.length cap) l))(h:St W0 w K (.out po ⟨o,0⟩::L)):
  Calls Tryz.prog 8 #[.agg #[.bool nl,.string (bb dd),.int .i64 ac,.int .i64 tm,.slice q l.length cap],zAO po,.int .i64 v] w fun en w'=>en=.returned (.tuple #[])∧St W0 w' K (.out po ⟨o2,0⟩::L):=by
 obtain⟨rb,hrb⟩:∃b,w.heap.size=b:=⟨_,rfl⟩;have g1:=(h.allocRaw #[.bool nl,.string (bb dd),.int .i64 ac,.int .i64 tm,.slice q l.length cap] 26).p1;rw[hrb]at g1;obtain⟨z0,z1,z2,z3,z4⟩:=uR5 g1.p1;simp at z0 z1 z2 z3 z4;have H:=hQd g1;have HK:=hQd hk;have HCF:=hQd hf;have HLL:=hQd hll;have HDD:=hQd hdd;have HER:=hQd he;obtain⟨A1,hA1⟩:∃A,o++encF 2 ⟨nl,dd⟩=A:=⟨_,rfl⟩;obtain⟨A2,hA2⟩:∃A,A1++zAd ac (2:Int).toNat=A:=⟨_,rfl⟩;obtain⟨A3,hA3⟩:∃A,A2++zAd tm (4:Int).toNat=A:=⟨_,rfl⟩;obtain⟨A4,hA4⟩:∃A,A3++zAd (l.length:Int) (4:Int).toNat=A:=⟨_,rfl⟩
 have hR:A4++(l.drop 0).flatMap zAJ=o2:=by
  rw[←hs,←hA4,←hA3,←hA2,←hA1,List.drop_zero];unfold zCi;simp only[List.append_assoc]
 have l4:=zA8 hR h2;have l3:=zA8 hA4 l4;have l2:=zA8 hA3 l3;have l1:=zA8 hA2 l2;have l0:=zA8 hA1 l1;have HA1:=hQd hA1;have HA2:=hQd hA2;have HA3:=hQd hA3;have HA4:=hQd hA4;have HR:=hQd hR;have HO2:=hQd h2;have L0:=hQd (show o.length≤100000000000000 by omega);have L1:=hQd (show A1.length≤100000000000000 by omega);have L2:=hQd (show A2.length≤100000000000000 by omega);have L3:=hQd (show A3.length≤100000000000000 by omega);have HRT:=hQd hrt;have HD2:=hQd hd2;have FA:=hQd (zMK ac hac);have FT:=hQd (zKk tm oM);have FL:=hQd (zKk (l.length:Int) oM);have RA:=hQd (show -9223372036854775808≤ac∧ac<9223372036854775808 by omega);have RT:=hQd (show -9223372036854775808≤tm∧tm<9223372036854775808 by omega);have RL:=hQd (show -9223372036854775808≤(l.length:Int)∧(l.length:Int)<9223372036854775808 by omega);have HPT:=hQd hpt;have hni:(l.length:Int)≤4398046511104:=by omega
 clear h g1 hk hf hll hdd he hs h2 hrt hd2 hac htm hpt hA1 hA2 hA3 hA4 hR l4 l3 l2 l1 l0;go_enter Tryz.func8,Tryz.ntmps8
 go_wp2_with (first
  |(go_at_call 12;clear z0 z1 z2 z3 z4;(with_reducible refine(zDO nl dd ac tm v l q cap HDD.out HCF.out (Nat.le_trans HLL.out dD) 0 HER.out HK.out H.out).mono ?_);rintro e_ wn ⟨rfl,h⟩;obtain⟨z0,z1,z2,z3,z4⟩:=uR5 h.p1;simp at z0 z1 z2 z3 z4;replace H:=hQd h;clear h)
  |(go_at_call 31;clear z0 z1 z2 z3 z4;(with_reducible refine(zKm po o A1 nl dd HA1.out HRT.out HD2.out L0.out H.out).mono ?_);rintro e_ wn ⟨rfl,h⟩;obtain⟨z0,z1,z2,z3,z4⟩:=uR5 h.p1;simp at z0 z1 z2 z3 z4;replace H:=hQd h;clear h)
  |(go_at_call 32;clear z0 z1 z2 z3 z4;(with_reducible refine(zGO po A1 A2 ac 2 HA2.out FA.out RA.out L1.out H.out).mono ?_);rintro e_ wn ⟨rfl,h⟩;obtain⟨z0,z1,z2,z3,z4⟩:=uR5 h.p1;simp at z0 z1 z2 z3 z4;replace H:=hQd h;clear h)
  |(go_at_call 32;clear z0 z1 z2 z3 z4;(with_reducible refine(zGO po A2 A3 tm 4 HA3.out FT.out RT.out L2.out H.out).mono ?_);rintro e_ wn ⟨rfl,h⟩;obtain⟨z0,z1,z2,z3,z4⟩:=uR5 h.p1;simp at z0 z1 z2 z3 z4;replace H:=hQd h;clear h)
  |(go_at_call 32;clear z0 z1 z2 z3 z4;(with_reducible refine(zGO po A3 A4 l.length 4 HA4.out FL.out RL.out L3.out H.out).mono ?_);rintro e_ wn ⟨rfl,h⟩;obtain⟨z0,z1,z2,z3,z4⟩:=uR5 h.p1;simp at z0 z1 z2 z3 z4;replace H:=hQd h;clear h))
 clear z0 z1 z2 z3 z4;go_loopw [39] (fun iv wr=>∃(k:Nat) (E:Bs),k≤l.length∧iv=.int .i64 k∧Hid (E++(l.drop k).flatMap zAJ=o2)∧St W0 wr K (.out po ⟨E,0⟩::.raw rb #[.bool nl,.string (bb dd),.int .i64 ac,.int .i64 tm,.slice q l.length cap] 26::L)) (fun iv _=>l.length - (intOf iv).toNat)
 case atStart=>exact⟨0,A4,Nat.zero_le _,rfl,HR,H.out⟩
 case round=>
  obtain⟨k,E,hkl,rfl,HE,hst⟩:=hrel;clear H HR;have H:=hQd hst;clear hst
  by_cases hlt:k<l.length
  · obtain⟨bk,off,hqq⟩:=zB9 HK.out H.out oM;obtain⟨x,hx⟩:∃x,l[k]=x:=⟨_,rfl⟩;have hmem:x∈l:=hx ▸ List.getElem_mem hlt;have hpx:=HPT.out x hmem;have HK':=HK.out;rw[hqq]at HK';obtain⟨c0,c1⟩:=zAZ HK' H.out k hlt x hx;have HXK0:=zA5 HK.out hmem;have he:=HE.out;rw[zF0 zAJ l k hlt x hx]at he;have hkn:(k:Int)<(l.length:Int):=by omega
    obtain⟨nm,xl,xq,xcap⟩:=x;simp only at c0 c1 HXK0;obtain⟨B1,hB1⟩:∃B,E++encF 2 ⟨false,nm⟩=B:=⟨_,rfl⟩;obtain⟨B2,hB2⟩:∃B,B1++zAd (xl.length:Int) (4:Int).toNat=B:=⟨_,rfl⟩
    have hI:B2++((xl.drop 0).flatMap zAL++(l.drop (k+1)).flatMap zAJ)=o2:=by
     rw[←he,←hB2,←hB1,List.drop_zero];unfold zAJ;simp only[List.append_assoc]
    have hxl:xl.length≤100000:=hpx.few;have hxi:(xl.length:Int)≤100000:=by omega
    have l2:=zA8 hI HO2.out;have l1:=zA8 hB2 l2;have l0:=zA8 hB1 l1;have HB1:=hQd hB1;have HB2:=hQd hB2;have HI:=hQd hI;have HNM:=hQd (show nm.length≤32767 from hpx.name);have M0:=hQd (show E.length≤100000000000000 by omega);have M1:=hQd (show B1.length≤100000000000000 by omega);have FX:=hQd (zKk (xl.length:Int) oM);have RX:=hQd (show -9223372036854775808≤(xl.length:Int)∧(xl.length:Int)<9223372036854775808 by omega);have HXK:=hQd HXK0;have HPP:=hQd (show ∀y∈xl,PutP y from hpx.parts);subst hqq;clear hx hmem hpx HK' HXK0 he hxl hB1 hB2 hI l2 l1 l0
    go_wp2_with (first
  |(go_at_call 33;(with_reducible refine(zNL po E B1 nm HB1.out HNM.out M0.out ((H.out.allocRaw #[.string (bb nm),.slice xq xl.length xcap] 65).p1)).mono ?_);rintro e_ wn ⟨rfl,h⟩;obtain⟨y0,y1⟩:=uR2 h.p1;simp at y0 y1;replace H:=hQd h;clear h)
  |(go_at_call 32;clear y0 y1;(with_reducible refine(zGO po B1 B2 xl.length 4 HB2.out FX.out RX.out M1.out H.out).mono ?_);rintro e_ wn ⟨rfl,h⟩;have y1:=h.p1.rawCell 1;simp at y1;replace H:=hQd h;clear h))
    clear y1;go_loopw [55] (fun jv wr=>∃(j:Nat) (G:Bs),j≤xl.length∧jv=.int .i64 j∧Hid (G++((xl.drop j).flatMap zAL++(l.drop (k+1)).flatMap zAJ)=o2)∧St W0 wr K (.out po ⟨G,0⟩::.raw rb #[.bool nl,.string (bb dd),.int .i64 ac,.int .i64 tm,.slice (some ⟨bk,off,none⟩) l.length cap] 26::L)) (fun jv _=>xl.length - (intOf jv).toNat)
    case atStart=>exact⟨0,B2,Nat.zero_le _,rfl,HI,H.out.p1.drop⟩
    case round=>
     obtain⟨j,G,hjl,rfl,HG,hst⟩:=hrel;clear H HI c0 c1;have H:=hQd hst;clear hst
     by_cases hjt:j<xl.length
     · obtain⟨pk,poff,hpq⟩:=zBB HXK.out H.out oM;subst hpq;obtain⟨y,hy⟩:∃y,xl[j]=y:=⟨_,rfl⟩;have hmem:y∈xl:=hy ▸ List.getElem_mem hjt;have hpy:=HPP.out y hmem;obtain⟨d0,d1⟩:=zAW HXK.out H.out j hjt y hy;have HYK0:=zBp HXK.out hmem;have hg:=HG.out;rw[zF0 zAL xl j hjt y hy]at hg;have hjn:(j:Int)<(xl.length:Int):=by omega
       obtain⟨yi,yl,yq,ycap⟩:=y;simp only at d0 d1 HYK0;obtain⟨G2,hG2⟩:∃B,G++zAL ⟨yi,yl,yq,ycap⟩=B:=⟨_,rfl⟩
       have hI:G2++((xl.drop (j+1)).flatMap zAL++(l.drop (k+1)).flatMap zAJ)=o2:=by
        rw[←hg,←hG2];simp only[List.append_assoc]
       have l1:=zA8 hI HO2.out;have l0:=zA8 hG2 l1;have HYK:=hQd HYK0;have HPY:=hQd hpy;have HG2:=hQd hG2;have HI2:=hQd hI;have M2:=hQd (show G.length≤10000000 by omega);clear hy hmem hpy HYK0 hg hG2 hI l1 l0;go_wp2_with (go_at_call 34;(with_reducible refine(zP2 po G G2 yi yl yq ycap HPY.out HG2.out M2.out HYK.out ((H.out.allocRaw #[.int .i64 yi,.slice yq yl.length ycap] 68).p1)).mono ?_);rintro e_ wn ⟨rfl,h⟩;have h:=h.p1.drop;replace H:=hQd h;clear h);go_roundw
       case rel=>
        refine⟨j+1,G2,hjt,by go_num,HI2,?_⟩;exact H.out
       case measure=>first|(simp[intOf];done)|(simp[intOf];omega)
     · obtain rfl:j=xl.length:=by omega
       have HE2:=hQd (show G++(l.drop (k+1)).flatMap zAJ=o2 by have hg:=HG.out;rw[List.drop_length]at hg;exact hg);go_wp2_with fail;go_roundw
       case rel=>
        refine⟨k+1,G,hlt,by go_num,HE2,?_⟩;exact H.out
       case measure=>first|(simp[intOf];done)|(simp[intOf];omega)
  · obtain rfl:k=l.length:=by omega
    have he:=HE.out;rw[List.drop_length,List.flatMap_nil,List.append_nil]at he;subst he;go_wp2_with fail;go_end0;exact⟨rfl,H.out.p1.drop⟩
def pw (n:Nat):Bool:=decide (n∈[28,27,26,25,23,22,20,19,18,14,13,11,10,9,8,6,0])
theorem pw_cP:∀j,j<32→pw (31 - j)=cP.getLsbD j:=by decide
def zDX (m:List Bool) (i:Nat):Nat→List Bool
 |0=>m
 |k+1=>(zDX m i k).set (i+(k+1)) ((zDX m i k).getD (i+(k+1)) false ^^ pw (31 - k))
def zCo (m:List Bool):Nat→List Bool
 |0=>m
 |i+1=>if (zCo m i).getD i false then zDX (zCo m i) i 32 else zCo m i
def zCw:Nat→List Bool→List Bool
 |0,m=>m
 |k+1,m=>(zCw k m).set k (!(zCw k m).getD k false)
theorem zG7(m:List Bool)(i k:Nat):(zDX m i k).length=m.length:=by
 induction k with
 |zero=>rfl
 |succ k ih=>show(List.set _ _ _).length=_;rw[List.length_set,ih]
theorem zEt(m:List Bool)(i:Nat):(zCo m i).length=m.length:=by
 induction i with
 |zero=>rfl
 |succ i ih=>
  show(if _ then _ else _:List Bool).length=_
  split
  ·rw[zG7,ih]
  ·exact ih
theorem zDH(m:List Bool)(k:Nat):(zCw k m).length=m.length:=by
 induction k with
 |zero=>rfl
 |succ k ih=>show(List.set _ _ _).length=_;rw[List.length_set,ih]
theorem zI2(m:List Bool)(i x:Nat)(b:Bool)(h:i<m.length):(m.set i b).getD x false=if x=i then b else m.getD x false:=by
 rw[List.getD_eq_getElem?_getD,List.getD_eq_getElem?_getD,List.getElem?_set]
 by_cases hx:i=x
 ·subst hx;simp[h]
 ·have hx2:¬x=i:=fun e=>hx e.symm
  simp[hx,hx2]
theorem zNd(m:List Bool)(k:Nat)(h:k≤m.length)(x:Nat):(zCw k m).getD x false=if x<k then !m.getD x false else m.getD x false:=by
 induction k with
 |zero=>simp[zCw]
 |succ k ih=>
  have ih:=ih (by omega)
  show((zCw k m).set k (!(zCw k m).getD k false)).getD x false=_
  rw[zI2 _ _ _ _ (by rw[zDH];omega)]
  by_cases hx:x=k
  ·subst hx;rw[if_pos rfl,ih,if_neg (by omega),if_pos (by omega)]
  ·rw[if_neg hx,ih]
   by_cases h2:x<k
   ·rw[if_pos h2,if_pos (by omega)]
   ·rw[if_neg h2,if_neg (by omega)]
theorem zO7(m:List Bool)(i k:Nat)(h:i+k<m.length)(x:Nat):(zDX m i k).getD x false=if i<x∧x≤i+k then(m.getD x false ^^ pw (32 - (x - i)))else m.getD x false:=by
 induction k generalizing x with
 |zero=>
  show m.getD x false=_
  rw[if_neg (by omega)]
 |succ k ih=>
  have ih:=fun x=>ih (by omega) x
  show((zDX m i k).set (i+(k+1)) ((zDX m i k).getD (i+(k+1)) false ^^ pw (31 - k))).getD x false=_
  rw[zI2 _ _ _ _ (by rw[zG7];omega)]
  by_cases hx:x=i+(k+1)
  ·subst hx;rw[if_pos rfl,ih,if_neg (by omega),if_pos (by omega),show 32 - (i+(k+1) - i)=31 - k by omega]
  ·rw[if_neg hx,ih]
   by_cases h2:i<x∧x≤i+k
   ·rw[if_pos h2,if_pos (by omega)]
   ·rw[if_neg h2,if_neg (by omega)]
theorem zPG(b:Bool)(j:Nat):(b2w b).getLsbD j=(decide (j=0) && b):=by
 cases b
 ·simp[b2w]
 ·cases j with
  |zero=>rfl
  |succ j=>simp[b2w]
theorem zPR(r:W32)(j:Nat)(hj:j<32):(step r).getLsbD j=(r.getLsbD (j+1) ^^ (r.getLsbD 0 && pw (31 - j))):=by
 unfold step;rw[BitVec.getLsbD_xor,BitVec.getLsbD_ushiftRight,Nat.add_comm 1 j,pw_cP j hj]
 cases r.getLsbD 0<;>simp
theorem zNO(b:List Bool)(r:W32)(m:List Bool)(hm:m.length=b.length+32)(h0:∀x,m.getD x false=if x<32 then(r.getLsbD x ^^ b.getD x false)else b.getD x false):
 ∀i,i≤b.length→∀x,i≤x→(zCo m i).getD x false=if x<i+32 then((feed r (b.take i)).getLsbD (x - i) ^^ b.getD x false)else b.getD x false:=by
 intro i
 induction i with
 |zero=>
  intro _ x _
  show m.getD x false=_
  rw[h0 x,Nat.zero_add,Nat.sub_zero,List.take_zero]
  rfl
 |succ i ih=>
  intro hi x hx;have ih:=ih (by omega);have hb:i<b.length:=by omega
  have hf:feed r (b.take (i+1))=step (feed r (b.take i) ^^^ b2w b[i]):=by
   rw[List.take_succ_eq_append_getElem hb,zHc]
   rfl
  have hbi:b.getD i false=b[i]:=by rw[List.getD_eq_getElem?_getD,List.getElem?_eq_getElem hb];rfl
  have hi0:=ih i (Nat.le_refl _);rw[if_pos (by omega),Nat.sub_self,hbi]at hi0;have hx0:=ih x (by omega)
  have hq:(zCo m (i+1)).getD x false=((zCo m i).getD x false ^^ ((zCo m i).getD i false && (decide (x≤i+32) && pw (32 - (x - i))))):=by
   show(if (zCo m i).getD i false then zDX (zCo m i) i 32 else zCo m i).getD x false=_
   cases hc:(zCo m i).getD i false with
   |false=>simp
   |true=>
    rw[if_pos rfl,zO7 _ _ _ (by rw[zEt];omega)]
    by_cases h2:x≤i+32
    ·rw[if_pos ⟨by omega,h2⟩];simp[h2]
    ·rw[if_neg (by omega)];simp[h2]
  rw[hq,hi0,hf];generalize feed r (b.take i)=R at hx0 ⊢;generalize b[i]=c
  by_cases h1:x<i+1+32
  ·have hj:x - (i+1)<32:=by omega
   rw[if_pos h1,zPR _ _ hj,BitVec.getLsbD_xor,BitVec.getLsbD_xor,zPG,zPG,show x - (i+1)+1=x - i by omega,show 31 - (x - (i+1))=32 - (x - i) by omega];have e1:decide (x≤i+32)=true:=decide_eq_true (by omega);have e2:decide (x - i=0)=false:=decide_eq_false (by omega);rw[e1,e2,hx0]
   by_cases h3:x<i+32
   ·rw[if_pos h3]
    cases R.getLsbD (x - i)<;>cases b.getD x false<;>cases R.getLsbD 0<;>cases c<;>simp
   ·rw[if_neg h3];have e3:R.getLsbD (x - i)=false:=BitVec.getLsbD_of_ge _ _ (by omega);rw[e3]
    cases b.getD x false<;>cases R.getLsbD 0<;>cases c<;>simp
  ·rw[if_neg h1,hx0,if_neg (by omega)];have e1:decide (x≤i+32)=false:=decide_eq_false (by omega);rw[e1]
   simp
def zBM (f:Nat→Bool):Nat→Nat
 |0=>0
 |k+1=>zBM f k*2+(if f (31 - k)then 1 else 0)
def zD3 (s:Bs):List Bool:=zBx s++List.replicate 32 false
def zI4 (s:Bs):List Bool:=zCo (zCw 32 (zD3 s)) (8*s.length)
theorem zEk(s:Bs):(zD3 s).length=8*s.length+32:=by unfold zD3;rw[List.length_append,zDl,List.length_replicate]
theorem zJI(s:Bs)(x:Nat):(zD3 s).getD x false=(zBx s).getD x false:=by
 unfold zD3;rw[List.getD_eq_getElem?_getD,List.getD_eq_getElem?_getD,List.getElem?_append]
 split
 ·rfl
 ·next h=>
  rw[List.getElem?_eq_none (l:=zBx s) (by omega),List.getElem?_replicate]
  split<;>rfl
theorem zL4(s:Bs)(j:Nat)(hj:j<32):(zI4 s).getD (8*s.length+j) false= !((zAm 0#32 s).getLsbD j):=by
 have hl:=zDl s
 have h:=zNO (zBx s) (BitVec.allOnes 32) (zCw 32 (zD3 s)) (by rw[zDH,zEk,hl]) (fun x=>by
  rw[zNd _ _ (by rw[zEk];omega),zJI]
  by_cases hx:x<32
  · rw[if_pos hx,if_pos hx,BitVec.getLsbD_allOnes];simp[hx]
  · rw[if_neg hx,if_neg hx]) (8*s.length) (by omega) (8*s.length+j) (by omega)
 unfold zI4;rw[h,if_pos (by omega),Nat.add_sub_cancel_left,List.take_of_length_le (by omega)];have hz:(zBx s).getD (8*s.length+j) false=false:=by rw[List.getD_eq_getElem?_getD,List.getElem?_eq_none (by omega)];rfl
 rw[hz];unfold zAm;rw[zL5,BitVec.getLsbD_not];simp[hj]
theorem zFy(r:W32):∀k,k≤32→zBM (fun j=>r.getLsbD j) k=r.toNat / 2 ^ (32 - k)
 |0,_=>by
  show 0=_
  rw[Nat.sub_zero,Nat.div_eq_of_lt r.isLt]
 |k+1,hk=>by
  have ih:=zFy r k (by omega)
  show zBM (fun j=>r.getLsbD j) k*2+(if r.getLsbD (31 - k)then 1 else 0)=_
  rw[ih,show 32 - k=31 - k+1 by omega,show 32 - (k+1)=31 - k by omega,Nat.pow_succ,←Nat.div_div_eq_div_mul]
  have hb:r.getLsbD (31 - k)=decide (r.toNat / 2 ^ (31 - k) % 2=1):=by
   rw[BitVec.getLsbD,Nat.testBit_eq_decide_div_mod_eq]
  rw[hb];generalize r.toNat / 2 ^ (31 - k)=a
  by_cases h:a % 2=1
  ·simp[h];omega
  ·simp[h];omega
theorem zGL(f g:Nat→Bool)(h:∀j,j<32→f j=g j):∀k,k≤32→zBM f k=zBM g k
 |0,_=>rfl
 |k+1,hk=>by
  show zBM f k*2+_=zBM g k*2+_
  rw[zGL f g h k (by omega),h (31 - k) (by omega)]
theorem zL3(s:Bs):zBM (fun j=> !(zI4 s).getD (8*s.length+j) false) 32=(zAm 0#32 s).toNat:=by
 rw[zGL _ (fun j=>(zAm 0#32 s).getLsbD j) (fun j hj=>by rw[zL4 s j hj];simp) 32 (Nat.le_refl _),zFy _ 32 (Nat.le_refl _)]
 simp
theorem zHS(f:Nat→Bool):∀k,zBM f k<2 ^ k
 |0=>by show 0<2 ^ 0;omega
 |k+1=>by
  have:=zHS f k
  show zBM f k*2+_< _
  rw[Nat.pow_succ]
  split<;>omega
def bitN (b:Bool):Nat:=if b then 1 else 0
def pwL:List Nat:=[28,27,26,25,23,22,20,19,18,14,13,11,10,9,8,6,0]
def pwC:Array Value:= #[.int .i64 28,.int .i64 27,.int .i64 26,.int .i64 25,.int .i64 23,.int .i64 22,.int .i64 20,.int .i64 19,.int .i64 18,.int .i64 14,.int .i64 13,.int .i64 11,.int .i64 10,.int .i64 9,.int .i64 8,.int .i64 6,.int .i64 0]
theorem zRt:∀k,k<17→pwC[k]? =some (.int .i64 ((pwL.getD k 0:Nat):Int))
 |0,_=>rfl
 |1,_=>rfl
 |2,_=>rfl
 |3,_=>rfl
 |4,_=>rfl
 |5,_=>rfl
 |6,_=>rfl
 |7,_=>rfl
 |8,_=>rfl
 |9,_=>rfl
 |10,_=>rfl
 |11,_=>rfl
 |12,_=>rfl
 |13,_=>rfl
 |14,_=>rfl
 |15,_=>rfl
 |16,_=>rfl
 |k+17,h=>absurd h (by omega)
theorem pw_yes:∀k,k<17→pw (pwL.getD k 0)=true:=by decide
theorem pw_no(n:Nat)(h:∀j,j<17→pwL.getD j 0≠n):pw n=false:=by
 unfold pw;rw[decide_eq_false_iff_not];intro hm;have e:pwL=[28,27,26,25,23,22,20,19,18,14,13,11,10,9,8,6,0]:=rfl;rw[←e]at hm;obtain⟨j,hj,hg⟩:=List.getElem_of_mem hm;exact h j hj (by rw[List.getD_eq_getElem?_getD,List.getElem?_eq_getElem hj];exact hg)
theorem zRV(s:Bs)(i:Nat)(hi:i<8*s.length)(h:i / 8<s.length):(s[i / 8].toNat / 2 ^ (i % 8)) % 2=bitN ((zBx s).getD i false):=by
 rw[zN4];have e:s.getD (i / 8) 0=s[i / 8]:=by rw[List.getD_eq_getElem?_getD,List.getElem?_eq_getElem h];rfl
 rw[e,Nat.testBit_eq_decide_div_mod_eq];generalize s[i / 8].toNat / 2 ^ (i % 8)=a;unfold bitN
 by_cases h:a % 2=1
 ·simp[h]
 ·simp[h];omega
variable {W0 w:World}{K:Know}{L:List Res}
theorem zLz(n:Nat)(hn:n<32)(h:St W0 w K L):
  Calls Tryz.prog 115 #[.int .i64 n] w fun en w'=>en=.returned (.int .i64 (bitN (pw n)))∧St W0 w' K L:=by
 have H:=hQd h;clear h;go_enter Tryz.func115,Tryz.ntmps115;go_wp2;have hal:=H.out.allocRaw pwC 3;obtain⟨bP,hbP⟩:∃b,w.heap.size=b:=⟨_,rfl⟩;rw[hbP]at hal;clear H;have H:=hQd hal;clear hal;go_loopw [2,4] (fun s2 iv wr=>∃k:Nat,k≤17∧s2=.int .i64 0∧iv=.int .i64 k∧(∀j,j<k→pwL.getD j 0≠n)∧St W0 wr K (.raw bP pwC 3::L)) (fun _ iv _=>17 - (intOf iv).toNat)
 case atStart=>exact⟨0,oM,rfl,rfl,(fun j h=>absurd h oM),H.out⟩
 case round=>
  obtain⟨k,hk,rfl,rfl,hno,hst⟩:=hrel;clear H;have H:=hQd hst;have HNO:=hQd hno;clear hst hno
  by_cases hlt:k<17
  · have c0:=H.out.rawCell k;rw[zRt k hlt]at c0;obtain⟨m,hm⟩:∃m,pwL.getD k 0=m:=⟨_,rfl⟩;rw[hm]at c0;have hki:(k:Int)<17:=by omega
    by_cases he:m=n
    · subst he;have HY:=hQd (show pw m=true by rw[←hm];exact pw_yes k hlt);clear hm;go_wp2;go_ret;exact⟨by rw[HY.out];rfl,H.out.drop⟩
    · have he2:((m:Int)==(n:Int))=false:=by rw[beq_eq_false_iff_ne];omega
      have HN2:=hQd (show ∀j,j<k+1→pwL.getD j 0≠n by
       intro j hj
       by_cases hjk:j=k
       · subst hjk;rw[hm];exact he
       · exact HNO.out j oM)
      clear hm;go_wp2;go_roundw
      case rel=>exact⟨k+1,hlt,rfl,by go_num,HN2.out,H.out⟩
      case measure=>first|(simp[intOf];done)|(simp[intOf];omega)
  · have hkl:k=17:=by omega
    subst hkl;go_wp2;go_ret;exact⟨by rw[pw_no n HNO.out];rfl,H.out.drop⟩
theorem zOG(s:Bs)(i:Nat)(hi:i<8*s.length)(hs:s.length≤1000000)(h:St W0 w K L):
 Calls Tryz.prog 114 #[.string (bb s),.int .i64 i] w fun en w'=>en=.returned (.int .i64 (bitN ((zBx s).getD i false)))∧St W0 w' K L:=by
 have H:=hQd h;clear h;obtain⟨q,hq⟩:∃q,i / 8=q:=⟨_,rfl⟩;obtain⟨r,hr⟩:∃r,i % 8=r:=⟨_,rfl⟩;have t1:(i:Int).tdiv 8=(q:Int):=by rw[←hq];rfl
 have t2:(i:Int).tmod 8=(r:Int):=by rw[←hr];rfl
 have hqs:q<s.length:=by omega
 have hr8:r<8:=by omega
 have HB:=hQd (show(s[q].toNat / 2 ^ r) % 2=bitN ((zBx s).getD i false) by have:=zRV s i hi oM;simp only[hq,hr]at this;exact this);clear hq hr;go_enter Tryz.func114,Tryz.ntmps114;go_wp2;go_loopw [5,6] (fun c iv wr=>∃k:Nat,k≤r∧c=.int .i64 ((s[q].toNat / 2 ^ k:Nat):Int)∧iv=.int .i64 k∧St W0 wr K L) (fun _ iv _=>r - (intOf iv).toNat)
 case atStart=>exact⟨0,Nat.zero_le _,by have h8:=s[q].toNat_lt;simp;unfold wrap64;omega,rfl,H.out⟩
 case round=>
  obtain⟨k,hk,rfl,rfl,hst⟩:=hrel;clear H;have H:=hQd hst;clear hst;obtain⟨c,hc⟩:∃c,s[q].toNat / 2 ^ k=c:=⟨_,rfl⟩
  have hc8:c<256:=by
   have h1:s[q].toNat / 2 ^ k≤s[q].toNat:=Nat.div_le_self _ _;have h2:=s[q].toNat_lt
   omega
  rw[hc]
  by_cases hlt:k<r
  ·have hki:(k:Int)<(r:Int):=by omega
   have HC:=hQd (show s[q].toNat / 2 ^ (k+1)=c / 2 by rw[Nat.pow_succ,←Nat.div_div_eq_div_mul,hc]);have t3:(c:Int).tdiv 2=((c / 2:Nat):Int):=rfl;clear hc;go_wp2;go_roundw
   case rel=>exact⟨k+1,hlt,by rw[HC.out];rfl,by go_num,H.out⟩
   case measure=>first|(simp[intOf];done)|(simp[intOf];omega)
  ·have hkl:k=r:=by omega
   subst hkl;rw[hc]at HB;have t3:(c:Int).tmod 2=((c % 2:Nat):Int):=rfl;clear hc;go_wp2;go_ret;exact⟨by rw[←HB.out];rfl,H.out⟩
def zCe (l:List Bool):Array Value:=(l.map fun b=>Value.int .i64 (bitN b)).toArray
theorem zIa(l:List Bool)(j:Nat)(h:j<l.length):(zCe l)[j]? =some (.int .i64 (bitN (l.getD j false))):=by
 unfold zCe;rw[List.getElem?_toArray,List.getElem?_map,List.getD_eq_getElem?_getD,List.getElem?_eq_getElem h]
 rfl
theorem zN3(l:List Bool)(k:Nat)(b:Bool)(x:Int)(hx:((bitN b:Nat):Int)=x):(zCe l).setIfInBounds k (.int .i64 x)=zCe (l.set k b):=by
 subst hx;unfold zCe;rw[List.setIfInBounds_toArray,List.map_set]
theorem zL7(n:Nat):madeCells #[.int .i64 0] n=zCe (List.replicate n false):=by
 refine Array.ext_getElem? fun i=> ?_
 by_cases hi:i<n
 ·rw[zIa _ _ (by simpa using hi),List.getD_eq_getElem?_getD,List.getElem?_replicate,if_pos hi];simp[madeCells,hi,Nat.mod_one,bitN]
 ·rw[Array.getElem?_eq_none (by rw[size_madeCells];first|omega|(simp;omega)),Array.getElem?_eq_none (by simp[zCe];omega)]
theorem zQx{a b:List Bool}(hl:a.length=b.length)(h:∀x,x<a.length→a.getD x false=b.getD x false):a=b:=by
 refine List.ext_getElem hl fun i h1 h2=> ?_
 have:=h i h1;rw[List.getD_eq_getElem?_getD,List.getD_eq_getElem?_getD,List.getElem?_eq_getElem h1,List.getElem?_eq_getElem h2]at this;exact this
def zHE (s:Bs) (m:Nat):Nat→List Bool
 |0=>List.replicate m false
 |k+1=>(zHE s m k).set k ((zBx s).getD k false)
theorem zHb(s:Bs)(m k:Nat):(zHE s m k).length=m:=by
 induction k with
 |zero=>show(List.replicate _ _).length=_;rw[List.length_replicate]
 |succ k ih=>show(List.set _ _ _).length=_;rw[List.length_set,ih]
theorem zPe(s:Bs)(m k:Nat)(h:k≤m)(x:Nat):(zHE s m k).getD x false=if x<k then(zBx s).getD x false else false:=by
 induction k with
 |zero=>
  show(List.replicate _ _).getD x false=_
  rw[List.getD_eq_getElem?_getD,List.getElem?_replicate]
  split<;>rfl
 |succ k ih=>
  have ih:=ih oM
  show((zHE s m k).set k _).getD x false=_
  rw[zI2 _ _ _ _ (by rw[zHb];omega)]
  by_cases hx:x=k
  ·subst hx;rw[if_pos rfl,if_pos oM]
  ·rw[if_neg hx,ih]
   by_cases h2:x<k
   ·rw[if_pos h2,if_pos oM]
   ·rw[if_neg h2,if_neg oM]
theorem zPd(s:Bs)(n:Nat)(h:8*s.length=n):zHE s (n+32) n=zD3 s:=by
 refine zQx (by rw[zHb,zEk,h]) fun x _=> ?_
 rw[zPe _ _ _ oM,zJI]
 split
 ·rfl
 ·next hx=>
  rw[List.getD_eq_getElem?_getD,List.getElem?_eq_none (by rw[zDl];omega)]
  rfl
theorem St.bitCell{b:Nat}{l:List Bool}{T:TypeId}(h:St W0 w K (.raw b (zCe l) T::L))(k:Nat)(hk:k<l.length)(c:Bool)(hc:l.getD k false=c):w.cell? ⟨b,k,none⟩=some (.int .i64 (bitN c)):=by
 rw[h.rawCell k,zIa l k hk,hc]
theorem St.bitSet{b:Nat}{l:List Bool}{T:TypeId}(h:St W0 w K (.raw b (zCe l) T::L))(k:Nat)(c:Bool)(x:Int)(hx:((bitN c:Nat):Int)=x):St W0 (w.setCell ⟨b,k,none⟩ (.int .i64 x)) K (.raw b (zCe (l.set k c)) T::L):=by
 rw[←zN3 l k c x hx];exact h.rawSet k _
theorem zO2(n N:Nat)(h:n+32=N)(hn:N≤9000000)(w:World):(Instr.makeSlice 127 (.int .i64 (N:Int)) (.int .i64 (N:Int))).run Tryz.prog w=.ok (.slice (some ⟨w.heap.size,0,none⟩) N N) (w.alloc (.cells (zCe (List.replicate N false)) 3 (0,0))):=by
 rw[←zL7];exact run_make_row' 127 3 (.int .i64 0) 8 Tryz.underlying127 (by kernel_rfl) rfl .i64 .i64 N oM oM w
theorem zFw(n:Nat)(hn:n<32)(c:Bool)(hc:pw n=c)(h:St W0 w K L):
 Calls Tryz.prog 115 #[.int .i64 n] w fun en w'=>en=.returned (.int .i64 (bitN c))∧St W0 w' K L:=by
 subst hc;exact zLz n hn h
theorem zNx(s:Bs)(i:Nat)(hi:i<8*s.length)(hs:s.length≤1000000)(c:Bool)(hc:(zBx s).getD i false=c)(h:St W0 w K L):
 Calls Tryz.prog 114 #[.string (bb s),.int .i64 i] w fun en w'=>en=.returned (.int .i64 (bitN c))∧St W0 w' K L:=by
 subst hc;exact zOG s i hi hs h
set_option maxHeartbeats 8000000
theorem zNw(s:Bs)(hs:s.length≤1000000){W0 w:World}{K:Know}{L:List Res}(h:St W0 w K L):
 Calls Tryz.prog 84 #[.string (bb s)] w fun en w'=>en=.returned (.int .u32 (zAm 0#32 s).toNat)∧St W0 w' K L:=by
 have H:=hQd h;clear h;obtain⟨n,hn⟩:∃n,8*s.length=n:=⟨_,rfl⟩;obtain⟨N,hN⟩:∃N,n+32=N:=⟨_,rfl⟩;have e8:(8:Int)*(s.length:Int)=(n:Int):=by omega
 have eN:(n:Int)+32=(N:Int):=by omega
 have hn2:n≤8000000:=by omega
 have hmk:=zO2 n N hN oM;have HN:=hQd hn;have HN2:=hQd hN;have HS:=hQd hs;clear hn hN hs;go_enter Tryz.func84,Tryz.ntmps84;go_wp2;have hal:=H.out.allocRaw (zCe (List.replicate N false)) 3;obtain⟨bL,hbL⟩:∃b,w.heap.size=b:=⟨_,rfl⟩;rw[hbL]at hal ⊢;clear H hmk hbL;have H:=hQd hal;clear hal;go_loopw [5] (fun iv wr=>∃k:Nat,k≤n∧iv=.int .i64 k∧St W0 wr K (.raw bL (zCe (zHE s N k)) 3::L)) (fun iv _=>n - (intOf iv).toNat)
 case atStart=>exact⟨0,Nat.zero_le _,rfl,H.out⟩
 case round=>
  obtain⟨k,hk,rfl,hst⟩:=hrel;clear H;have H:=hQd hst;clear hst
  by_cases hlt:k<n
  ·have hki:(k:Int)<(n:Int):=by omega
   have hkN:(k:Int)<(N:Int):=by omega
   have HI:=hQd (show k<8*s.length by rw[HN.out];exact hlt);have HI2:=hQd (show k<(zHE s N k).length by rw[zHb];omega);obtain⟨c,hc⟩:∃c,(zBx s).getD k false=c:=⟨_,rfl⟩;have HC:=hQd hc;clear hc;go_wp2_with (go_at_call 114;(with_reducible refine(zNx s k HI.out HS.out c HC.out H.out).zM ?_);clear H;intro wn H;have c0:=H.out.bitCell k HI2.out _ rfl;have f0:=H.out.rawFree k);go_roundw
   case rel=>
    have e:zHE s N (k+1)=(zHE s N k).set k c:=by rw[←HC.out];rfl
    exact⟨k+1,hlt,by go_num,by rw[e];exact H.out.bitSet k c _ rfl⟩
   case measure=>first|(simp[intOf];done)|(simp[intOf];omega)
  ·obtain rfl:n=k:=by omega
   have h:=H.out;have e:zHE s N n=zD3 s:=by have:=zPd s n HN.out;rw[HN2.out]at this;exact this
   rw[e]at h;have HRL:=hQd (show(zD3 s).length=N by rw[zEk,HN.out,HN2.out]);clear H;have H:=hQd h;clear h;clear hlt e hk;have hN2:(32:Int)≤(N:Int):=by omega
   go_wp2;go_loopw [6] (fun iv wr=>∃k:Nat,k≤32∧iv=.int .i64 k∧St W0 wr K (.raw bL (zCe (zCw k (zD3 s))) 3::L)) (fun iv _=>32 - (intOf iv).toNat)
   case atStart=>exact⟨0,Nat.zero_le _,rfl,H.out⟩
   case round=>
    obtain⟨k,hk,rfl,hst⟩:=hrel;clear H;have H:=hQd hst;clear hst
    by_cases hlt:k<32
    ·have hki:(k:Int)<32:=by omega
     have hkN:(k:Int)<(N:Int):=by omega
     obtain⟨c,hc⟩:∃c,(zCw k (zD3 s)).getD k false=c:=⟨_,rfl⟩;have hkl:k<(zCw k (zD3 s)).length:=by rw[zDH,HRL.out];omega
     have c0:=H.out.bitCell k hkl c hc;have f0:=H.out.rawFree k;have HE:=hQd (show zCw (k+1) (zD3 s)=(zCw k (zD3 s)).set k (!c) by rw[←hc];rfl);clear hc hkl
     cases c
     all_goals
      simp only[bitN,Bool.false_eq_true,if_false,if_true]at c0;go_wp2;go_roundw
      case rel=>exact⟨k+1,hlt,by go_num,by rw[HE.out];exact H.out.bitSet k _ _ rfl⟩
      case measure=>first|(simp[intOf];done)|(simp[intOf];omega)
    ·obtain rfl:k=32:=by omega
     obtain⟨M,hM⟩:∃M,zCw 32 (zD3 s)=M:=⟨_,rfl⟩;have h:=H.out;rw[hM]at h;have HML:=hQd (show M.length=N by rw[←hM,zDH];exact HRL.out);have HM:=hQd hM;clear H hlt hk hM;have H:=hQd h;clear h;go_wp2;go_loopw [7] (fun iv wr=>∃k:Nat,k≤n∧iv=.int .i64 k∧St W0 wr K (.raw bL (zCe (zCo M k)) 3::L)) (fun iv _=>n - (intOf iv).toNat)
     case atStart=>exact⟨0,Nat.zero_le _,rfl,H.out⟩
     case round=>
      obtain⟨i,hi,rfl,hst⟩:=hrel;clear H;have H:=hQd hst;clear hst
      by_cases hlt:i<n
      ·have hki:(i:Int)<(n:Int):=by omega
       have hkN:(i:Int)<(N:Int):=by omega
       obtain⟨c,hc⟩:∃c,(zCo M i).getD i false=c:=⟨_,rfl⟩;have c0:=H.out.bitCell i (by rw[zEt,HML.out];omega) c hc
       cases c
       ·have HE:=hQd (show zCo M (i+1)=zCo M i by show(if (zCo M i).getD i false then _ else _:List Bool)=_;rw[hc];rfl);clear hc;simp only[bitN,Bool.false_eq_true,if_false,if_true]at c0;go_wp2;go_roundw
        case rel=>exact⟨i+1,hlt,by go_num,by rw[HE.out];exact H.out⟩
        case measure=>first|(simp[intOf];done)|(simp[intOf];omega)
       ·have HE:=hQd (show zCo M (i+1)=zDX (zCo M i) i 32 by show(if (zCo M i).getD i false then _ else _:List Bool)=_;rw[hc];rfl);clear hc;simp only[bitN,Bool.false_eq_true,if_false,if_true]at c0;obtain⟨B,hB⟩:∃B,zCo M i=B:=⟨_,rfl⟩;have h:=H.out;rw[hB]at HE h;have HBL:=hQd (show B.length=N by rw[←hB,zEt];exact HML.out);clear H hB;have H:=hQd h;clear h;go_wp2;clear c0;go_loopw [8] (fun kv wr=>∃q:Nat,q≤32∧kv=.int .i64 ((q:Int)+1)∧St W0 wr K (.raw bL (zCe (zDX B i q)) 3::L)) (fun kv _=>33 - (intOf kv).toNat)
        case atStart=>exact⟨0,Nat.zero_le _,rfl,H.out⟩
        case round=>
         obtain⟨q,hq,rfl,hst⟩:=hrel;clear H;have H:=hQd hst;clear hst
         by_cases hlt2:q<32
         ·obtain⟨p,hp⟩:∃p,31 - q=p:=⟨_,rfl⟩;obtain⟨x,hx⟩:∃x,i+(q+1)=x:=⟨_,rfl⟩;obtain⟨kk,hkk⟩:∃kk,q+1=kk:=⟨_,rfl⟩;have e1:(q:Int)+1=(kk:Int):=by omega
          rw[e1];have e2:(i:Int)+(kk:Int)=(x:Int):=by omega
          have e3:(32:Int) - (kk:Int)=(p:Int):=by omega
          have b1:(kk:Int)≤32:=by omega
          have b2:(x:Int)<(N:Int):=by omega
          have b3:(p:Int)<32:=by omega
          have HX:=hQd (show x<(zDX B i q).length by rw[zG7,HBL.out];omega);obtain⟨a,ha⟩:∃a,(zDX B i q).getD x false=a:=⟨_,rfl⟩;obtain⟨d,hd⟩:∃d,pw p=d:=⟨_,rfl⟩;have HP:=hQd (show p<32 by omega);have HA:=hQd ha;have HD:=hQd hd
          have HN3:=hQd (show zDX B i (q+1)=(zDX B i q).set x (a ^^ d) by
           show(zDX B i q).set (i+(q+1)) ((zDX B i q).getD (i+(q+1)) false ^^ pw (31 - q))=_
           rw[hx,hp,ha,hd])
          have HQ:=hQd e1;have h1:(bitN a:Int)≤1:=by cases a<;>decide
          have h2:(bitN d:Int)≤1:=by cases d<;>decide
          have h3:((bitN a:Int)+(bitN d:Int)).tmod 2=(bitN (a ^^ d):Int):=by cases a<;>cases d<;>rfl
          obtain⟨va,hva⟩:∃v,bitN a=v:=⟨_,rfl⟩;obtain⟨vd,hvd⟩:∃v,bitN d=v:=⟨_,rfl⟩;obtain⟨vx,hvx⟩:∃v,bitN (a ^^ d)=v:=⟨_,rfl⟩;rw[hva]at h1 h3;rw[hvd]at h2 h3;rw[hvx]at h3;have HVA:=hQd hva;have HVD:=hQd hvd;have HVX:=hQd (show((bitN (a ^^ d):Nat):Int)=(vx:Int) by rw[hvx]);have w1:IntKind.i64.wrap (x:Int)=(x:Int):=IntWalk.i64_in _ oM;have w2:IntKind.i64.wrap (p:Int)=(p:Int):=IntWalk.i64_in _ oM;have w3:IntKind.i64.wrap ((va:Int)+(vd:Int))=(va:Int)+(vd:Int):=IntWalk.i64_in _ oM;have h4:((bitN (a ^^ d):Nat):Int)≤1:=by cases a<;>cases d<;>decide
          rw[HVX.out]at h4;have w4:IntKind.i64.wrap (vx:Int)=(vx:Int):=IntWalk.i64_in _ oM;clear hp hx hkk ha hd hva hvd hvx;go_upto_region 18 with (fail);have hs:=H.out.drew;refine wp_region_held_drew (S:=fun _=>True) (by kernel_rfl) trivial (fun hHeld=> ?_);refine tR 0 ?_;refine tR 1 ?_;refine tR 2 ?_;refine tR 3 ?_;refine tR 4 ?_;refine tR 5 ?_;refine tR 6 ?_;refine tR 7 ?_;refine tR 8 ?_;refine tR 10 ?_;refine tR 11 ?_;refine wR [9,12] (rC rfl (fun KK hK=> ?_) (rC rfl (fun KK hK=> ?_) rN))
          focus
           have c0:=hs.bitCell x HX.out a HA.out;rw[HVA.out]at c0;go_simp;refine zK hK (trivial) (fun hHeld=> ?_);clear hK KK
           refine wR [12] (rC rfl (fun KK hK=> ?_) rN);go_simp;go_at_call 115;with_reducible refine(zFw p HP.out d HD.out hs).mono ?_;rw[HVD.out];rintro e wq ⟨rfl,hs⟩
          rotate_left
          focus
           go_simp;go_at_call 115;with_reducible refine(zFw p HP.out d HD.out hs).mono ?_;rw[HVD.out];rintro e wq ⟨rfl,hs⟩;refine zK hK (trivial) (fun hHeld=> ?_);clear hK KK
           refine wR [9] (rC rfl (fun KK hK=> ?_) rN);have c0:=hs.bitCell x HX.out a HA.out;rw[HVA.out]at c0;go_simp
          all_goals
           refine zK hK (trivial) (fun hHeld=> ?_);clear hK KK
           refine tR 13 ?_;refine tR 14 ?_;refine tR 15 ?_;refine wR [16] (rC rfl (fun KK hK=> ?_) rN);have f0:=hs.rawFree x;have c0:=hs.bitCell x HX.out a HA.out;go_simp;refine zK hK (trivial) (fun hHeld=> ?_);clear hK KK
           have hs:=hs.bitSet x (a ^^ d) (vx:Int) HVX.out;refine wpAnyH_done (by kernel_rfl) ?_ _;rw[←HN3.out]at hs;go_wp2_with fail;go_roundw
           case rel=>
            clear hHeld c0 f0;exact⟨_,_,_,_,_,_,_,_,_,_,_,_,_,_,_,_,_,_,_,_,_,⟨q+1,hlt2,by rw[←HQ.out];go_num,hs⟩,rfl⟩
           case measure=>first|(simp[intOf];done)|(simp[intOf];omega)
         ·obtain rfl:q=32:=by omega
          have h:=H.out;rw[←HE.out]at h;clear H;have H:=hQd h;clear h;go_wp2;go_roundw
          case rel=>exact⟨i+1,hlt,by go_num,H.out⟩
          case measure=>first|(simp[intOf];done)|(simp[intOf];omega)
      ·obtain rfl:n=i:=by omega
       have HF:=hQd (show zBM (fun j=> !(zCo M n).getD (n+j) false) 32=(zAm 0#32 s).toNat by
        have:=zL3 s;unfold zI4 at this;rw[HN.out,HM.out]at this
        exact this)
       obtain⟨D,hD⟩:∃D,zCo M n=D:=⟨_,rfl⟩;have h:=H.out;rw[hD]at HF h;have HDL:=hQd (show D.length=N by rw[←hD,zEt];exact HML.out);clear H hD;have H:=hQd h;clear h hlt;go_wp2;go_loopw [10,9] (fun iv ov wr=>∃j:Nat,j≤32∧iv=.int .i64 ((j:Int) - 1)∧ov=.int .u32 (zBM (fun j=> !D.getD (n+j) false) (32 - j):Nat)∧St W0 wr K (.raw bL (zCe (D)) 3::L)) (fun iv _ _=>(intOf iv+1).toNat)
       case atStart=>exact⟨32,Nat.le_refl _,rfl,rfl,H.out⟩
       case round=>
        obtain⟨j,hj,rfl,rfl,hst⟩:=hrel;clear H;have H:=hQd hst;clear hst
        match j with
        |0=>
         rw[show(((0:Nat):Int) - 1)= -1 from rfl,show 32 - 0=32 from rfl,HF.out];go_wp2;go_ret;exact⟨rfl,H.out.drop⟩
        |j+1=>
         rw[show(((j+1:Nat):Int) - 1)=(j:Int) by omega];obtain⟨x,hx⟩:∃x,n+j=x:=⟨_,rfl⟩;have e2:(n:Int)+(j:Int)=(x:Int):=by omega
         have b2:(x:Int)<(N:Int):=by omega
         have b1:(j:Int)<32:=by omega
         obtain⟨c,hc⟩:∃c,D.getD x false=c:=⟨_,rfl⟩;have c0:=H.out.bitCell x (by rw[HDL.out];have:=HN2.out;omega) c hc;obtain⟨R,hR⟩:∃R,zBM (fun j=> !D.getD (n+j) false) (32 - (j+1))=R:=⟨_,rfl⟩
         have HR:=hQd (show zBM (fun j=> !D.getD (n+j) false) (32 - j)=R*2+(if c then 0 else 1) by
          rw[show 32 - j=32 - (j+1)+1 by omega]
          show zBM _ _*2+(if !D.getD (n+(31 - (32 - (j+1)))) false then 1 else 0)=_
          rw[hR,show 31 - (32 - (j+1))=j by omega,hx,hc]
          cases c<;>rfl)
         have hb:R<2147483648:=by
          have h1:=zHS (fun j=> !D.getD (n+j) false) (32 - (j+1));rw[hR]at h1;have h2:2 ^ (32 - (j+1))≤2 ^ 31:=Nat.pow_le_pow_right dD oM
          omega
         rw[hR];clear hx hc hR
         cases c
         all_goals
          simp only[bitN,Bool.false_eq_true,if_false,if_true]at c0 HR;go_wp2;go_roundw
          case rel=>exact⟨j,oM,rfl,by rw[HR.out];go_num,H.out⟩
          case measure=>first|(simp[intOf];done)|(simp[intOf];omega)
end Go.Proofs.YtnnnglklgofabaaGreat
