/- A text. -/
import Derived.Test.YtenojajfacacoaaGreatDoorGReportPlaysCard5
import Derived.Deep.RegionHeld3
import Derived.Deep.DeepCutAuto
import Derived.Test.YtenojajfacacoaaGreatDoorGReportPlaysCard1
import Derived.Test.YtenojajfacacoaaGreatDoorGReportPlaysCard2
import Derived.Test.YtenojajfacacoaaGreatDoorGReportPlaysCard4
import Derived.Test.YtenojajfacacoaaGreatDoorGReportPlaysCard3
/- A text. -/
namespace Go.Proofs.YtenojajfacacoaaGreatDoor
open Go.RowKit
open Go.Value renaming bool→U, string→Z, slice→Ja, int→I, pointer→Jc
open Go.Ending renaming returned→Jb
open _root_.Nat renaming le_refl→Jo, zero_le→Ji, add_assoc→Jm
open Go.IntKind renaming i64→O
open _root_.Go.Proofs.Tryz renaming prog→Jd
open _root_.List renaming length_cons→Jg, take_of_length_le→Jj, length_take→Jk, length_append→Je, length→Jh, take→Jq, getElem_mem→Jp, length_drop→Jf, length_nil→Jl, length_map→Jn
set_option maxHeartbeats 8000000
set_option maxRecDepth 100000
variable {W0 w:World}{K:Know}{L:List Res}
theorem zUg(a c:Bs):(zBE 0#32 [a,c]).toNat=(zAq 0#32 (a++c)).toNat:=by
 rw[zJ1]
 simp
theorem zNP(b r:Nat)(a c:Bs)(x:Nat)(hx:(zBE 0#32 [a,c]).toNat=x)(hs:∀s∈[a,c],s.length≤140737488355328)(hl:[a,c].length≤9223372036854775807)(h:St W0 w K (.raw r #[Z (bb a),Z (bb c)] 9::.raw b (tabC 256) 206::L)):
 Calls Jd 123 #[zKm b,Ja (some ⟨r,0,none⟩) 2 2] w fun en w'=>en=Jb (.int .u32 x)∧St W0 w' K (.raw b (tabC 256) 206::L):=zSG b r 2 [a,c] x rfl hx hs hl h
theorem zFZ(said rows:Bs)(x:Nat)(hx:(zAq 0#32 (said.drop 21++rows)).toNat=x)(hl:21≤said.length)(hl2:said.length≤140737488355328)(hr:rows.length≤140737488355328)(h:St W0 w K L):
  Calls Jd 88 #[Z (bb said),Z (bb rows)] w fun en w'=>en=Jb (I O x)∧St W0 w' K L:=by
 have H:=hQd h;have HX:=hQd (show(zBE 0#32 [said.drop 21,rows]).toNat=x by rw[zUg];exact hx)
 have HSS:=hQd (show ∀s∈[said.drop 21,rows],s.length≤140737488355328 by
  intro s hs;simp only[List.mem_cons,List.not_mem_nil,or_false]at hs
  rcases hs with rfl|rfl
  · rw[Jf];omega
  · exact hr)
 have HLS:=hQd (show[said.drop 21,rows].length≤9223372036854775807 by simp);have HT:=hQd (show Jq (said.length - 21) (List.drop 21 said)=said.drop 21 from Jj (by rw[Jf];omega));have hx32:x<4294967296:=by rw[←hx];exact(zAq 0#32 (said.drop 21++rows)).isLt
 have l21:(21:Int)≤(said.length:Int):=by omega
 have w1:IntKind.i64.wrap (x:Int)=(x:Int):=IntWalk.i64_in _ oM;have w2:wrap64 (x:Int)=(x:Int):=by unfold wrap64;omega
 clear h hx hl hl2 hr hx32;go_enter Tryz.func88,Tryz.ntmps88;go_upto_region 1 with (fail);have hs:=H.out.drew;refine wp_region_held_drew (S:=fun _=>True) kR trivial (fun hHeld=> ?_);clear H;generalize w.drew=wd at hs ⊢;refine tR 1 ?_;refine tR 2 ?_;refine tR 3 ?_;refine wR [0,4] (rC rfl (fun KK hK=> ?_) (rC rfl (fun KK hK=> ?_) rN))
 focus
  go_simp;go_at_call 122;with_reducible refine(zRg hs).mono ?_;rintro e wq ⟨bt,rfl,hs⟩;refine zK hK (trivial) (fun hHeld=> ?_);clear hK KK
  refine wR [4] (rC rfl (fun KK hK=> ?_) rN);obtain⟨wy,bS,ey,eb,hs⟩:=hs.allocEx #[Z (bb (said.drop 21)),Z (bb rows)] 9;go_simp
  try rw[HT.out]
  try rw[ey]
  try rw[eb]
  clear ey eb;refine zK hK (trivial) (fun hHeld=> ?_);clear hK KK
  refine wR [5] (rC rfl (fun KK hK=> ?_) rN);go_simp;go_at_call 123;with_reducible refine(zNP bt bS (said.drop 21) rows x HX.out HSS.out HLS.out (hs)).mono ?_
 rotate_left
 focus
  obtain⟨wy,bS,ey,eb,hs⟩:=hs.allocEx #[Z (bb (said.drop 21)),Z (bb rows)] 9;go_simp
  try rw[HT.out]
  try rw[ey]
  try rw[eb]
  clear ey eb;refine zK hK (trivial) (fun hHeld=> ?_);clear hK KK
  refine wR [0] (rC rfl (fun KK hK=> ?_) rN);go_simp;go_at_call 122;with_reducible refine(zRg hs).mono ?_;rintro e wq ⟨bt,rfl,hs⟩;refine zK hK (trivial) (fun hHeld=> ?_);clear hK KK
  refine wR [5] (rC rfl (fun KK hK=> ?_) rN);go_simp;go_at_call 123;with_reducible refine(zNP bt bS (said.drop 21) rows x HX.out HSS.out HLS.out (hs.p1)).mono ?_
 all_goals
  rintro e wq ⟨rfl,hs⟩;refine zK hK (trivial) (fun hHeld=> ?_);clear hK KK
  refine tR 6 ?_;refine tR 7 ?_;refine wpAnyH_done kR ?_ _;clear hHeld;go_wp2_with fail;go_ret;exact⟨rfl,hs.drop⟩
def zAg (n:Int) (i:Nat):Bool:=decide (n / 2 ^ i % 2=1)
def R64 (n:Int):Prop:= -9223372036854775808≤n∧n<9223372036854775808
theorem zGy(k:Nat)(h:k<18446744073709551616):IntKind.i64.wrap (k:Int)=0↔k=0:=by
 rw[IntKind.wrap_i64];omega
theorem zDl(n:Int):((BitVec.ofInt 64 n).toNat:Int)=n % 18446744073709551616:=by
 rw[BitVec.toNat_ofInt];have:(0:Int)≤n % ((2 ^ 64:Nat):Int):=Int.emod_nonneg _ (by decide);rw[Int.toNat_of_nonneg this]
 rfl
theorem zMv(n:Int)(i:Nat)(hi:i<64):(BitVec.ofInt 64 n).toNat.testBit i=zAg n i:=by
 obtain⟨m,hm⟩:∃m,(BitVec.ofInt 64 n).toNat=m:=⟨_,rfl⟩;have h:=zDl n;rw[hm]at h;rw[hm,Nat.testBit_eq_decide_div_mod_eq];unfold zAg
 apply decide_eq_decide.mpr
 have hd:((2:Int) ^ i)*(2*2 ^ (63 - i))=18446744073709551616:=by
  rw[←Int.mul_assoc,Int.mul_comm _ 2,Int.mul_assoc,←Int.pow_add,show i+(63 - i)=63 by omega];decide
 have hp:(0:Int)<2 ^ i:=Int.pow_pos (by decide)
 have e:n=(m:Int)+2 ^ i*(2*(2 ^ (63 - i)*(n / 18446744073709551616))):=by
  have h1:=Int.mul_ediv_add_emod n 18446744073709551616;rw[←Int.mul_assoc 2,←Int.mul_assoc (2 ^ i),hd]
  omega
 have e2:n / 2 ^ i=(m:Int) / 2 ^ i+2*(2 ^ (63 - i)*(n / 18446744073709551616)):=by
  have:=Int.add_mul_ediv_left (m:Int) (2*(2 ^ (63 - i)*(n / 18446744073709551616))) (Int.ne_of_gt hp);rw[←e]at this;exact this
 have e3:((m:Int) / 2 ^ i)=((m / 2 ^ i:Nat):Int):=by
  rw[Int.natCast_ediv,Int.natCast_pow];rfl
 rw[e2,e3,Int.add_mul_emod_self_left]
 omega
theorem zM5(n:Int)(i:Nat)(hi:i<63)(m:Int)(hm:BitVec.ofInt 64 m=BitVec.twoPow 64 i):(bits .and .i64 n m !=0)=zAg n i:=by
 have e:bits .and .i64 n m=IntKind.i64.wrap ((BitVec.ofInt 64 n &&& BitVec.ofInt 64 m).toNat:Int):=rfl;have hb:(BitVec.ofInt 64 n).getLsbD i=zAg n i:=zMv n i (by omega);have hp:2 ^ i<2 ^ 64:=Nat.pow_lt_pow_right (by decide) (by omega);rw[e,hm,BitVec.and_twoPow,hb]
 cases zAg n i
 ·rw[if_neg (by decide)]
  decide
 ·rw[if_pos rfl,bne_iff_ne,Ne,zGy _ (BitVec.isLt _),BitVec.toNat_twoPow,Nat.mod_eq_of_lt hp];exact Nat.ne_of_gt (Nat.two_pow_pos i)
theorem and7(n:Int):(bits .and .i64 n 7 !=0)=(zAg n 0||zAg n 1||zAg n 2):=by
 have e:bits .and .i64 n 7=IntKind.i64.wrap ((BitVec.ofInt 64 n &&& BitVec.ofInt 64 7).toNat:Int):=rfl;have hlt:=(BitVec.ofInt 64 n &&& BitVec.ofInt 64 7).isLt;have hz:=zGy _ hlt
 have h2:(BitVec.ofInt 64 n &&& BitVec.ofInt 64 7).toNat=(BitVec.ofInt 64 n).toNat % 8:=by
  rw[BitVec.toNat_and,show(BitVec.ofInt 64 7).toNat=2 ^ 3 - 1 by decide,Nat.and_two_pow_sub_one_eq_mod]
 have h3:=zDl n;rw[h2]at e hz;rw[Bool.eq_iff_iff,bne_iff_ne,e,Ne,hz];unfold zAg
 simp
 omega
theorem zSR(n:Int)(hn:R64 n)(h:(zAg n 0||zAg n 1||zAg n 2)=false):(bits .andNot .i64 n 56 !=0)=(decide (n<0)||decide (63<n)):=by
 have h8:n % 8=0:=by unfold zAg at h;simp at h;omega
 by_cases h1:0≤n∧n≤63
 ·rw[decide_eq_false (by omega),decide_eq_false (by omega)];obtain⟨q,hq⟩:∃q,n=8*q:=⟨n / 8,by omega⟩
  rcases(by omega:q=0∨q=1∨q=2∨q=3∨q=4∨q=5∨q=6∨q=7)with h|h|h|h|h|h|h|h<;>(subst h;subst hq;decide)
 ·have hr:(decide (n<0)||decide (63<n))=true:=by simp;omega
  rw[hr,bne_iff_ne];intro h0;have e:bits .andNot .i64 n 56=IntKind.i64.wrap ((BitVec.ofInt 64 n &&& ~~~ BitVec.ofInt 64 56).toNat:Int):=rfl;rw[e,zGy _ (BitVec.isLt _)]at h0
  have h2:∀i,6≤i→(BitVec.ofInt 64 n).toNat.testBit i=false:=by
   intro i hi
   by_cases h64:i<64
   ·have h4:=congrArg (fun k=>Nat.testBit k i) h0
    have h5:(BitVec.ofInt 64 n &&& ~~~ BitVec.ofInt 64 56).getLsbD i=false:=by
     have:(BitVec.ofInt 64 n &&& ~~~ BitVec.ofInt 64 56).toNat.testBit i=false:=by rw[h0];exact Nat.zero_testBit i
     exact this
    rw[BitVec.getLsbD_and,BitVec.getLsbD_not]at h5
    have h6:(BitVec.ofInt 64 56).getLsbD i=false:=by
     have:(BitVec.ofInt 64 56).toNat=56:=by decide
     unfold BitVec.getLsbD;rw[this];exact Nat.testBit_lt_two_pow (Nat.lt_of_lt_of_le (by decide:56<2 ^ 6) (Nat.pow_le_pow_right (by decide) hi))
    rw[h6]at h5;have h11:(BitVec.ofInt 64 n).getLsbD i=false:=by cases hc:(BitVec.ofInt 64 n).getLsbD i<;>simp_all
    exact h11
   ·exact BitVec.getLsbD_of_ge _ _ (by omega)
  have h7:(BitVec.ofInt 64 n).toNat<2 ^ 6:=Nat.lt_pow_two_of_testBit _ h2;have h8:=zDl n;have h9:=hn.1;have h10:=hn.2
  omega
def chk (n:Int):Int:=if (zAg n 0||zAg n 1||zAg n 2)=true then 9 else if (decide (n<0)||decide (63<n)||(zAg n 5 && !zAg n 4))=true then 8 else 0
def zAI (a t c:Bool) (k:Nat):Int:=(if a && decide (0<k)then 8 else 0)+(if t && decide (1<k)then 16 else 0)+(if c && decide (2<k)then 32 else 0)
theorem and8(n:Int):(bits .and .i64 n 8 !=0)=zAg n 3:=zM5 n 3 dD 8 dD
theorem and16(n:Int):(bits .and .i64 n 16 !=0)=zAg n 4:=zM5 n 4 dD 16 dD
theorem and32(n:Int):(bits .and .i64 n 32 !=0)=zAg n 5:=zM5 n 5 dD 32 dD
theorem and16z(n:Int):(bits .and .i64 n 16==0)= !zAg n 4:=by rw[←and16];simp[bne]
theorem zRz(n:Int)(w:World):
 Calls Jd 201 #[I O n] w fun en w'=>en=Jb (.tuple #[U (zAg n 3),U (zAg n 4),U (zAg n 5)])∧w=w':=by
 have h1:=and8 n;have h2:=and16 n;have h3:=and32 n;go_enter Tryz.func201,Tryz.ntmps201;go_wp2;go_ret3;rw[←h1,←h2,←h3];exact⟨rfl,rfl⟩
theorem zPd(n:Int)(hn:R64 n)(w:World):
 Calls Jd 199 #[I O n] w fun en w'=>en=Jb (I O (chk n))∧w=w':=by
 have a7:=and7 n;have a56:=zSR n hn;have a16:=and16z n;have a32:=and32 n;clear hn;have hc:chk n=chk n:=rfl
 conv at hc=>rhs;unfold chk
 cases hb:(zAg n 0||zAg n 1||zAg n 2)
 ·rw[hb]at a7 hc;rw[hb]at a56;replace a56:=a56 rfl
  cases hd:(decide (n<0)||decide (63<n))
  ·rw[hd]at a56 hc
   cases h5:zAg n 5
   ·rw[h5]at a32 hc;have HC:=hQd (show chk n=0 from hc);clear hc hd hb h5;go_enter Tryz.func199,Tryz.ntmps199;go_wp2;go_ret;rw[HC.out];exact⟨rfl,rfl⟩
   ·rw[h5]at a32 hc
    cases h4:zAg n 4
    ·rw[h4]at a16 hc;have HC:=hQd (show chk n=8 from hc);clear hc hd hb h5 h4;go_enter Tryz.func199,Tryz.ntmps199;go_wp2;go_ret;rw[HC.out];exact⟨rfl,rfl⟩
    ·rw[h4]at a16 hc;have HC:=hQd (show chk n=0 from hc);clear hc hd hb h5 h4;go_enter Tryz.func199,Tryz.ntmps199;go_wp2;go_ret;rw[HC.out];exact⟨rfl,rfl⟩
  ·rw[hd]at a56 hc;have HC:=hQd (show chk n=8 from hc);clear hc hd hb;go_enter Tryz.func199,Tryz.ntmps199;go_wp2;go_ret;rw[HC.out];exact⟨rfl,rfl⟩
 ·rw[hb]at a7 hc;have HC:=hQd (show chk n=9 from hc);clear hc hb a56;go_enter Tryz.func199,Tryz.ntmps199;go_wp2;go_ret;rw[HC.out];exact⟨rfl,rfl⟩
abbrev aBatch (base leader:Int) (a t c:Bool) (last first max prod epoch sq:Int) (ro:Option Addr) (e k:Nat):Value:=
 .agg #[I O base,I O leader,U a,U t,U c,I O last,I O first,I O max,I O prod,I O epoch,I O sq,Ja ro e k]
theorem zUn(base leader:Int)(a t c:Bool)(last first max prod epoch sq:Int)(ro:Option Addr)(e k:Nat){W0 w:World}{K:Know}{L:List Res}(h:St W0 w K L):
 Calls Jd 120 #[aBatch base leader a t c last first max prod epoch sq ro e k] w fun en w'=>en=Jb (I O (zAI a t c 3))∧St W0 w' K L:=by
 have H:=hQd h;clear h;go_enter Tryz.func120,Tryz.ntmps120;go_wp2
 go_loop [4,15] (fun nv kv=>∃(k:Nat),k≤3∧kv=I O k∧nv=I O (zAI a t c k)) (fun _ kv=>3 - (intOf kv).toNat)
 case atStart=>exact⟨0,dD,rfl,by simp[zAI]⟩
 case round=>
  obtain⟨k,hk,rfl,rfl⟩:=hrel;have e1:zAI true t c 1=bits .or .i64 (zAI true t c 0) 8:=by cases t<;>cases c<;>decide
  have e2:zAI a true c 2=bits .or .i64 (zAI a true c 1) 16:=by cases a<;>cases c<;>decide
  have e3:zAI a t true 3=bits .or .i64 (zAI a t true 2) 32:=by cases a<;>cases t<;>decide
  have f1:zAI false t c 1=zAI false t c 0:=by cases t<;>cases c<;>decide
  have f2:zAI a false c 2=zAI a false c 1:=by cases a<;>cases c<;>decide
  have f3:zAI a t false 3=zAI a t false 2:=by cases a<;>cases t<;>decide
  have E:=hQd (And.intro e1 (And.intro e2 (And.intro e3 (And.intro f1 (And.intro f2 f3)))));clear e1 e2 e3 f1 f2 f3;have i0:∀w:World,(Instr.index 137 (.agg #[U a,U t,U c]) (I O 0)).run Jd w=.ok (U a) w:=fun _=>by kernel_rfl
  have i1:∀w:World,(Instr.index 137 (.agg #[U a,U t,U c]) (I O 1)).run Jd w=.ok (U t) w:=fun _=>by kernel_rfl
  have i2:∀w:World,(Instr.index 137 (.agg #[U a,U t,U c]) (I O 2)).run Jd w=.ok (U c) w:=fun _=>by kernel_rfl
  rcases(by omega:k=0∨k=1∨k=2∨k=3)with h|h|h|h
  ·subst h
   cases a
   all_goals
    go_wp2
    go_round
    case rel=>exact⟨1,dD,rfl,congrArg (Value.int .i64) (by first|exact E.out.2.2.2.1.symm|exact E.out.1.symm)⟩
    case measure=>decide
  ·subst h
   cases t
   all_goals
    go_wp2
    go_round
    case rel=>exact⟨2,dD,rfl,congrArg (Value.int .i64) (by first|exact E.out.2.2.2.2.1.symm|exact E.out.2.1.symm)⟩
    case measure=>decide
  ·subst h
   cases c
   all_goals
    go_wp2
    go_round
    case rel=>exact⟨3,dD,rfl,congrArg (Value.int .i64) (by first|exact E.out.2.2.2.2.2.symm|exact E.out.2.2.1.symm)⟩
    case measure=>decide
  ·subst h;go_wp2;go_ret;exact⟨rfl,(H.out.alloc _).alloc _⟩
variable {W0 w:World}{K:Know}{L:List Res}
theorem zq20{p:Prop}(h:p:=by
  rw[if_neg h1,Array.getElem?_setIfInBounds]
  by_cases h2:o=i
  · subst h2;rw[if_pos rfl]
    by_cases h3:o<c.size
    · rw[if_pos h3,if_pos oM,Nat.sub_self];rfl
    · rw[if_neg h3,if_neg oM,Array.getElem?_eq_none oM]
  · rw[if_neg h2,if_neg oM]):p:=h
theorem zq25{p:Prop}(h:p:=by
 rw[if_pos h1,if_pos oM];obtain⟨k,rfl⟩:∃k,i=o+1+k:=⟨i - (o+1),oM⟩;rw[show o+1+k - (o+1)=k by omega,show o+1+k - o=k+1 by omega]
 rfl):p:=h
theorem zIw:∀(vs:List Value) (o:Nat) (c:Array Value) (i:Nat),(zEE c o vs)[i]? =if o≤i∧i<o+vs.length∧i<c.size then vs[i - o]? else c[i]?
 |[],o,c,i=>by
  show c[i]? =_
  rw[if_neg (by simp;omega)]
 |v::r,o,c,i=>by
  show(zEE (c.setIfInBounds o v) (o+1) r)[i]? =_
  rw[zIw r (o+1) _ i];simp only[Array.size_setIfInBounds,Jg]
  by_cases h1:o+1≤i∧i<o+1+r.length∧i<c.size
  ·exact zq25
  ·exact zq20
theorem zq23{p:Prop}(h:p:=by
  by_cases h1:i<cs.size
  · rw[if_pos (by simp;omega),Nat.sub_zero,Array.getElem?_toList]
  · rw[if_neg (by simp;omega),Array.getElem?_eq_none oM,Array.getElem?_eq_none oM]):p:=h
theorem zFl(c cs:Array Value)(h:c.size=cs.size):zEE c 0 cs.toList=cs:=by
 refine Array.ext_getElem? fun i=> ?_
 rw[zIw]
 exact zq23
theorem zSN(base leader:Int)(app txn ctl:Bool)(last first maxt prod epoch sq:Int)(q:Option Addr)(n cap:Nat)(h:St W0 w K L):
 Calls Jd 120 #[.agg #[I O base,I O leader,U app,U txn,U ctl,I O last,I O first,I O maxt,I O prod,I O epoch,I O sq,Ja q n cap]] w fun en w'=>en=Jb (I O (zAI app txn ctl 3))∧St W0 w' K L:=zUn base leader app txn ctl last first maxt prod epoch sq q n cap h
theorem zSK(base leader:Int)(app txn ctl:Bool)(last first maxt prod epoch sq:Int)(l:List (RecS×Value))(q:Option Addr)(cap:Nat)(size:Nat)(hsz:size≤140737488355328)(h:St W0 w K L):
 Calls Jd 86 #[.agg #[I O base,I O leader,U app,U txn,U ctl,I O last,I O first,I O maxt,I O prod,I O epoch,I O sq,Ja q l.length cap],I O size] w fun en w'=>en=Jb (.agg #[I O base,I O (49+size),I O leader,I O 0,I O (zAI app txn ctl 3),I O last,I O first,I O maxt,I O prod,I O epoch,I O sq,I O l.length])∧St W0 w' K L:=by
 have g1:=h.allocRaw #[I O base,I O leader,U app,U txn,U ctl,I O last,I O first,I O maxt,I O prod,I O epoch,I O sq,Ja q l.length cap] 30;have g2:=(g1.allocRaw #[I O 0,I O 0,I O 0,I O 0,I O 0,I O 0,I O 0,I O 0,I O 0,I O 0,I O 0,I O 0] 130).p1;obtain⟨hb,hhb⟩:=eX w.heap.size;obtain⟨rb,hrb⟩:=eX (hb+1);simp only[World.size_alloc,hhb,hrb]at g2;have H:=hQd g2;have w1:IntKind.i64.wrap (49+(size:Int))=49+(size:Int):=IntWalk.i64_in _ oM;clear g1 g2 h hsz;go_enter Tryz.func86,Tryz.ntmps86;go_upto_region 1 with (fail);have hs:=H.out.drew;refine wp_region_held_drew (S:=fun w'=>w'.cell? ⟨hb,0,none⟩=some (I O base)∧w'.cell? ⟨hb,1,none⟩=some (I O leader)∧w'.cell? ⟨hb,2,none⟩=some (U app)∧w'.cell? ⟨hb,3,none⟩=some (U txn)∧w'.cell? ⟨hb,4,none⟩=some (U ctl)∧w'.cell? ⟨hb,5,none⟩=some (I O last)∧w'.cell? ⟨hb,6,none⟩=some (I O first)∧w'.cell? ⟨hb,7,none⟩=some (I O maxt)∧w'.cell? ⟨hb,8,none⟩=some (I O prod)∧w'.cell? ⟨hb,9,none⟩=some (I O epoch)∧w'.cell? ⟨hb,10,none⟩=some (I O sq)∧w'.cell? ⟨hb,11,none⟩=some (Ja q l.length cap)) kR (let ⟨x0,x1,x2,x3,x4,x5,x6,x7,x8,x9,x10,x11,_⟩:=zAd (b:=hb) (hs);⟨x0,x1,x2,x3,x4,x5,x6,x7,x8,x9,x10,x11⟩) (fun hHeld=> ?_);refine tR 0 ?_;refine tR 1 ?_;refine tR 2 ?_;refine tR 3 ?_;refine tR 4 ?_;refine tR 5 ?_;refine tR 6 ?_;refine tR 8 ?_;refine tR 9 ?_;refine tR 10 ?_;refine tR 11 ?_;refine tR 12 ?_;refine tR 13 ?_;refine tR 14 ?_;refine tR 15 ?_;refine tR 16 ?_;refine tR 17 ?_;refine tR 18 ?_;refine tR 19 ?_;refine tR 20 ?_;refine tR 21 ?_;refine tR 22 ?_;refine wR [7] (rC rfl (fun KK hK=> ?_) rN);go_simp;go_at_call 120;with_reducible refine(zSN base leader app txn ctl last first maxt prod epoch sq q l.length cap hs).mono ?_;rintro e wq ⟨rfl,hs⟩;refine hK.out _ _ (let ⟨x0,x1,x2,x3,x4,x5,x6,x7,x8,x9,x10,x11,_⟩:=zAd (b:=hb) (hs);⟨x0,x1,x2,x3,x4,x5,x6,x7,x8,x9,x10,x11⟩) (fun hHeld=> ?_);clear hK KK
 try simp only[Act.put,sA,sB,sC]
 refine tR 23 ?_;refine wR [24] (rC rfl (fun KK hK=> ?_) rN);have hs:=hs.p1;rw[if_pos (by rfl)];refine wp_store_mid 130 (.tmp 4) (.tmp 28) rfl rb 0 #[I O base,I O (49+size),I O leader,I O 0,I O (zAI app txn ctl 3),I O last,I O first,I O maxt,I O prod,I O epoch,I O sq,I O l.length] (by rfl) (by rfl) hs.there kR (by simp[Value.oneCell']) ?_;obtain⟨wz,ez,hs⟩:=hs.storeEx #[I O base,I O (49+size),I O leader,I O 0,I O (zAI app txn ctl 3),I O last,I O first,I O maxt,I O prod,I O epoch,I O sq,I O l.length];rw[ez];clear ez;refine hK.out _ _ (let ⟨x0,x1,x2,x3,x4,x5,x6,x7,x8,x9,x10,x11,_⟩:=zAd (b:=hb) (hs.p1);⟨x0,x1,x2,x3,x4,x5,x6,x7,x8,x9,x10,x11⟩) (fun hHeld=> ?_);clear hK KK
 try simp only[Act.put,sA,sB,sC]
 refine wpAnyH_done kR ?_ _;clear hHeld;rw[zFl]at hs;rotate_left
 ·rfl
 have hz:St W0 _ K (.raw rb #[I O base,I O (49+size),I O leader,I O 0,I O (zAI app txn ctl 3),I O last,I O first,I O maxt,I O prod,I O epoch,I O sq,I O l.length] 130::_):=hs;go_wp2_with fail;refine bodyPost_ret (zAn rfl _ _ rb [I O base,I O (49+size),I O leader,I O 0,I O (zAI app txn ctl 3),I O last,I O first,I O maxt,I O prod,I O epoch,I O sq,I O l.length] _ rfl (zAp hz) Tryz.underlying130 rfl kR) rfl ?_;exact⟨rfl,hz.drop.drop⟩
variable {W0 w:World}{K:Know}{L:List Res}
theorem raw9{b:Nat}{T:TypeId}{v0 v1 v2 v3 v4 v5 v6 v7 v8:Value}(h:St W0 w K (.raw b #[v0,v1,v2,v3,v4,v5,v6,v7,v8] T::L)):
 w.cell? ⟨b,0,none⟩=some v0∧w.cell? ⟨b,1,none⟩=some v1∧w.cell? ⟨b,2,none⟩=some v2∧w.cell? ⟨b,3,none⟩=some v3∧w.cell? ⟨b,4,none⟩=some v4∧w.cell? ⟨b,5,none⟩=some v5∧w.cell? ⟨b,6,none⟩=some v6∧w.cell? ⟨b,7,none⟩=some v7∧w.cell? ⟨b,8,none⟩=some v8∧
 w.frozen? ⟨b,0,none⟩=false∧w.frozen? ⟨b,1,none⟩=false∧w.frozen? ⟨b,2,none⟩=false∧w.frozen? ⟨b,3,none⟩=false∧w.frozen? ⟨b,4,none⟩=false∧w.frozen? ⟨b,5,none⟩=false∧w.frozen? ⟨b,6,none⟩=false∧w.frozen? ⟨b,7,none⟩=false∧w.frozen? ⟨b,8,none⟩=false:=
 ⟨h.rawCell 0,h.rawCell 1,h.rawCell 2,h.rawCell 3,h.rawCell 4,h.rawCell 5,h.rawCell 6,h.rawCell 7,h.rawCell 8,h.rawFree 0,h.rawFree 1,h.rawFree 2,h.rawFree 3,h.rawFree 4,h.rawFree 5,h.rawFree 6,h.rawFree 7,h.rawFree 8⟩
theorem zAM(e:Int)(h:St W0 w K L):
 Calls Jd 126 #[I O e] w fun en w'=>en=Jb (.agg #[I O 0,I O 0,U false,Z ⟨#[]⟩,U false,Z ⟨#[]⟩,Ja none 0 0,I O 0,I O e])∧St W0 w' K L:=by
 have h0:=h.allocRaw #[I O 0,I O 0,U false,Z ⟨#[]⟩,U false,Z ⟨#[]⟩,Ja none 0 0,I O 0,I O e] 146;obtain⟨ac0,ac1,ac2,ac3,ac4,ac5,ac6,ac7,ac8,af0,af1,af2,af3,af4,af5,af6,af7,af8⟩:=raw9 h0;have H:=hQd h0;clear h h0;go_enter Tryz.func126,Tryz.ntmps126;go_wp2;refine bodyPost_ret (v:=.agg #[I O 0,I O 0,U false,Z ⟨#[]⟩,U false,Z ⟨#[]⟩,Ja none 0 0,I O 0,I O e]) (by simp[results,Tryz.results126,go_sem,ac0,ac1,ac2,ac3,ac4,ac5,ac6,ac7,ac8]) rfl ⟨rfl,H.out.drop⟩
theorem zAs{b:Nat}{T:TypeId}{x y z u:Value}(h:St W0 w K (.raw b #[x,y,z,u] T::L)):
 w.cell? ⟨b,0,none⟩=some x∧w.cell? ⟨b,1,none⟩=some y∧w.cell? ⟨b,2,none⟩=some z∧w.cell? ⟨b,3,none⟩=some u:=⟨h.rawCell 0,h.rawCell 1,h.rawCell 2,h.rawCell 3⟩
theorem zq39{p:Prop}(h:p:=by simp[results,Tryz.results97,go_sem,ac0,ac1,ac2,ac3,ac4,ac5,ac6,ac7,ac8]):p:=h
theorem zH8(s:Bs)(e:Int)(hr:zAf s=.error e)(hb:(e !=0)=true)(hs:s.length≤140737488355328)(h:St W0 w K L):
 Calls Jd 97 #[Z (bb s)] w fun en w'=>en=Jb (.agg #[I O 0,I O 0,U false,Z ⟨#[]⟩,U false,Z ⟨#[]⟩,Ja none 0 0,I O 0,I O e])∧St W0 w' K L:=by
 have h0:=h.allocRaw #[I O 0,I O 0,U false,Z ⟨#[]⟩,U false,Z ⟨#[]⟩,Ja none 0 0,I O 0,I O 0] 146;obtain⟨wA,hwA⟩:=eX w.heap.size;rw[hwA]at h0;have H:=hQd h0;have HS:=hQd hs;have HG:=hQd (show gotV (zAf s)=.agg #[U false,Z (bb []),I O 0,I O e] by rw[hr];rfl);clear h h0 hs hr;go_enter Tryz.func97,Tryz.ntmps97
 go_wp2_with (first
  |(go_at_call 125;refine(zAi s s _ rfl HS.out HG.out H.out).mono ?_;rintro e wn ⟨rfl,h⟩;obtain⟨wB,hwB⟩:=eX wn.heap.size;have h:=(h.allocRaw #[U false,Z (bb []),I O 0,I O e] 176).p1;rw[hwB]at h;replace H:=hQd h;clear h;obtain⟨q0,q1,q2,q3⟩:=zAs (b:=wB) (H.out.p1);obtain⟨ac0,ac1,ac2,ac3,ac4,ac5,ac6,ac7,ac8,af0,af1,af2,af3,af4,af5,af6,af7,af8⟩:=raw9 (b:=wA) (H.out))
  |(go_at_call 126;refine(zAM _ H.out).zM ?_;clear H;intro wn H;obtain⟨ac0,ac1,ac2,ac3,ac4,ac5,ac6,ac7,ac8,af0,af1,af2,af3,af4,af5,af6,af7,af8⟩:=raw9 (b:=wA) (H.out)))
 refine bodyPost_ret (v:=.agg #[I O 0,I O 0,U false,Z ⟨#[]⟩,U false,Z ⟨#[]⟩,Ja none 0 0,I O 0,I O e]) zq39 rfl ⟨rfl,(((((((((H.out.rawSet 0 _).rawSet 1 _).rawSet 2 _).rawSet 3 _).rawSet 4 _).rawSet 5 _).rawSet 6 _).rawSet 7 _).rawSet 8 _).drop.drop⟩
theorem zGY(s:Bs)(d:Bs)(m:Nat)(hr:zAf s=.ok (⟨true,d⟩,m))(hs:s.length≤140737488355328)(h:St W0 w K L):
 Calls Jd 97 #[Z (bb s)] w fun en w'=>en=Jb (.agg #[I O 0,I O 0,U false,Z ⟨#[]⟩,U false,Z ⟨#[]⟩,Ja none 0 0,I O 0,I O 4])∧St W0 w' K L:=by
 have h0:=h.allocRaw #[I O 0,I O 0,U false,Z ⟨#[]⟩,U false,Z ⟨#[]⟩,Ja none 0 0,I O 0,I O 0] 146;obtain⟨wA,hwA⟩:=eX w.heap.size;rw[hwA]at h0;have H:=hQd h0;have HS:=hQd hs;have HG:=hQd (show gotV (zAf s)=.agg #[U true,Z (bb d),I O m,I O 0] by rw[hr];rfl);clear h h0 hs hr;go_enter Tryz.func97,Tryz.ntmps97
 go_wp2_with (first
  |(go_at_call 125;refine(zAi s s _ rfl HS.out HG.out H.out).mono ?_;rintro e wn ⟨rfl,h⟩;obtain⟨wB,hwB⟩:=eX wn.heap.size;have h:=(h.allocRaw #[U true,Z (bb d),I O m,I O 0] 176).p1;rw[hwB]at h;replace H:=hQd h;clear h;obtain⟨q0,q1,q2,q3⟩:=zAs (b:=wB) (H.out.p1);obtain⟨ac0,ac1,ac2,ac3,ac4,ac5,ac6,ac7,ac8,af0,af1,af2,af3,af4,af5,af6,af7,af8⟩:=raw9 (b:=wA) (H.out))
  |(go_at_call 126;refine(zAM _ H.out).zM ?_;clear H;intro wn H;obtain⟨ac0,ac1,ac2,ac3,ac4,ac5,ac6,ac7,ac8,af0,af1,af2,af3,af4,af5,af6,af7,af8⟩:=raw9 (b:=wA) (H.out)))
 refine bodyPost_ret (v:=.agg #[I O 0,I O 0,U false,Z ⟨#[]⟩,U false,Z ⟨#[]⟩,Ja none 0 0,I O 0,I O 4]) zq39 rfl ⟨rfl,(((((((((H.out.rawSet 0 _).rawSet 1 _).rawSet 2 _).rawSet 3 _).rawSet 4 _).rawSet 5 _).rawSet 6 _).rawSet 7 _).rawSet 8 _).drop.drop⟩
variable {W0 w:World}{K:Know}{L:List Res}
theorem c_ne{c:UInt8}(hc:c≠0):((c.toNat:Int) !=0)=true:=by
 rw[bne_iff_ne];intro hh;exact hc (UInt8.toNat_inj.1 (by simpa using hh))
theorem zOn(s:Bs)(e:Int)(hv:zAT 1 10 0 0 s=.error e)(hs:s.length≤140737488355328)(h:St W0 w K L):
 Calls Jd 152 #[Z (bb s),I O 64] w fun en w'=>en=Jb (.tuple #[.int .u64 0,I O 0,I O e])∧St W0 w' K L:=by
 have:=zFt s 64 10 1 1 hs dD dD dD dD dD h;rw[hv]at this;exact this
theorem zB0(s:Bs)(u k:Nat)(hv:zAT 1 10 0 0 s=.ok (u,k))(hs:s.length≤140737488355328)(h:St W0 w K L):
 Calls Jd 152 #[Z (bb s),I O 64] w fun en w'=>en=Jb (.tuple #[.int .u64 u,I O k,I O 0])∧St W0 w' K L:=by
 have:=zFt s 64 10 1 1 hs dD dD dD dD dD h;rw[hv]at this;exact this
theorem zq35{p:Prop}(h:p:=by simp[results,Tryz.results127,go_sem,ac0,ac1,ac2,ac3,ac4,ac5,ac6,ac7,ac8]):p:=h
theorem zGh(h:St W0 w K L):
 Calls Jd 127 #[Z (bb [])] w fun en w'=>en=Jb (.agg #[I O 0,I O 0,U false,Z ⟨#[]⟩,U false,Z ⟨#[]⟩,Ja none 0 0,I O 0,I O 1])∧St W0 w' K L:=by
 have h0:=h.allocRaw #[I O 0,I O 0,U false,Z ⟨#[]⟩,U false,Z ⟨#[]⟩,Ja none 0 0,I O 0,I O 0] 146;obtain⟨wA,hwA⟩:=eX w.heap.size;rw[hwA]at h0;have H:=hQd h0
 clear h h0;go_enter Tryz.func127,Tryz.ntmps127
 go_wp2_with (first
  |(go_at_call 126;refine(zAM _ H.out).zM ?_;clear H;intro wn H;obtain⟨ac0,ac1,ac2,ac3,ac4,ac5,ac6,ac7,ac8,af0,af1,af2,af3,af4,af5,af6,af7,af8⟩:=raw9 (b:=wA) (H.out)))
 refine bodyPost_ret (v:=.agg #[I O 0,I O 0,U false,Z ⟨#[]⟩,U false,Z ⟨#[]⟩,Ja none 0 0,I O 0,I O 1]) zq35 rfl ⟨rfl,(((((((((H.out.rawSet 0 _).rawSet 1 _).rawSet 2 _).rawSet 3 _).rawSet 4 _).rawSet 5 _).rawSet 6 _).rawSet 7 _).rawSet 8 _).drop⟩
theorem zGj(c:UInt8)(t:Bs)(hc:c≠0)(hl:t.length≤140737488355320)(h:St W0 w K L):
 Calls Jd 127 #[Z (bb (c::t))] w fun en w'=>en=Jb (.agg #[I O 0,I O 0,U false,Z ⟨#[]⟩,U false,Z ⟨#[]⟩,Ja none 0 0,I O 0,I O 8])∧St W0 w' K L:=by
 have h0:=h.allocRaw #[I O 0,I O 0,U false,Z ⟨#[]⟩,U false,Z ⟨#[]⟩,Ja none 0 0,I O 0,I O 0] 146;obtain⟨wA,hwA⟩:=eX w.heap.size;rw[hwA]at h0;have H:=hQd h0;have h1:decide (((c::t:Bs).length:Int)<1)=false:=decide_eq_false (by simp only[Jg];omega);have hcn:((((c::t:Bs)[0]' sM).toNat:Int) !=0)=true:=c_ne hc;clear h h0;go_enter Tryz.func127,Tryz.ntmps127
 go_wp2_with (first
  |(go_at_call 126;refine(zAM _ H.out).zM ?_;clear H;intro wn H;obtain⟨ac0,ac1,ac2,ac3,ac4,ac5,ac6,ac7,ac8,af0,af1,af2,af3,af4,af5,af6,af7,af8⟩:=raw9 (b:=wA) (H.out)))
 refine bodyPost_ret (v:=.agg #[I O 0,I O 0,U false,Z ⟨#[]⟩,U false,Z ⟨#[]⟩,Ja none 0 0,I O 0,I O 8]) zq35 rfl ⟨rfl,(((((((((H.out.rawSet 0 _).rawSet 1 _).rawSet 2 _).rawSet 3 _).rawSet 4 _).rawSet 5 _).rawSet 6 _).rawSet 7 _).rawSet 8 _).drop⟩
theorem zGg(t:Bs)(e:Int)(hv:zAT 1 10 0 0 t=.error e)(hb:(e !=0)=true)(hs:t.length≤140737488355320)(h:St W0 w K L):
 Calls Jd 127 #[Z (bb (0::t))] w fun en w'=>en=Jb (.agg #[I O 0,I O 0,U false,Z ⟨#[]⟩,U false,Z ⟨#[]⟩,Ja none 0 0,I O 0,I O e])∧St W0 w' K L:=by
 have h0:=h.allocRaw #[I O 0,I O 0,U false,Z ⟨#[]⟩,U false,Z ⟨#[]⟩,Ja none 0 0,I O 0,I O 0] 146;obtain⟨wA,hwA⟩:=eX w.heap.size;rw[hwA]at h0;have H:=hQd h0;have h1:decide (((0::t:Bs).length:Int)<1)=false:=decide_eq_false (by simp only[Jg];omega);have hcn:((((0::t:Bs)[0]' sM).toNat:Int) !=0)=false:=rfl;have HV:=hQd hv;have HS:=hQd (show t.length≤140737488355328 by omega);clear hv hs;clear h h0;go_enter Tryz.func127,Tryz.ntmps127
 go_wp2_with (first
  |(go_at_call 152;refine(zOn t e HV.out HS.out H.out).zM ?_;clear H;intro wn H)
  |(go_at_call 126;refine(zAM _ H.out).zM ?_;clear H;intro wn H;obtain⟨ac0,ac1,ac2,ac3,ac4,ac5,ac6,ac7,ac8,af0,af1,af2,af3,af4,af5,af6,af7,af8⟩:=raw9 (b:=wA) (H.out)))
 refine bodyPost_ret (v:=.agg #[I O 0,I O 0,U false,Z ⟨#[]⟩,U false,Z ⟨#[]⟩,Ja none 0 0,I O 0,I O e]) zq35 rfl ⟨rfl,(((((((((H.out.rawSet 0 _).rawSet 1 _).rawSet 2 _).rawSet 3 _).rawSet 4 _).rawSet 5 _).rawSet 6 _).rawSet 7 _).rawSet 8 _).drop⟩
theorem zG5(s:Bs)(l:List HdrS)(m:Nat)(hr:zAJ s=.ok (l,m))(hs:s.length≤140737488355328)(h:St W0 w K L):
 Calls Jd 155 #[Z (bb s)] w fun en w'=>∃v,en=Jb (.tuple #[v,I O m,I O 0])∧St W0 w' (K.and (Know.flat RHdr v 3 l)) L:=
 (zG6 s hs h).mono fun en w' hh=>by unfold zM6 at hh;rw[hr]at hh;exact hh
theorem zMg(s:Bs)(e:Int)(hr:zAJ s=.error e)(hs:s.length≤140737488355328)(h:St W0 w K L):
 Calls Jd 155 #[Z (bb s)] w fun en w'=>∃v,en=Jb (.tuple #[v,I O 0,I O e])∧St W0 w' (K.and (Know.flat RHdr v 3 [])) L:=
 (zG6 s hs h).mono fun en w' hh=>by unfold zM6 at hh;rw[hr]at hh;exact hh
variable {W0 w:World}{K:Know}{L:List Res}
theorem zG0(s t1:Bs)(u k:Nat)(hl1:0<s.length)(hz:s[0]=0)(q1:s.drop 1=t1)(hv1:zAT 1 10 0 0 t1=.ok (u,k))(hu:u<18446744073709551616)(hs:s.length≤1000000)(s2:Bs)(hk:1+k≤s.length)(q2:s.drop (1+k)=s2)(e:Int)(hv2:zAT 15 5 0 0 s2=.error e)(hb:(e !=0)=true)(h:St W0 w K L):
 Calls Jd 127 #[Z (bb s)] w fun en w'=>en=Jb (.agg #[I O 0,I O 0,U false,Z ⟨#[]⟩,U false,Z ⟨#[]⟩,Ja none 0 0,I O 0,I O e])∧St W0 w' K L:=by
 have h0:=h.allocRaw #[I O 0,I O 0,U false,Z ⟨#[]⟩,U false,Z ⟨#[]⟩,Ja none 0 0,I O 0,I O 0] 146;obtain⟨wA,hwA⟩:=eX w.heap.size;rw[hwA]at h0;have H:=hQd h0;have h1:decide ((s.length:Int)<1)=false:=decide_eq_false oM;have hcn:((s[0].toNat:Int) !=0)=false:=by rw[hz];rfl
 have hb1:(1:Int)≤(s.length:Int):=by omega
 have HV1:=hQd hv1;have HU:=hQd hu;have hlt1:t1.length+1=s.length:=by rw[←q1,Jf];omega
 have HS1:=hQd (show t1.length≤140737488355328 by omega);have Q1:=hQd (show Jq (s.length - 1) (List.tail s)=t1 by rw[←q1,List.drop_one];exact Jj sM);have k1:True:=trivial;have hb2:(1:Int)+k≤(s.length:Int):=by omega
 have hl2:s2.length+k+1=s.length:=by rw[←q2,Jf];omega
 have HS2:=hQd (show s2.length≤140737488355328 by omega);have Q2:=hQd (show Jq (s.length - (1+k)) (List.drop (1+k) s)=s2 by rw[←q2];exact Jj sM);have HV2:=hQd hv2;clear hz hv1 hu q1 q2 hv2 h h0;go_enter Tryz.func127,Tryz.ntmps127
 go_wp2_with (first
  |(go_at_call 152;have _t:=k1;clear _t;rw[Q1.out];(with_reducible refine(zB0 t1 u k HV1.out HS1.out H.out).zM ?_);clear H;intro wn H;clear k1;have k2:True:=trivial)
  |(go_at_call 152;have _t:=k2;clear _t;rw[Q2.out];(with_reducible refine(zNs s2 e HV2.out HS2.out H.out).zM ?_);clear H;intro wn H;clear k2;have k3:True:=trivial)
  |(go_at_call 126;refine(zAM _ H.out).zM ?_;clear H;intro wn H;(first|(obtain⟨ac0,ac1,ac2,ac3,ac4,ac5,ac6,ac7,ac8,af0,af1,af2,af3,af4,af5,af6,af7,af8⟩:=raw9 (b:=wA) (H.out))|(obtain⟨ac0,ac1,ac2,ac3,ac4,ac5,ac6,ac7,ac8,af0,af1,af2,af3,af4,af5,af6,af7,af8⟩:=raw9 (b:=wA) (H.out.p1))|(obtain⟨ac0,ac1,ac2,ac3,ac4,ac5,ac6,ac7,ac8,af0,af1,af2,af3,af4,af5,af6,af7,af8⟩:=raw9 (b:=wA) (H.out.p2))|(obtain⟨ac0,ac1,ac2,ac3,ac4,ac5,ac6,ac7,ac8,af0,af1,af2,af3,af4,af5,af6,af7,af8⟩:=raw9 (b:=wA) (H.out.p3))|(obtain⟨ac0,ac1,ac2,ac3,ac4,ac5,ac6,ac7,ac8,af0,af1,af2,af3,af4,af5,af6,af7,af8⟩:=raw9 (b:=wA) (H.out.p4)))))
 refine bodyPost_ret (v:=.agg #[I O 0,I O 0,U false,Z ⟨#[]⟩,U false,Z ⟨#[]⟩,Ja none 0 0,I O 0,I O e]) zq35 rfl ⟨rfl,((((((((((H.out.rawSet 0 _).rawSet 1 _).rawSet 2 _).rawSet 3 _).rawSet 4 _).rawSet 5 _).rawSet 6 _).rawSet 7 _).rawSet 8 _).drop)⟩
theorem zG1(s t1:Bs)(u k:Nat)(hl1:0<s.length)(hz:s[0]=0)(q1:s.drop 1=t1)(hv1:zAT 1 10 0 0 t1=.ok (u,k))(hu:u<18446744073709551616)(hs:s.length≤1000000)(s2:Bs)(hk:1+k≤s.length)(q2:s.drop (1+k)=s2)(v m:Nat)(bt bo:Int)(hv2:zAT 15 5 0 0 s2=.ok (v,m))(hbt:zAV u=bt)(hbo:zAV v=bo)(hvv:v<18446744073709551616)(ho:bo<0)(h:St W0 w K L):
 Calls Jd 127 #[Z (bb s)] w fun en w'=>en=Jb (.agg #[I O 0,I O 0,U false,Z ⟨#[]⟩,U false,Z ⟨#[]⟩,Ja none 0 0,I O 0,I O 11])∧St W0 w' K L:=by
 have h0:=h.allocRaw #[I O 0,I O 0,U false,Z ⟨#[]⟩,U false,Z ⟨#[]⟩,Ja none 0 0,I O 0,I O 0] 146;obtain⟨wA,hwA⟩:=eX w.heap.size;rw[hwA]at h0;have H:=hQd h0;have h1:decide ((s.length:Int)<1)=false:=decide_eq_false oM;have hcn:((s[0].toNat:Int) !=0)=false:=by rw[hz];rfl
 have hb1:(1:Int)≤(s.length:Int):=by omega
 have HV1:=hQd hv1;have HU:=hQd hu;have hlt1:t1.length+1=s.length:=by rw[←q1,Jf];omega
 have HS1:=hQd (show t1.length≤140737488355328 by omega);have Q1:=hQd (show Jq (s.length - 1) (List.tail s)=t1 by rw[←q1,List.drop_one];exact Jj sM);have k1:True:=trivial;have hb2:(1:Int)+k≤(s.length:Int):=by omega
 have hl2:s2.length+k+1=s.length:=by rw[←q2,Jf];omega
 have HS2:=hQd (show s2.length≤140737488355328 by omega);have Q2:=hQd (show Jq (s.length - (1+k)) (List.drop (1+k) s)=s2 by rw[←q2];exact Jj sM);have HV2:=hQd hv2;have HBT:=hQd hbt;have HBO:=hQd hbo;have HW:=hQd hvv;clear hz hv1 hu q1 q2 hv2 hbt hbo hvv h h0;go_enter Tryz.func127,Tryz.ntmps127
 go_wp2_with (first
  |(go_at_call 152;have _t:=k1;clear _t;rw[Q1.out];(with_reducible refine(zB0 t1 u k HV1.out HS1.out H.out).zM ?_);clear H;intro wn H;clear k1;have k2:True:=trivial)
  |(go_at_call 152;have _t:=k2;clear _t;rw[Q2.out];(with_reducible refine(zCK s2 v m HV2.out HS2.out H.out).zM ?_);clear H;intro wn H;clear k2;have k3:True:=trivial)
  |(go_at_call 154;have _t:=k3;clear _t;(with_reducible refine(zA2 u bt HBT.out HU.out H.out).zM ?_);clear H;intro wn H;clear k3;have k4:True:=trivial)
  |(go_at_call 154;have _t:=k4;clear _t;(with_reducible refine(zA2 v bo HBO.out HW.out H.out).mono ?_);rintro e wn ⟨rfl,h⟩;obtain⟨wR,hwR⟩:=eX wn.heap.size;have h:=h.allocRaw #[I O bt,I O bo,U false,Z ⟨#[]⟩,U false,Z ⟨#[]⟩,Ja none 0 0] 54;rw[hwR]at h;replace H:=hQd h;clear h;clear k4;have k5:True:=trivial;obtain⟨rc0,rc1,rc2,rc3,rc4,rc5,rc6,rf0,rf1,rf2,rf3,rf4,rf5,rf6⟩:=raw7 (b:=wR) (H.out))
  |(go_at_call 126;refine(zAM _ H.out).zM ?_;clear H;intro wn H;(first|(obtain⟨ac0,ac1,ac2,ac3,ac4,ac5,ac6,ac7,ac8,af0,af1,af2,af3,af4,af5,af6,af7,af8⟩:=raw9 (b:=wA) (H.out))|(obtain⟨ac0,ac1,ac2,ac3,ac4,ac5,ac6,ac7,ac8,af0,af1,af2,af3,af4,af5,af6,af7,af8⟩:=raw9 (b:=wA) (H.out.p1))|(obtain⟨ac0,ac1,ac2,ac3,ac4,ac5,ac6,ac7,ac8,af0,af1,af2,af3,af4,af5,af6,af7,af8⟩:=raw9 (b:=wA) (H.out.p2))|(obtain⟨ac0,ac1,ac2,ac3,ac4,ac5,ac6,ac7,ac8,af0,af1,af2,af3,af4,af5,af6,af7,af8⟩:=raw9 (b:=wA) (H.out.p3))|(obtain⟨ac0,ac1,ac2,ac3,ac4,ac5,ac6,ac7,ac8,af0,af1,af2,af3,af4,af5,af6,af7,af8⟩:=raw9 (b:=wA) (H.out.p4)))))
 refine bodyPost_ret (v:=.agg #[I O 0,I O 0,U false,Z ⟨#[]⟩,U false,Z ⟨#[]⟩,Ja none 0 0,I O 0,I O 11]) zq35 rfl ⟨rfl,((((((((((H.out.p1.rawSet 0 _).rawSet 1 _).rawSet 2 _).rawSet 3 _).rawSet 4 _).rawSet 5 _).rawSet 6 _).rawSet 7 _).rawSet 8 _).drop.drop)⟩
theorem zG2(s t1:Bs)(u k:Nat)(hl1:0<s.length)(hz:s[0]=0)(q1:s.drop 1=t1)(hv1:zAT 1 10 0 0 t1=.ok (u,k))(hu:u<18446744073709551616)(hs:s.length≤1000000)(s2:Bs)(hk:1+k≤s.length)(q2:s.drop (1+k)=s2)(v m:Nat)(bt bo:Int)(hv2:zAT 15 5 0 0 s2=.ok (v,m))(hbt:zAV u=bt)(hbo:zAV v=bo)(hvv:v<18446744073709551616)(s3:Bs)(hm:m≤s2.length)(q3:s2.drop m=s3)(ho:0≤bo)(e:Int)(hg:zAf s3=.error e)(hb:(e !=0)=true)(h:St W0 w K L):
 Calls Jd 127 #[Z (bb s)] w fun en w'=>en=Jb (.agg #[I O 0,I O 0,U false,Z ⟨#[]⟩,U false,Z ⟨#[]⟩,Ja none 0 0,I O 0,I O e])∧St W0 w' K L:=by
 have h0:=h.allocRaw #[I O 0,I O 0,U false,Z ⟨#[]⟩,U false,Z ⟨#[]⟩,Ja none 0 0,I O 0,I O 0] 146;obtain⟨wA,hwA⟩:=eX w.heap.size;rw[hwA]at h0;have H:=hQd h0;have h1:decide ((s.length:Int)<1)=false:=decide_eq_false oM;have hcn:((s[0].toNat:Int) !=0)=false:=by rw[hz];rfl
 have hb1:(1:Int)≤(s.length:Int):=by omega
 have HV1:=hQd hv1;have HU:=hQd hu;have hlt1:t1.length+1=s.length:=by rw[←q1,Jf];omega
 have HS1:=hQd (show t1.length≤140737488355328 by omega);have Q1:=hQd (show Jq (s.length - 1) (List.tail s)=t1 by rw[←q1,List.drop_one];exact Jj sM);have k1:True:=trivial;have hb2:(1:Int)+k≤(s.length:Int):=by omega
 have hl2:s2.length+k+1=s.length:=by rw[←q2,Jf];omega
 have HS2:=hQd (show s2.length≤140737488355328 by omega);have Q2:=hQd (show Jq (s.length - (1+k)) (List.drop (1+k) s)=s2 by rw[←q2];exact Jj sM);have HV2:=hQd hv2;have HBT:=hQd hbt;have HBO:=hQd hbo;have HW:=hQd hvv;have hdo:decide (bo<0)=false:=decide_eq_false oM;have hb3:(m:Int)≤(s2.length:Int):=by omega
 have hl3:s3.length+m=s2.length:=by rw[←q3,Jf];omega
 have HS3:=hQd (show s3.length≤140737488355328 by omega);have Q3:=hQd (show Jq (s2.length - m) (List.drop m s2)=s3 by rw[←q3];exact Jj sM);have HG1:=hQd (show gotV (zAf s3)=.agg #[U false,Z (bb []),I O 0,I O e] by rw[hg];rfl);clear hz hv1 hu q1 q2 hv2 hbt hbo hvv q3 hg h h0;go_enter Tryz.func127,Tryz.ntmps127
 go_wp2_with (first
  |(go_at_call 152;have _t:=k1;clear _t;rw[Q1.out];(with_reducible refine(zB0 t1 u k HV1.out HS1.out H.out).zM ?_);clear H;intro wn H;clear k1;have k2:True:=trivial)
  |(go_at_call 152;have _t:=k2;clear _t;rw[Q2.out];(with_reducible refine(zCK s2 v m HV2.out HS2.out H.out).zM ?_);clear H;intro wn H;clear k2;have k3:True:=trivial)
  |(go_at_call 154;have _t:=k3;clear _t;(with_reducible refine(zA2 u bt HBT.out HU.out H.out).zM ?_);clear H;intro wn H;clear k3;have k4:True:=trivial)
  |(go_at_call 154;have _t:=k4;clear _t;(with_reducible refine(zA2 v bo HBO.out HW.out H.out).mono ?_);rintro e wn ⟨rfl,h⟩;obtain⟨wR,hwR⟩:=eX wn.heap.size;have h:=h.allocRaw #[I O bt,I O bo,U false,Z ⟨#[]⟩,U false,Z ⟨#[]⟩,Ja none 0 0] 54;rw[hwR]at h;replace H:=hQd h;clear h;clear k4;have k5:True:=trivial;obtain⟨rc0,rc1,rc2,rc3,rc4,rc5,rc6,rf0,rf1,rf2,rf3,rf4,rf5,rf6⟩:=raw7 (b:=wR) (H.out))
  |(go_at_call 125;have _t:=k5;clear _t;rw[Q3.out];(with_reducible refine(zAi s3 s3 _ rfl HS3.out HG1.out H.out).mono ?_);rintro e wn ⟨rfl,h⟩;obtain⟨wK,hwK⟩:=eX wn.heap.size;have h:=h.allocRaw #[U false,Z (bb []),I O 0,I O e] 176;rw[hwK]at h;replace H:=hQd h;clear h;clear k5;have k6:True:=trivial;obtain⟨q0,q1,q2,q3⟩:=zAs (b:=wK) (H.out))
  |(go_at_call 126;refine(zAM _ H.out).zM ?_;clear H;intro wn H;(first|(obtain⟨ac0,ac1,ac2,ac3,ac4,ac5,ac6,ac7,ac8,af0,af1,af2,af3,af4,af5,af6,af7,af8⟩:=raw9 (b:=wA) (H.out))|(obtain⟨ac0,ac1,ac2,ac3,ac4,ac5,ac6,ac7,ac8,af0,af1,af2,af3,af4,af5,af6,af7,af8⟩:=raw9 (b:=wA) (H.out.p1))|(obtain⟨ac0,ac1,ac2,ac3,ac4,ac5,ac6,ac7,ac8,af0,af1,af2,af3,af4,af5,af6,af7,af8⟩:=raw9 (b:=wA) (H.out.p2))|(obtain⟨ac0,ac1,ac2,ac3,ac4,ac5,ac6,ac7,ac8,af0,af1,af2,af3,af4,af5,af6,af7,af8⟩:=raw9 (b:=wA) (H.out.p3))|(obtain⟨ac0,ac1,ac2,ac3,ac4,ac5,ac6,ac7,ac8,af0,af1,af2,af3,af4,af5,af6,af7,af8⟩:=raw9 (b:=wA) (H.out.p4)))))
 refine bodyPost_ret (v:=.agg #[I O 0,I O 0,U false,Z ⟨#[]⟩,U false,Z ⟨#[]⟩,Ja none 0 0,I O 0,I O e]) zq35 rfl ⟨rfl,((((((((((H.out.p2.rawSet 0 _).rawSet 1 _).rawSet 2 _).rawSet 3 _).rawSet 4 _).rawSet 5 _).rawSet 6 _).rawSet 7 _).rawSet 8 _).drop.drop.drop)⟩
theorem zGZ(s t1:Bs)(u k:Nat)(hl1:0<s.length)(hz:s[0]=0)(q1:s.drop 1=t1)(hv1:zAT 1 10 0 0 t1=.ok (u,k))(hu:u<18446744073709551616)(hs:s.length≤1000000)(s2:Bs)(hk:1+k≤s.length)(q2:s.drop (1+k)=s2)(v m:Nat)(bt bo:Int)(hv2:zAT 15 5 0 0 s2=.ok (v,m))(hbt:zAV u=bt)(hbo:zAV v=bo)(hvv:v<18446744073709551616)(s3:Bs)(hm:m≤s2.length)(q3:s2.drop m=s3)(ho:0≤bo)(s4:Bs)(kb:BlobS)(ka:Nat)(hka:ka≤s3.length)(q4:s3.drop ka=s4)(hg1:zAf s3=.ok (kb,ka))(e:Int)(hg:zAf s4=.error e)(hb:(e !=0)=true)(h:St W0 w K L):
 Calls Jd 127 #[Z (bb s)] w fun en w'=>en=Jb (.agg #[I O 0,I O 0,U false,Z ⟨#[]⟩,U false,Z ⟨#[]⟩,Ja none 0 0,I O 0,I O e])∧St W0 w' K L:=by
 have h0:=h.allocRaw #[I O 0,I O 0,U false,Z ⟨#[]⟩,U false,Z ⟨#[]⟩,Ja none 0 0,I O 0,I O 0] 146;obtain⟨wA,hwA⟩:=eX w.heap.size;rw[hwA]at h0;have H:=hQd h0;have h1:decide ((s.length:Int)<1)=false:=decide_eq_false oM;have hcn:((s[0].toNat:Int) !=0)=false:=by rw[hz];rfl
 have hb1:(1:Int)≤(s.length:Int):=by omega
 have HV1:=hQd hv1;have HU:=hQd hu;have hlt1:t1.length+1=s.length:=by rw[←q1,Jf];omega
 have HS1:=hQd (show t1.length≤140737488355328 by omega);have Q1:=hQd (show Jq (s.length - 1) (List.tail s)=t1 by rw[←q1,List.drop_one];exact Jj sM);have k1:True:=trivial;have hb2:(1:Int)+k≤(s.length:Int):=by omega
 have hl2:s2.length+k+1=s.length:=by rw[←q2,Jf];omega
 have HS2:=hQd (show s2.length≤140737488355328 by omega);have Q2:=hQd (show Jq (s.length - (1+k)) (List.drop (1+k) s)=s2 by rw[←q2];exact Jj sM);have HV2:=hQd hv2;have HBT:=hQd hbt;have HBO:=hQd hbo;have HW:=hQd hvv;have hdo:decide (bo<0)=false:=decide_eq_false oM;have hb3:(m:Int)≤(s2.length:Int):=by omega
 have hl3:s3.length+m=s2.length:=by rw[←q3,Jf];omega
 have HS3:=hQd (show s3.length≤140737488355328 by omega);have Q3:=hQd (show Jq (s2.length - m) (List.drop m s2)=s3 by rw[←q3];exact Jj sM);have hb4:(ka:Int)≤(s3.length:Int):=by omega
 have hl4:s4.length+ka=s3.length:=by rw[←q4,Jf];omega
 have HS4:=hQd (show s4.length≤140737488355328 by omega);have Q4:=hQd (show Jq (s3.length - ka) (List.drop ka s3)=s4 by rw[←q4];exact Jj sM);have HG1:=hQd (show gotV (zAf s3)=.agg #[U kb.null,Z (bb kb.data),I O ka,I O 0] by rw[hg1];rfl);have HG2:=hQd (show gotV (zAf s4)=.agg #[U false,Z (bb []),I O 0,I O e] by rw[hg];rfl);clear hz hv1 hu q1 q2 hv2 hbt hbo hvv q3 q4 hg1 hg h h0;go_enter Tryz.func127,Tryz.ntmps127
 go_wp2_with (first
  |(go_at_call 152;have _t:=k1;clear _t;rw[Q1.out];(with_reducible refine(zB0 t1 u k HV1.out HS1.out H.out).zM ?_);clear H;intro wn H;clear k1;have k2:True:=trivial)
  |(go_at_call 152;have _t:=k2;clear _t;rw[Q2.out];(with_reducible refine(zCK s2 v m HV2.out HS2.out H.out).zM ?_);clear H;intro wn H;clear k2;have k3:True:=trivial)
  |(go_at_call 154;have _t:=k3;clear _t;(with_reducible refine(zA2 u bt HBT.out HU.out H.out).zM ?_);clear H;intro wn H;clear k3;have k4:True:=trivial)
  |(go_at_call 154;have _t:=k4;clear _t;(with_reducible refine(zA2 v bo HBO.out HW.out H.out).mono ?_);rintro e wn ⟨rfl,h⟩;obtain⟨wR,hwR⟩:=eX wn.heap.size;have h:=h.allocRaw #[I O bt,I O bo,U false,Z ⟨#[]⟩,U false,Z ⟨#[]⟩,Ja none 0 0] 54;rw[hwR]at h;replace H:=hQd h;clear h;clear k4;have k5:True:=trivial;obtain⟨rc0,rc1,rc2,rc3,rc4,rc5,rc6,rf0,rf1,rf2,rf3,rf4,rf5,rf6⟩:=raw7 (b:=wR) (H.out))
  |(go_at_call 125;have _t:=k5;clear _t;rw[Q3.out];(with_reducible refine(zAi s3 s3 _ rfl HS3.out HG1.out H.out).mono ?_);rintro e wn ⟨rfl,h⟩;obtain⟨wK,hwK⟩:=eX wn.heap.size;have h:=h.allocRaw #[U kb.null,Z (bb kb.data),I O ka,I O 0] 176;rw[hwK]at h;replace H:=hQd h;clear h;clear k5;have k6:True:=trivial;obtain⟨q0,q1,q2,q3⟩:=zAs (b:=wK) (H.out))
  |(go_at_call 125;have _t:=k6;clear _t;rw[Q4.out];(with_reducible refine(zAi s4 s4 _ rfl HS4.out HG2.out H.out).mono ?_);rintro e wn ⟨rfl,h⟩;obtain⟨wV,hwV⟩:=eX wn.heap.size;have h:=h.allocRaw #[U false,Z (bb []),I O 0,I O e] 176;rw[hwV]at h;replace H:=hQd h;clear h;clear k6;have k7:True:=trivial;obtain⟨p0,p1,p2,p3⟩:=zAs (b:=wV) (H.out);obtain⟨q0,q1,q2,q3⟩:=zAs (b:=wK) (H.out.p1))
  |(go_at_call 126;refine(zAM _ H.out).zM ?_;clear H;intro wn H;(first|(obtain⟨ac0,ac1,ac2,ac3,ac4,ac5,ac6,ac7,ac8,af0,af1,af2,af3,af4,af5,af6,af7,af8⟩:=raw9 (b:=wA) (H.out))|(obtain⟨ac0,ac1,ac2,ac3,ac4,ac5,ac6,ac7,ac8,af0,af1,af2,af3,af4,af5,af6,af7,af8⟩:=raw9 (b:=wA) (H.out.p1))|(obtain⟨ac0,ac1,ac2,ac3,ac4,ac5,ac6,ac7,ac8,af0,af1,af2,af3,af4,af5,af6,af7,af8⟩:=raw9 (b:=wA) (H.out.p2))|(obtain⟨ac0,ac1,ac2,ac3,ac4,ac5,ac6,ac7,ac8,af0,af1,af2,af3,af4,af5,af6,af7,af8⟩:=raw9 (b:=wA) (H.out.p3))|(obtain⟨ac0,ac1,ac2,ac3,ac4,ac5,ac6,ac7,ac8,af0,af1,af2,af3,af4,af5,af6,af7,af8⟩:=raw9 (b:=wA) (H.out.p4)))))
 refine bodyPost_ret (v:=.agg #[I O 0,I O 0,U false,Z ⟨#[]⟩,U false,Z ⟨#[]⟩,Ja none 0 0,I O 0,I O e]) zq35 rfl ⟨rfl,((((((((((H.out.p3.rawSet 0 _).rawSet 1 _).rawSet 2 _).rawSet 3 _).rawSet 4 _).rawSet 5 _).rawSet 6 _).rawSet 7 _).rawSet 8 _).drop.drop.drop.drop)⟩
variable {W0 w:World}{K:Know}{L:List Res}
theorem zG3(s t1:Bs)(u k:Nat)(hl1:0<s.length)(hz:s[0]=0)(q1:s.drop 1=t1)(hv1:zAT 1 10 0 0 t1=.ok (u,k))(hu:u<18446744073709551616)(hs:s.length≤1000000)(s2:Bs)(hk:1+k≤s.length)(q2:s.drop (1+k)=s2)(v m:Nat)(bt bo:Int)(hv2:zAT 15 5 0 0 s2=.ok (v,m))(hbt:zAV u=bt)(hbo:zAV v=bo)(hvv:v<18446744073709551616)(s3:Bs)(hm:m≤s2.length)(q3:s2.drop m=s3)(ho:0≤bo)(s4:Bs)(kb:BlobS)(ka:Nat)(hka:ka≤s3.length)(q4:s3.drop ka=s4)(hg1:zAf s3=.ok (kb,ka))(s5:Bs)(vb:BlobS)(va:Nat)(hva:va≤s4.length)(q5:s4.drop va=s5)(hg2:zAf s4=.ok (vb,va))(e:Int)(hh:zAJ s5=.error e)(hb:(e !=0)=true)(h:St W0 w K L):
 Calls Jd 127 #[Z (bb s)] w fun en w'=>en=Jb (.agg #[I O 0,I O 0,U false,Z ⟨#[]⟩,U false,Z ⟨#[]⟩,Ja none 0 0,I O 0,I O e])∧St W0 w' K L:=by
 have h0:=h.allocRaw #[I O 0,I O 0,U false,Z ⟨#[]⟩,U false,Z ⟨#[]⟩,Ja none 0 0,I O 0,I O 0] 146;obtain⟨wA,hwA⟩:=eX w.heap.size;rw[hwA]at h0;have H:=hQd h0;have h1:decide ((s.length:Int)<1)=false:=decide_eq_false oM;have hcn:((s[0].toNat:Int) !=0)=false:=by rw[hz];rfl
 have hb1:(1:Int)≤(s.length:Int):=by omega
 have HV1:=hQd hv1;have HU:=hQd hu;have hlt1:t1.length+1=s.length:=by rw[←q1,Jf];omega
 have HS1:=hQd (show t1.length≤140737488355328 by omega);have Q1:=hQd (show Jq (s.length - 1) (List.tail s)=t1 by rw[←q1,List.drop_one];exact Jj sM);have k1:True:=trivial;have hb2:(1:Int)+k≤(s.length:Int):=by omega
 have hl2:s2.length+k+1=s.length:=by rw[←q2,Jf];omega
 have HS2:=hQd (show s2.length≤140737488355328 by omega);have Q2:=hQd (show Jq (s.length - (1+k)) (List.drop (1+k) s)=s2 by rw[←q2];exact Jj sM);have HV2:=hQd hv2;have HBT:=hQd hbt;have HBO:=hQd hbo;have HW:=hQd hvv;have hdo:decide (bo<0)=false:=decide_eq_false oM;have hb3:(m:Int)≤(s2.length:Int):=by omega
 have hl3:s3.length+m=s2.length:=by rw[←q3,Jf];omega
 have HS3:=hQd (show s3.length≤140737488355328 by omega);have Q3:=hQd (show Jq (s2.length - m) (List.drop m s2)=s3 by rw[←q3];exact Jj sM);have hb4:(ka:Int)≤(s3.length:Int):=by omega
 have hl4:s4.length+ka=s3.length:=by rw[←q4,Jf];omega
 have HS4:=hQd (show s4.length≤140737488355328 by omega);have Q4:=hQd (show Jq (s3.length - ka) (List.drop ka s3)=s4 by rw[←q4];exact Jj sM);have HG1:=hQd (show gotV (zAf s3)=.agg #[U kb.null,Z (bb kb.data),I O ka,I O 0] by rw[hg1];rfl);have hb5:(va:Int)≤(s4.length:Int):=by omega
 have hl5:s5.length+va=s4.length:=by rw[←q5,Jf];omega
 have HS5:=hQd (show s5.length≤140737488355328 by omega);have Q5:=hQd (show Jq (s4.length - va) (List.drop va s4)=s5 by rw[←q5];exact Jj sM);have HG2:=hQd (show gotV (zAf s4)=.agg #[U vb.null,Z (bb vb.data),I O va,I O 0] by rw[hg2];rfl);have HH:=hQd hh;clear hz hv1 hu q1 q2 hv2 hbt hbo hvv q3 q4 hg1 q5 hg2 hh h h0;go_enter Tryz.func127,Tryz.ntmps127
 go_wp2_with (first
  |(go_at_call 152;have _t:=k1;clear _t;rw[Q1.out];(with_reducible refine(zB0 t1 u k HV1.out HS1.out H.out).zM ?_);clear H;intro wn H;clear k1;have k2:True:=trivial)
  |(go_at_call 152;have _t:=k2;clear _t;rw[Q2.out];(with_reducible refine(zCK s2 v m HV2.out HS2.out H.out).zM ?_);clear H;intro wn H;clear k2;have k3:True:=trivial)
  |(go_at_call 154;have _t:=k3;clear _t;(with_reducible refine(zA2 u bt HBT.out HU.out H.out).zM ?_);clear H;intro wn H;clear k3;have k4:True:=trivial)
  |(go_at_call 154;have _t:=k4;clear _t;(with_reducible refine(zA2 v bo HBO.out HW.out H.out).mono ?_);rintro e wn ⟨rfl,h⟩;obtain⟨wR,hwR⟩:=eX wn.heap.size;have h:=h.allocRaw #[I O bt,I O bo,U false,Z ⟨#[]⟩,U false,Z ⟨#[]⟩,Ja none 0 0] 54;rw[hwR]at h;replace H:=hQd h;clear h;clear k4;have k5:True:=trivial;obtain⟨rc0,rc1,rc2,rc3,rc4,rc5,rc6,rf0,rf1,rf2,rf3,rf4,rf5,rf6⟩:=raw7 (b:=wR) (H.out))
  |(go_at_call 125;have _t:=k5;clear _t;rw[Q3.out];(with_reducible refine(zAi s3 s3 _ rfl HS3.out HG1.out H.out).mono ?_);rintro e wn ⟨rfl,h⟩;obtain⟨wK,hwK⟩:=eX wn.heap.size;have h:=h.allocRaw #[U kb.null,Z (bb kb.data),I O ka,I O 0] 176;rw[hwK]at h;replace H:=hQd h;clear h;clear k5;have k6:True:=trivial;obtain⟨q0,q1,q2,q3⟩:=zAs (b:=wK) (H.out))
  |(go_at_call 125;have _t:=k6;clear _t;rw[Q4.out];(with_reducible refine(zAi s4 s4 _ rfl HS4.out HG2.out H.out).mono ?_);rintro e wn ⟨rfl,h⟩;obtain⟨wV,hwV⟩:=eX wn.heap.size;have h:=h.allocRaw #[U vb.null,Z (bb vb.data),I O va,I O 0] 176;rw[hwV]at h;replace H:=hQd h;clear h;clear k6;have k7:True:=trivial;obtain⟨p0,p1,p2,p3⟩:=zAs (b:=wV) (H.out);obtain⟨q0,q1,q2,q3⟩:=zAs (b:=wK) (H.out.p1))
  |(go_at_call 155;have _t:=k7;clear _t;rw[Q5.out];refine(zMg s5 e HH.out HS5.out H.out).mono ?_;rintro e wn ⟨vh,rfl,h⟩;obtain⟨qh,caph,hvh⟩:=zAw (Know.has_right (Know.has_refl _)) h;subst hvh;replace H:=hQd h;clear h;clear k7;have k8:True:=trivial;(first|(obtain⟨ac0,ac1,ac2,ac3,ac4,ac5,ac6,ac7,ac8,af0,af1,af2,af3,af4,af5,af6,af7,af8⟩:=raw9 (b:=wA) (H.out))|(obtain⟨ac0,ac1,ac2,ac3,ac4,ac5,ac6,ac7,ac8,af0,af1,af2,af3,af4,af5,af6,af7,af8⟩:=raw9 (b:=wA) (H.out.p1))|(obtain⟨ac0,ac1,ac2,ac3,ac4,ac5,ac6,ac7,ac8,af0,af1,af2,af3,af4,af5,af6,af7,af8⟩:=raw9 (b:=wA) (H.out.p2))|(obtain⟨ac0,ac1,ac2,ac3,ac4,ac5,ac6,ac7,ac8,af0,af1,af2,af3,af4,af5,af6,af7,af8⟩:=raw9 (b:=wA) (H.out.p3))|(obtain⟨ac0,ac1,ac2,ac3,ac4,ac5,ac6,ac7,ac8,af0,af1,af2,af3,af4,af5,af6,af7,af8⟩:=raw9 (b:=wA) (H.out.p4)));obtain⟨rc0,rc1,rc2,rc3,rc4,rc5,rc6,rf0,rf1,rf2,rf3,rf4,rf5,rf6⟩:=raw7 (b:=wR) (H.out.p2);obtain⟨p0,p1,p2,p3⟩:=zAs (b:=wV) (H.out);obtain⟨q0,q1,q2,q3⟩:=zAs (b:=wK) (H.out.p1))
  |(go_at_call 126;refine(zAM _ H.out).zM ?_;clear H;intro wn H;(first|(obtain⟨ac0,ac1,ac2,ac3,ac4,ac5,ac6,ac7,ac8,af0,af1,af2,af3,af4,af5,af6,af7,af8⟩:=raw9 (b:=wA) (H.out))|(obtain⟨ac0,ac1,ac2,ac3,ac4,ac5,ac6,ac7,ac8,af0,af1,af2,af3,af4,af5,af6,af7,af8⟩:=raw9 (b:=wA) (H.out.p1))|(obtain⟨ac0,ac1,ac2,ac3,ac4,ac5,ac6,ac7,ac8,af0,af1,af2,af3,af4,af5,af6,af7,af8⟩:=raw9 (b:=wA) (H.out.p2))|(obtain⟨ac0,ac1,ac2,ac3,ac4,ac5,ac6,ac7,ac8,af0,af1,af2,af3,af4,af5,af6,af7,af8⟩:=raw9 (b:=wA) (H.out.p3))|(obtain⟨ac0,ac1,ac2,ac3,ac4,ac5,ac6,ac7,ac8,af0,af1,af2,af3,af4,af5,af6,af7,af8⟩:=raw9 (b:=wA) (H.out.p4)))))
 refine bodyPost_ret (v:=.agg #[I O 0,I O 0,U false,Z ⟨#[]⟩,U false,Z ⟨#[]⟩,Ja none 0 0,I O 0,I O e]) zq35 rfl ⟨rfl,((((((((((H.out.p3.rawSet 0 _).rawSet 1 _).rawSet 2 _).rawSet 3 _).rawSet 4 _).rawSet 5 _).rawSet 6 _).rawSet 7 _).rawSet 8 _).drop.drop.drop.drop).know (Know.has_left (Know.has_refl _))⟩
theorem zGi(s t1:Bs)(u k:Nat)(hl1:0<s.length)(hz:s[0]=0)(q1:s.drop 1=t1)(hv1:zAT 1 10 0 0 t1=.ok (u,k))(hu:u<18446744073709551616)(hs:s.length≤1000000)(s2:Bs)(hk:1+k≤s.length)(q2:s.drop (1+k)=s2)(v m:Nat)(bt bo:Int)(hv2:zAT 15 5 0 0 s2=.ok (v,m))(hbt:zAV u=bt)(hbo:zAV v=bo)(hvv:v<18446744073709551616)(s3:Bs)(hm:m≤s2.length)(q3:s2.drop m=s3)(ho:0≤bo)(s4:Bs)(kb:BlobS)(ka:Nat)(hka:ka≤s3.length)(q4:s3.drop ka=s4)(hg1:zAf s3=.ok (kb,ka))(s5:Bs)(vb:BlobS)(va:Nat)(hva:va≤s4.length)(q5:s4.drop va=s5)(hg2:zAf s4=.ok (vb,va))(l:List HdrS)(ha:Nat)(hh:zAJ s5=.ok (l,ha))(hne:ha≠s5.length)(hla:ha≤s5.length)(h:St W0 w K L):
 Calls Jd 127 #[Z (bb s)] w fun en w'=>en=Jb (.agg #[I O 0,I O 0,U false,Z ⟨#[]⟩,U false,Z ⟨#[]⟩,Ja none 0 0,I O 0,I O 2])∧St W0 w' K L:=by
 have h0:=h.allocRaw #[I O 0,I O 0,U false,Z ⟨#[]⟩,U false,Z ⟨#[]⟩,Ja none 0 0,I O 0,I O 0] 146;obtain⟨wA,hwA⟩:=eX w.heap.size;rw[hwA]at h0;have H:=hQd h0;have h1:decide ((s.length:Int)<1)=false:=decide_eq_false oM;have hcn:((s[0].toNat:Int) !=0)=false:=by rw[hz];rfl
 have hb1:(1:Int)≤(s.length:Int):=by omega
 have HV1:=hQd hv1;have HU:=hQd hu;have hlt1:t1.length+1=s.length:=by rw[←q1,Jf];omega
 have HS1:=hQd (show t1.length≤140737488355328 by omega);have Q1:=hQd (show Jq (s.length - 1) (List.tail s)=t1 by rw[←q1,List.drop_one];exact Jj sM);have k1:True:=trivial;have hb2:(1:Int)+k≤(s.length:Int):=by omega
 have hl2:s2.length+k+1=s.length:=by rw[←q2,Jf];omega
 have HS2:=hQd (show s2.length≤140737488355328 by omega);have Q2:=hQd (show Jq (s.length - (1+k)) (List.drop (1+k) s)=s2 by rw[←q2];exact Jj sM);have HV2:=hQd hv2;have HBT:=hQd hbt;have HBO:=hQd hbo;have HW:=hQd hvv;have hdo:decide (bo<0)=false:=decide_eq_false oM;have hb3:(m:Int)≤(s2.length:Int):=by omega
 have hl3:s3.length+m=s2.length:=by rw[←q3,Jf];omega
 have HS3:=hQd (show s3.length≤140737488355328 by omega);have Q3:=hQd (show Jq (s2.length - m) (List.drop m s2)=s3 by rw[←q3];exact Jj sM);have hb4:(ka:Int)≤(s3.length:Int):=by omega
 have hl4:s4.length+ka=s3.length:=by rw[←q4,Jf];omega
 have HS4:=hQd (show s4.length≤140737488355328 by omega);have Q4:=hQd (show Jq (s3.length - ka) (List.drop ka s3)=s4 by rw[←q4];exact Jj sM);have HG1:=hQd (show gotV (zAf s3)=.agg #[U kb.null,Z (bb kb.data),I O ka,I O 0] by rw[hg1];rfl);have hb5:(va:Int)≤(s4.length:Int):=by omega
 have hl5:s5.length+va=s4.length:=by rw[←q5,Jf];omega
 have HS5:=hQd (show s5.length≤140737488355328 by omega);have Q5:=hQd (show Jq (s4.length - va) (List.drop va s4)=s5 by rw[←q5];exact Jj sM);have HG2:=hQd (show gotV (zAf s4)=.agg #[U vb.null,Z (bb vb.data),I O va,I O 0] by rw[hg2];rfl);have HH:=hQd hh;have hnb:((ha:Int) !=(s5.length:Int))=true:=bne_iff_ne.2 oM;clear hz hv1 hu q1 q2 hv2 hbt hbo hvv q3 q4 hg1 q5 hg2 hh hne h h0;go_enter Tryz.func127,Tryz.ntmps127
 go_wp2_with (first
  |(go_at_call 152;have _t:=k1;clear _t;rw[Q1.out];(with_reducible refine(zB0 t1 u k HV1.out HS1.out H.out).zM ?_);clear H;intro wn H;clear k1;have k2:True:=trivial)
  |(go_at_call 152;have _t:=k2;clear _t;rw[Q2.out];(with_reducible refine(zCK s2 v m HV2.out HS2.out H.out).zM ?_);clear H;intro wn H;clear k2;have k3:True:=trivial)
  |(go_at_call 154;have _t:=k3;clear _t;(with_reducible refine(zA2 u bt HBT.out HU.out H.out).zM ?_);clear H;intro wn H;clear k3;have k4:True:=trivial)
  |(go_at_call 154;have _t:=k4;clear _t;(with_reducible refine(zA2 v bo HBO.out HW.out H.out).mono ?_);rintro e wn ⟨rfl,h⟩;obtain⟨wR,hwR⟩:=eX wn.heap.size;have h:=h.allocRaw #[I O bt,I O bo,U false,Z ⟨#[]⟩,U false,Z ⟨#[]⟩,Ja none 0 0] 54;rw[hwR]at h;replace H:=hQd h;clear h;clear k4;have k5:True:=trivial;obtain⟨rc0,rc1,rc2,rc3,rc4,rc5,rc6,rf0,rf1,rf2,rf3,rf4,rf5,rf6⟩:=raw7 (b:=wR) (H.out))
  |(go_at_call 125;have _t:=k5;clear _t;rw[Q3.out];(with_reducible refine(zAi s3 s3 _ rfl HS3.out HG1.out H.out).mono ?_);rintro e wn ⟨rfl,h⟩;obtain⟨wK,hwK⟩:=eX wn.heap.size;have h:=h.allocRaw #[U kb.null,Z (bb kb.data),I O ka,I O 0] 176;rw[hwK]at h;replace H:=hQd h;clear h;clear k5;have k6:True:=trivial;obtain⟨q0,q1,q2,q3⟩:=zAs (b:=wK) (H.out))
  |(go_at_call 125;have _t:=k6;clear _t;rw[Q4.out];(with_reducible refine(zAi s4 s4 _ rfl HS4.out HG2.out H.out).mono ?_);rintro e wn ⟨rfl,h⟩;obtain⟨wV,hwV⟩:=eX wn.heap.size;have h:=h.allocRaw #[U vb.null,Z (bb vb.data),I O va,I O 0] 176;rw[hwV]at h;replace H:=hQd h;clear h;clear k6;have k7:True:=trivial;obtain⟨p0,p1,p2,p3⟩:=zAs (b:=wV) (H.out);obtain⟨q0,q1,q2,q3⟩:=zAs (b:=wK) (H.out.p1))
  |(go_at_call 155;have _t:=k7;clear _t;rw[Q5.out];refine(zG5 s5 l ha HH.out HS5.out H.out).mono ?_;rintro e wn ⟨vh,rfl,h⟩;obtain⟨qh,caph,hvh⟩:=zAw (Know.has_right (Know.has_refl _)) h;subst hvh;replace H:=hQd h;clear h;clear k7;have k8:True:=trivial;(first|(obtain⟨ac0,ac1,ac2,ac3,ac4,ac5,ac6,ac7,ac8,af0,af1,af2,af3,af4,af5,af6,af7,af8⟩:=raw9 (b:=wA) (H.out))|(obtain⟨ac0,ac1,ac2,ac3,ac4,ac5,ac6,ac7,ac8,af0,af1,af2,af3,af4,af5,af6,af7,af8⟩:=raw9 (b:=wA) (H.out.p1))|(obtain⟨ac0,ac1,ac2,ac3,ac4,ac5,ac6,ac7,ac8,af0,af1,af2,af3,af4,af5,af6,af7,af8⟩:=raw9 (b:=wA) (H.out.p2))|(obtain⟨ac0,ac1,ac2,ac3,ac4,ac5,ac6,ac7,ac8,af0,af1,af2,af3,af4,af5,af6,af7,af8⟩:=raw9 (b:=wA) (H.out.p3))|(obtain⟨ac0,ac1,ac2,ac3,ac4,ac5,ac6,ac7,ac8,af0,af1,af2,af3,af4,af5,af6,af7,af8⟩:=raw9 (b:=wA) (H.out.p4)));obtain⟨rc0,rc1,rc2,rc3,rc4,rc5,rc6,rf0,rf1,rf2,rf3,rf4,rf5,rf6⟩:=raw7 (b:=wR) (H.out.p2);obtain⟨p0,p1,p2,p3⟩:=zAs (b:=wV) (H.out);obtain⟨q0,q1,q2,q3⟩:=zAs (b:=wK) (H.out.p1))
  |(go_at_call 126;refine(zAM _ H.out).zM ?_;clear H;intro wn H;(first|(obtain⟨ac0,ac1,ac2,ac3,ac4,ac5,ac6,ac7,ac8,af0,af1,af2,af3,af4,af5,af6,af7,af8⟩:=raw9 (b:=wA) (H.out))|(obtain⟨ac0,ac1,ac2,ac3,ac4,ac5,ac6,ac7,ac8,af0,af1,af2,af3,af4,af5,af6,af7,af8⟩:=raw9 (b:=wA) (H.out.p1))|(obtain⟨ac0,ac1,ac2,ac3,ac4,ac5,ac6,ac7,ac8,af0,af1,af2,af3,af4,af5,af6,af7,af8⟩:=raw9 (b:=wA) (H.out.p2))|(obtain⟨ac0,ac1,ac2,ac3,ac4,ac5,ac6,ac7,ac8,af0,af1,af2,af3,af4,af5,af6,af7,af8⟩:=raw9 (b:=wA) (H.out.p3))|(obtain⟨ac0,ac1,ac2,ac3,ac4,ac5,ac6,ac7,ac8,af0,af1,af2,af3,af4,af5,af6,af7,af8⟩:=raw9 (b:=wA) (H.out.p4)))))
 refine bodyPost_ret (v:=.agg #[I O 0,I O 0,U false,Z ⟨#[]⟩,U false,Z ⟨#[]⟩,Ja none 0 0,I O 0,I O 2]) zq35 rfl ⟨rfl,((((((((((H.out.p3.rawSet 0 _).rawSet 1 _).rawSet 2 _).rawSet 3 _).rawSet 4 _).rawSet 5 _).rawSet 6 _).rawSet 7 _).rawSet 8 _).drop.drop.drop.drop).know (Know.has_left (Know.has_refl _))⟩
theorem zH9(s t1:Bs)(u k:Nat)(hl1:0<s.length)(hz:s[0]=0)(q1:s.drop 1=t1)(hv1:zAT 1 10 0 0 t1=.ok (u,k))(hu:u<18446744073709551616)(hs:s.length≤1000000)(s2:Bs)(hk:1+k≤s.length)(q2:s.drop (1+k)=s2)(v m:Nat)(bt bo:Int)(hv2:zAT 15 5 0 0 s2=.ok (v,m))(hbt:zAV u=bt)(hbo:zAV v=bo)(hvv:v<18446744073709551616)(s3:Bs)(hm:m≤s2.length)(q3:s2.drop m=s3)(ho:0≤bo)(s4:Bs)(kb:BlobS)(ka:Nat)(hka:ka≤s3.length)(q4:s3.drop ka=s4)(hg1:zAf s3=.ok (kb,ka))(s5:Bs)(vb:BlobS)(va:Nat)(hva:va≤s4.length)(q5:s4.drop va=s5)(hg2:zAf s4=.ok (vb,va))(l:List HdrS)(ha:Nat)(hh:zAJ s5=.ok (l,ha))(hne:ha=s5.length){W0 w:World}{K:Know}{L:List Res}(h:St W0 w K L):
 Calls Jd 127 #[Z (bb s)] w fun en w'=>∃v,en=Jb (.agg #[I O bt,I O bo,U kb.null,Z (bb kb.data),U vb.null,Z (bb vb.data),v,I O 0,I O 0])∧St W0 w' (K.and (Know.flat RHdr v 3 l)) L:=by
 have h0:=h.allocRaw #[I O 0,I O 0,U false,Z ⟨#[]⟩,U false,Z ⟨#[]⟩,Ja none 0 0,I O 0,I O 0] 146;obtain⟨wA,hwA⟩:=eX w.heap.size;rw[hwA]at h0;have H:=hQd h0;have h1:decide ((s.length:Int)<1)=false:=decide_eq_false oM;have hcn:((s[0].toNat:Int) !=0)=false:=by rw[hz];rfl
 have hb1:(1:Int)≤(s.length:Int):=by omega
 have HV1:=hQd hv1;have HU:=hQd hu;have hlt1:t1.length+1=s.length:=by rw[←q1,Jf];omega
 have HS1:=hQd (show t1.length≤140737488355328 by omega);have Q1:=hQd (show Jq (s.length - 1) (List.tail s)=t1 by rw[←q1,List.drop_one];exact Jj sM);have k1:True:=trivial;have hb2:(1:Int)+k≤(s.length:Int):=by omega
 have hl2:s2.length+k+1=s.length:=by rw[←q2,Jf];omega
 have HS2:=hQd (show s2.length≤140737488355328 by omega);have Q2:=hQd (show Jq (s.length - (1+k)) (List.drop (1+k) s)=s2 by rw[←q2];exact Jj sM);have HV2:=hQd hv2;have HBT:=hQd hbt;have HBO:=hQd hbo;have HW:=hQd hvv;have hdo:decide (bo<0)=false:=decide_eq_false oM;have hb3:(m:Int)≤(s2.length:Int):=by omega
 have hl3:s3.length+m=s2.length:=by rw[←q3,Jf];omega
 have HS3:=hQd (show s3.length≤140737488355328 by omega);have Q3:=hQd (show Jq (s2.length - m) (List.drop m s2)=s3 by rw[←q3];exact Jj sM);have hb4:(ka:Int)≤(s3.length:Int):=by omega
 have hl4:s4.length+ka=s3.length:=by rw[←q4,Jf];omega
 have HS4:=hQd (show s4.length≤140737488355328 by omega);have Q4:=hQd (show Jq (s3.length - ka) (List.drop ka s3)=s4 by rw[←q4];exact Jj sM);have HG1:=hQd (show gotV (zAf s3)=.agg #[U kb.null,Z (bb kb.data),I O ka,I O 0] by rw[hg1];rfl);have hb5:(va:Int)≤(s4.length:Int):=by omega
 have hl5:s5.length+va=s4.length:=by rw[←q5,Jf];omega
 have HS5:=hQd (show s5.length≤140737488355328 by omega);have Q5:=hQd (show Jq (s4.length - va) (List.drop va s4)=s5 by rw[←q5];exact Jj sM);have HG2:=hQd (show gotV (zAf s4)=.agg #[U vb.null,Z (bb vb.data),I O va,I O 0] by rw[hg2];rfl);have HH:=hQd hh;have hnb:((ha:Int) !=(s5.length:Int))=false:=by rw[hne];simp
 clear hz hv1 hu q1 q2 hv2 hbt hbo hvv q3 q4 hg1 q5 hg2 hh hne h h0;go_enter Tryz.func127,Tryz.ntmps127
 go_upto_region 29 with (first
  |(go_at_call 152;have _t:=k1;clear _t;rw[Q1.out];(with_reducible refine(zB0 t1 u k HV1.out HS1.out H.out).zM ?_);clear H;intro wn H;clear k1;have k2:True:=trivial)
  |(go_at_call 152;have _t:=k2;clear _t;rw[Q2.out];(with_reducible refine(zCK s2 v m HV2.out HS2.out H.out).zM ?_);clear H;intro wn H;clear k2;have k3:True:=trivial)
  |(go_at_call 154;have _t:=k3;clear _t;(with_reducible refine(zA2 u bt HBT.out HU.out H.out).zM ?_);clear H;intro wn H;clear k3;have k4:True:=trivial)
  |(go_at_call 154;have _t:=k4;clear _t;(with_reducible refine(zA2 v bo HBO.out HW.out H.out).mono ?_);rintro e wn ⟨rfl,h⟩;obtain⟨wR,hwR⟩:=eX wn.heap.size;have h:=h.allocRaw #[I O bt,I O bo,U false,Z ⟨#[]⟩,U false,Z ⟨#[]⟩,Ja none 0 0] 54;rw[hwR]at h;replace H:=hQd h;clear h;clear k4;have k5:True:=trivial;obtain⟨rc0,rc1,rc2,rc3,rc4,rc5,rc6,rf0,rf1,rf2,rf3,rf4,rf5,rf6⟩:=raw7 (b:=wR) (H.out))
  |(go_at_call 125;have _t:=k5;clear _t;rw[Q3.out];(with_reducible refine(zAi s3 s3 _ rfl HS3.out HG1.out H.out).mono ?_);rintro e wn ⟨rfl,h⟩;obtain⟨wK,hwK⟩:=eX wn.heap.size;have h:=h.allocRaw #[U kb.null,Z (bb kb.data),I O ka,I O 0] 176;rw[hwK]at h;replace H:=hQd h;clear h;clear k5;have k6:True:=trivial;obtain⟨q0,q1,q2,q3⟩:=zAs (b:=wK) (H.out))
  |(go_at_call 125;have _t:=k6;clear _t;rw[Q4.out];(with_reducible refine(zAi s4 s4 _ rfl HS4.out HG2.out H.out).mono ?_);rintro e wn ⟨rfl,h⟩;obtain⟨wV,hwV⟩:=eX wn.heap.size;have h:=h.allocRaw #[U vb.null,Z (bb vb.data),I O va,I O 0] 176;rw[hwV]at h;replace H:=hQd h;clear h;clear k6;have k7:True:=trivial;obtain⟨p0,p1,p2,p3⟩:=zAs (b:=wV) (H.out);obtain⟨q0,q1,q2,q3⟩:=zAs (b:=wK) (H.out.p1))
  |(go_at_call 155;have _t:=k7;clear _t;rw[Q5.out];refine(zG5 s5 l ha HH.out HS5.out H.out).mono ?_;rintro e wn ⟨vh,rfl,h⟩;obtain⟨qh,caph,hvh⟩:=zAw (Know.has_right (Know.has_refl _)) h;subst hvh;replace H:=hQd h;clear h;clear k7;have k8:True:=trivial;(first|(obtain⟨ac0,ac1,ac2,ac3,ac4,ac5,ac6,ac7,ac8,af0,af1,af2,af3,af4,af5,af6,af7,af8⟩:=raw9 (b:=wA) (H.out))|(obtain⟨ac0,ac1,ac2,ac3,ac4,ac5,ac6,ac7,ac8,af0,af1,af2,af3,af4,af5,af6,af7,af8⟩:=raw9 (b:=wA) (H.out.p1))|(obtain⟨ac0,ac1,ac2,ac3,ac4,ac5,ac6,ac7,ac8,af0,af1,af2,af3,af4,af5,af6,af7,af8⟩:=raw9 (b:=wA) (H.out.p2))|(obtain⟨ac0,ac1,ac2,ac3,ac4,ac5,ac6,ac7,ac8,af0,af1,af2,af3,af4,af5,af6,af7,af8⟩:=raw9 (b:=wA) (H.out.p3))|(obtain⟨ac0,ac1,ac2,ac3,ac4,ac5,ac6,ac7,ac8,af0,af1,af2,af3,af4,af5,af6,af7,af8⟩:=raw9 (b:=wA) (H.out.p4)));obtain⟨rc0,rc1,rc2,rc3,rc4,rc5,rc6,rf0,rf1,rf2,rf3,rf4,rf5,rf6⟩:=raw7 (b:=wR) (H.out.p2);obtain⟨p0,p1,p2,p3⟩:=zAs (b:=wV) (H.out);obtain⟨q0,q1,q2,q3⟩:=zAs (b:=wK) (H.out.p1))
  |(go_at_call 126;refine(zAM _ H.out).zM ?_;clear H;intro wn H;(first|(obtain⟨ac0,ac1,ac2,ac3,ac4,ac5,ac6,ac7,ac8,af0,af1,af2,af3,af4,af5,af6,af7,af8⟩:=raw9 (b:=wA) (H.out))|(obtain⟨ac0,ac1,ac2,ac3,ac4,ac5,ac6,ac7,ac8,af0,af1,af2,af3,af4,af5,af6,af7,af8⟩:=raw9 (b:=wA) (H.out.p1))|(obtain⟨ac0,ac1,ac2,ac3,ac4,ac5,ac6,ac7,ac8,af0,af1,af2,af3,af4,af5,af6,af7,af8⟩:=raw9 (b:=wA) (H.out.p2))|(obtain⟨ac0,ac1,ac2,ac3,ac4,ac5,ac6,ac7,ac8,af0,af1,af2,af3,af4,af5,af6,af7,af8⟩:=raw9 (b:=wA) (H.out.p3))|(obtain⟨ac0,ac1,ac2,ac3,ac4,ac5,ac6,ac7,ac8,af0,af1,af2,af3,af4,af5,af6,af7,af8⟩:=raw9 (b:=wA) (H.out.p4)))))
 go_cut [2,9,10,11,12] (fun s2 s9 s10 s11 s12 wx=>s2=Jc (some ⟨wA,0,none⟩)∧s9=Jc (some ⟨wR,0,none⟩)∧s10=Jc (some ⟨wK,0,none⟩)∧s11=Jc (some ⟨wV,0,none⟩)∧s12=Ja qh l.length caph∧St W0 wx (K.and (Know.flat RHdr (Ja qh l.length caph) 3 l)) (.raw wV #[U vb.null,Z (bb vb.data),I O va,I O 0] 176::.raw wK #[U kb.null,Z (bb kb.data),I O ka,I O 0] 176::.raw wR #[I O bt,I O bo,U kb.null,Z (bb kb.data),U false,Z ⟨#[]⟩,Ja none 0 0] 54::.raw wA #[I O 0,I O 0,U false,Z ⟨#[]⟩,U false,Z ⟨#[]⟩,Ja none 0 0,I O 0,I O 0] 146::L))
 case first=>
  obtain⟨ac0,ac1,ac2,ac3,ac4,ac5,ac6,ac7,ac8,af0,af1,af2,af3,af4,af5,af6,af7,af8⟩:=raw9 (b:=wA) (H.out.p3);obtain⟨rc0,rc1,rc2,rc3,rc4,rc5,rc6,rf0,rf1,rf2,rf3,rf4,rf5,rf6⟩:=raw7 (b:=wR) (H.out.p2);obtain⟨p0,p1,p2,p3⟩:=zAs (b:=wV) (H.out);obtain⟨q0,q1,q2,q3⟩:=zAs (b:=wK) (H.out.p1);have n1:¬(wV=wR):=H.out.p1.drop.raw_ne;have n2:¬(wK=wR):=H.out.drop.raw_ne;have n3:¬(wR=wA):=H.out.drop.drop.raw_ne;have m1:¬(wR=wV):=fun e=>n1 e.symm;have m2:¬(wR=wK):=fun e=>n2 e.symm;have m3:¬(wA=wR):=fun e=>n3 e.symm
  go_wp2_with fail;go_meet;exact⟨rfl,rfl,rfl,rfl,rfl,((H.out.p2.rawSet 2 _).rawSet 3 _).p2.p2⟩
 case rest=>
 obtain⟨rfl,rfl,rfl,rfl,rfl,hst⟩:=hcut;clear H;have H:=hQd hst;clear hst;go_upto_region 30 with (fail);go_cut [2,9,10,11,12] (fun s2 s9 s10 s11 s12 wx=>s2=Jc (some ⟨wA,0,none⟩)∧s9=Jc (some ⟨wR,0,none⟩)∧s10=Jc (some ⟨wK,0,none⟩)∧s11=Jc (some ⟨wV,0,none⟩)∧s12=Ja qh l.length caph∧St W0 wx (K.and (Know.flat RHdr (Ja qh l.length caph) 3 l)) (.raw wV #[U vb.null,Z (bb vb.data),I O va,I O 0] 176::.raw wK #[U kb.null,Z (bb kb.data),I O ka,I O 0] 176::.raw wR #[I O bt,I O bo,U kb.null,Z (bb kb.data),U vb.null,Z (bb vb.data),Ja none 0 0] 54::.raw wA #[I O 0,I O 0,U false,Z ⟨#[]⟩,U false,Z ⟨#[]⟩,Ja none 0 0,I O 0,I O 0] 146::L))
 case first=>
  obtain⟨ac0,ac1,ac2,ac3,ac4,ac5,ac6,ac7,ac8,af0,af1,af2,af3,af4,af5,af6,af7,af8⟩:=raw9 (b:=wA) (H.out.p3);obtain⟨rc0,rc1,rc2,rc3,rc4,rc5,rc6,rf0,rf1,rf2,rf3,rf4,rf5,rf6⟩:=raw7 (b:=wR) (H.out.p2);obtain⟨p0,p1,p2,p3⟩:=zAs (b:=wV) (H.out);obtain⟨q0,q1,q2,q3⟩:=zAs (b:=wK) (H.out.p1);have n1:¬(wV=wR):=H.out.p1.drop.raw_ne;have n2:¬(wK=wR):=H.out.drop.raw_ne;have n3:¬(wR=wA):=H.out.drop.drop.raw_ne;have m1:¬(wR=wV):=fun e=>n1 e.symm;have m2:¬(wR=wK):=fun e=>n2 e.symm;have m3:¬(wA=wR):=fun e=>n3 e.symm
  go_wp2_with fail;go_meet;exact⟨rfl,rfl,rfl,rfl,rfl,((H.out.p2.rawSet 4 _).rawSet 5 _).p2.p2⟩
 case rest=>
 obtain⟨rfl,rfl,rfl,rfl,rfl,hst⟩:=hcut;clear H;have H:=hQd hst;clear hst;go_upto_region 31 with (fail);go_cut [2,9,10,11,12] (fun s2 s9 s10 s11 s12 wx=>s2=Jc (some ⟨wA,0,none⟩)∧s9=Jc (some ⟨wR,0,none⟩)∧s10=Jc (some ⟨wK,0,none⟩)∧s11=Jc (some ⟨wV,0,none⟩)∧s12=Ja qh l.length caph∧St W0 wx (K.and (Know.flat RHdr (Ja qh l.length caph) 3 l)) (.raw wV #[U vb.null,Z (bb vb.data),I O va,I O 0] 176::.raw wK #[U kb.null,Z (bb kb.data),I O ka,I O 0] 176::.raw wR #[I O bt,I O bo,U kb.null,Z (bb kb.data),U vb.null,Z (bb vb.data),Ja qh l.length caph] 54::.raw wA #[I O 0,I O 0,U false,Z ⟨#[]⟩,U false,Z ⟨#[]⟩,Ja none 0 0,I O 0,I O 0] 146::L))
 case first=>
  obtain⟨ac0,ac1,ac2,ac3,ac4,ac5,ac6,ac7,ac8,af0,af1,af2,af3,af4,af5,af6,af7,af8⟩:=raw9 (b:=wA) (H.out.p3);obtain⟨rc0,rc1,rc2,rc3,rc4,rc5,rc6,rf0,rf1,rf2,rf3,rf4,rf5,rf6⟩:=raw7 (b:=wR) (H.out.p2);obtain⟨p0,p1,p2,p3⟩:=zAs (b:=wV) (H.out);obtain⟨q0,q1,q2,q3⟩:=zAs (b:=wK) (H.out.p1);have n1:¬(wV=wR):=H.out.p1.drop.raw_ne;have n2:¬(wK=wR):=H.out.drop.raw_ne;have n3:¬(wR=wA):=H.out.drop.drop.raw_ne;have m1:¬(wR=wV):=fun e=>n1 e.symm;have m2:¬(wR=wK):=fun e=>n2 e.symm;have m3:¬(wA=wR):=fun e=>n3 e.symm
  go_wp2_with fail;go_meet;exact⟨rfl,rfl,rfl,rfl,rfl,(H.out.p2.rawSet 6 _).p2.p2⟩
 case rest=>
 obtain⟨rfl,rfl,rfl,rfl,rfl,hst⟩:=hcut;clear H;have H:=hQd hst;clear hst;obtain⟨ac0,ac1,ac2,ac3,ac4,ac5,ac6,ac7,ac8,af0,af1,af2,af3,af4,af5,af6,af7,af8⟩:=raw9 (b:=wA) (H.out.p3);obtain⟨rc0,rc1,rc2,rc3,rc4,rc5,rc6,rf0,rf1,rf2,rf3,rf4,rf5,rf6⟩:=raw7 (b:=wR) (H.out.p2);obtain⟨p0,p1,p2,p3⟩:=zAs (b:=wV) (H.out);obtain⟨q0,q1,q2,q3⟩:=zAs (b:=wK) (H.out.p1);have n1:¬(wV=wR):=H.out.p1.drop.raw_ne;have n2:¬(wK=wR):=H.out.drop.raw_ne;have n3:¬(wR=wA):=H.out.drop.drop.raw_ne;have m1:¬(wR=wV):=fun e=>n1 e.symm;have m2:¬(wR=wK):=fun e=>n2 e.symm;have m3:¬(wA=wR):=fun e=>n3 e.symm
 go_wp2_with fail;refine bodyPost_ret (v:=.agg #[I O bt,I O bo,U kb.null,Z (bb kb.data),U vb.null,Z (bb vb.data),Ja qh l.length caph,I O 0,I O 0]) zq35 rfl ⟨Ja qh l.length caph,rfl,(((((((((H.out.p3.rawSet 0 _).rawSet 1 _).rawSet 2 _).rawSet 3 _).rawSet 4 _).rawSet 5 _).rawSet 6 _).rawSet 7 _).rawSet 8 _).drop.drop.drop.drop⟩
theorem zTC{s:Bs}{a:Int}(h0:zAS 1 s=.ok (a,1))(ha:a≠0):zAG s=.error 8:=by unfold zAG;rw[h0];simp only;rw[if_neg ha]
theorem zTA{s:Bs}{e:Int}(h0:zAS 1 s=.ok (0,1))(h1:zCO (s.drop 1)=.error e):zAG s=.error e:=by unfold zAG;rw[h0];simp only[if_true];rw[h1]
theorem ri_off{s:Bs}{e t:Int}{k:Nat}(h0:zAS 1 s=.ok (0,1))(h1:zCO (s.drop 1)=.ok (t,k))(h2:zBw (s.drop (1+k))=.error e):zAG s=.error e:=by
 unfold zAG;rw[h0];simp only[if_true];rw[h1];simp only;rw[h2]
theorem ri_neg{s:Bs}{t o:Int}{k m:Nat}(h0:zAS 1 s=.ok (0,1))(h1:zCO (s.drop 1)=.ok (t,k))(h2:zBw (s.drop (1+k))=.ok (o,m))(ho:o<0):zAG s=.error 11:=by
 unfold zAG;rw[h0];simp only[if_true];rw[h1];simp only;rw[h2];simp only;rw[if_pos ho]
theorem zTB{s:Bs}{t o:Int}{k m:Nat}(h0:zAS 1 s=.ok (0,1))(h1:zCO (s.drop 1)=.ok (t,k))(h2:zBw (s.drop (1+k))=.ok (o,m))(ho:¬o<0):zAG s=
    match zAf (s.drop (1+k+m))with
          | .error e=> .error e
          | .ok kk=>match zAf (s.drop (1+k+m+kk.2))with
            | .error e=> .error e
            | .ok v=>match zAJ (s.drop (1+k+m+kk.2+v.2))with
              | .error e=> .error e
              | .ok h=>if 1+k+m+kk.2+v.2+h.2=s.length then .ok ⟨t,o,kk.1,v.1,h.1⟩else .error 2:=by
  unfold zAG;rw[h0];simp only[if_true];rw[h1];simp only;rw[h2];simp only;rw[if_neg ho]
  rfl
def zUu (r:Except Int RecS) (K:Know) (W0:World) (L:List Res) (en:Ending) (w':World):Prop:=match r with
 | .ok x=>∃v,en=Jb (.agg #[I O x.time,I O x.off,U x.key.null,Z (bb x.key.data),U x.val.null,Z (bb x.val.data),v,I O 0,I O 0])∧St W0 w' (K.and (Know.flat RHdr v 3 x.hdrs)) L
 | .error e=>en=Jb (.agg #[I O 0,I O 0,U false,Z ⟨#[]⟩,U false,Z ⟨#[]⟩,Ja none 0 0,I O 0,I O e])∧St W0 w' K L
theorem zM9{top most:Nat}{l:Bs}{u k:Nat}(ht:top<128)(hm:top=1∧most=10∨top=15∧most=5)(h:zAT top most 0 0 l=.ok (u,k)):u<18446744073709551616:=by
 rcases hm with ⟨rfl,rfl⟩|⟨rfl,rfl⟩
 ·have h1:zCO l=.ok (zAV u,k):=by unfold zCO;rw[h]
  obtain⟨_,_,_,g4,g5⟩:=zKg h1;unfold zAV at g4 g5
  omega
 ·have h1:zBw l=.ok (zAV u,k):=by unfold zBw;rw[h]
  obtain⟨_,_,_,g4,g5⟩:=zCX h1;unfold zAV at g4 g5
  omega
theorem zM8{top most:Nat}{l:Bs}{e:Int}(h:zAT top most 0 0 l=.error e):(e !=0)=true:=bne_iff_ne.2 (zD5 top most 0 0 l 0 e (Ji _) (by rw[List.drop_zero];exact h)).1
theorem zP5{l:Bs}{e:Int}(h:zAJ l=.error e):(e !=0)=true:=bne_iff_ne.2 (zDX.err l 0 e (Ji _) (by rw[List.drop_zero];exact h)).1
theorem zG4(s:Bs)(hs:s.length≤1000000){W0 w:World}{K:Know}{L:List Res}(h:St W0 w K L):
 Calls Jd 127 #[Z (bb s)] w (zUu (zAG s) K W0 L):=by
 cases s with
 |nil=>exact(zGh h).mono fun en w' hh=>hh
 |cons c t=>
  have hl1:0<(c::t).length:=by simp
  have hlen:(c::t).length=t.length+1:=rfl
  have h0:zAS 1 (c::t)=.ok (zEp c,1):=by
   unfold zAS;rw[if_neg sM]
   rfl
  have hlt:t.length≤1000000:=by omega
  by_cases hc:c=0
  ·subst hc;have h0:zAS 1 (0::t)=.ok (0,1):=h0;obtain⟨s,hsd⟩:∃s:Bs,s=0::t:=⟨_,rfl⟩
   cases hv1:zAT 1 10 0 0 t with
   |error e=>
    have hr:=zTA h0 (show zCO ((0::t:Bs).drop 1)=.error e by unfold zCO;show(match zAT 1 10 0 0 t with| .ok x=>_| .error e=>_)=_;rw[hv1]);rw[hr];exact zGg t e hv1 (zM8 hv1) oM h
   |ok x1=>
    obtain⟨u,k⟩:=x1;have g1:zCO ((0::t:Bs).drop 1)=.ok (zAV u,k):=by unfold zCO;show(match zAT 1 10 0 0 t with| .ok x=>_| .error e=>_)=_;rw[hv1]
    obtain⟨_,_,hk0⟩:=zCd dD hv1;have hu:=zM9 dD (.inl ⟨rfl,rfl⟩) hv1;have hk:1+k≤(0::t:Bs).length:=by simp only[Jg];omega
    obtain⟨s2,q2⟩:=eX ((0::t:Bs).drop (1+k))
    cases hv2:zAT 15 5 0 0 s2 with
    |error e=>
     rw[ri_off h0 g1 (show zBw ((0::t:Bs).drop (1+k))=.error e by rw[q2];unfold zBw;rw[hv2])];exact zG0 (0::t) t u k hl1 rfl rfl hv1 hu hs s2 hk q2 e hv2 (zM8 hv2) h
    |ok x2=>
     obtain⟨v,m⟩:=x2;have g2:zBw ((0::t:Bs).drop (1+k))=.ok (zAV v,m):=by rw[q2];unfold zBw;rw[hv2]
     obtain⟨_,_,hm⟩:=zCd dD hv2;have hvv:=zM9 dD (.inr ⟨rfl,rfl⟩) hv2
     by_cases ho:zAV v<0
     ·rw[ri_neg h0 g1 g2 ho];exact zG1 (0::t) t u k hl1 rfl rfl hv1 hu hs s2 hk q2 v m _ _ hv2 rfl rfl hvv ho h
     rw[zTB h0 g1 g2 ho];have ho:0≤zAV v:=by omega
     obtain⟨s3,q3⟩:=eX (s2.drop m);have e3:(0::t:Bs).drop (1+k+m)=s3:=by rw[←q3,←q2,List.drop_drop]
     rw[e3]
     cases hg1:zAf s3 with
     |error e=>exact zG2 (0::t) t u k hl1 rfl rfl hv1 hu hs s2 hk q2 v m _ _ hv2 rfl rfl hvv s3 hm q3 ho e hg1 (bne_iff_ne.2 (zCz hg1)) h
     |ok x3=>
      obtain⟨kb,ka⟩:=x3;obtain⟨_,_,hka,_⟩:=zAH hg1;obtain⟨s4,q4⟩:=eX (s3.drop ka);have e4:(0::t:Bs).drop (1+k+m+ka)=s4:=by rw[←q4,←e3,List.drop_drop]
      simp only;rw[e4]
      cases hg2:zAf s4 with
      |error e=>exact zGZ (0::t) t u k hl1 rfl rfl hv1 hu hs s2 hk q2 v m _ _ hv2 rfl rfl hvv s3 hm q3 ho s4 kb ka hka q4 hg1 e hg2 (bne_iff_ne.2 (zCz hg2)) h
      |ok x4=>
       obtain⟨vb,va⟩:=x4;obtain⟨_,_,hva,_⟩:=zAH hg2;obtain⟨s5,q5⟩:=eX (s4.drop va);have e5:(0::t:Bs).drop (1+k+m+ka+va)=s5:=by rw[←q5,←e4,List.drop_drop]
       simp only;rw[e5]
       cases hh:zAJ s5 with
       |error e=>exact zG3 (0::t) t u k hl1 rfl rfl hv1 hu hs s2 hk q2 v m _ _ hv2 rfl rfl hvv s3 hm q3 ho s4 kb ka hka q4 hg1 s5 vb va hva q5 hg2 e hh (zP5 hh) h
       |ok x5=>
        obtain⟨l,ha⟩:=x5;obtain⟨_,_,hla,_⟩:=zIG hh;simp only;have l2:s2.length+k+1=(0::t:Bs).length:=by rw[←q2,Jf];omega
        have l3:s3.length+m=s2.length:=by rw[←q3,Jf];omega
        have l4:s4.length+ka=s3.length:=by rw[←q4,Jf];omega
        have l5:s5.length+va=s4.length:=by rw[←q5,Jf];omega
        by_cases hfin:1+k+m+ka+va+ha=(0::t:Bs).length
        ·rw[if_pos hfin];exact zH9 (0::t) t u k hl1 rfl rfl hv1 hu hs s2 hk q2 v m _ _ hv2 rfl rfl hvv s3 hm q3 ho s4 kb ka hka q4 hg1 s5 vb va hva q5 hg2 l ha hh oM h
        ·rw[if_neg hfin];exact zGi (0::t) t u k hl1 rfl rfl hv1 hu hs s2 hk q2 v m _ _ hv2 rfl rfl hvv s3 hm q3 ho s4 kb ka hka q4 hg1 s5 vb va hva q5 hg2 l ha hh oM hla h
  ·rw[zTC h0 (by
    have hn:=c.toNat_lt;have hc2:c.toNat≠0:=fun hh=>hc (UInt8.toNat_inj.1 hh)
    unfold zEp
    split<;>omega)]
   exact zGj c t hc oM h
variable {W0 w:World}{K:Know}{L:List Res}
theorem zKG(s:Bs)(x:RecS)(hi:zAG s=.ok x)(hs:s.length≤1000000)(h:St W0 w K L):
 Calls Jd 127 #[Z (bb s)] w fun en w'=>∃v,en=Jb (.agg #[I O x.time,I O x.off,U x.key.null,Z (bb x.key.data),U x.val.null,Z (bb x.val.data),v,I O 0,I O 0])∧St W0 w' (K.and (Know.flat RHdr v 3 x.hdrs)) L:=
 (zG4 s hs h).mono fun en w' hh=>by unfold zUu at hh;rw[hi]at hh;exact hh
theorem zKH(s:Bs)(e:Int)(hi:zAG s=.error e)(hs:s.length≤1000000)(h:St W0 w K L):
 Calls Jd 127 #[Z (bb s)] w fun en w'=>en=Jb (.agg #[I O 0,I O 0,U false,Z ⟨#[]⟩,U false,Z ⟨#[]⟩,Ja none 0 0,I O 0,I O e])∧St W0 w' K L:=
 (zG4 s hs h).mono fun en w' hh=>by unfold zUu at hh;rw[hi]at hh;exact hh
theorem zJq(s d:Bs)(m:Nat)(x:RecS)(hr:zAf s=.ok (⟨false,d⟩,m))(hi:zAG d=.ok x)(hd:d.length≤1000000)(hs:s.length≤140737488355328)(h:St W0 w K L):
 Calls Jd 97 #[Z (bb s)] w fun en w'=>∃v,en=Jb (.agg #[I O x.time,I O x.off,U x.key.null,Z (bb x.key.data),U x.val.null,Z (bb x.val.data),v,I O m,I O 0])∧St W0 w' (K.and (Know.flat RHdr v 3 x.hdrs)) L:=by
 have h0:=h.allocRaw #[I O 0,I O 0,U false,Z ⟨#[]⟩,U false,Z ⟨#[]⟩,Ja none 0 0,I O 0,I O 0] 146;obtain⟨wA,hwA⟩:=eX w.heap.size;rw[hwA]at h0;have H:=hQd h0;have HS:=hQd hs;have HD:=hQd hd;have HI:=hQd hi;have HG:=hQd (show gotV (zAf s)=.agg #[U false,Z (bb d),I O m,I O 0] by rw[hr];rfl);clear h h0 hs hr hd hi;go_enter Tryz.func97,Tryz.ntmps97
 go_wp2_with (first
  |(go_at_call 125;refine(zAi s s _ rfl HS.out HG.out H.out).mono ?_;rintro e wn ⟨rfl,h⟩;obtain⟨wB,hwB⟩:=eX wn.heap.size;have h:=h.allocRaw #[U false,Z (bb d),I O m,I O 0] 176;rw[hwB]at h;replace H:=hQd h;clear h;obtain⟨q0,q1,q2,q3⟩:=zAs (b:=wB) (H.out))
  |(go_at_call 127;refine(zKG d x HI.out HD.out H.out).mono ?_;rintro e wn ⟨vh,rfl,h⟩;obtain⟨qh,caph,hvh⟩:=zAw (Know.has_right (Know.has_refl _)) h;subst hvh;have h2:=h.allocRaw #[I O x.time,I O x.off,U x.key.null,Z (bb x.key.data),U x.val.null,Z (bb x.val.data),(Ja qh x.hdrs.length caph),I O m,I O 0] 146;obtain⟨wX,hwX⟩:=eX wn.heap.size;have h:=h.allocRaw #[I O x.time,I O x.off,U x.key.null,Z (bb x.key.data),U x.val.null,Z (bb x.val.data),(Ja qh x.hdrs.length caph),I O 0,I O 0] 146;rw[hwX]at h;replace H:=hQd h;clear h;rw[hwX]at h2;have H2:=hQd h2;clear h2;obtain⟨xc0,xc1,xc2,xc3,xc4,xc5,xc6,xc7,xc8,xf0,xf1,xf2,xf3,xf4,xf5,xf6,xf7,xf8⟩:=raw9 (b:=wX) (H.out);obtain⟨ac0,ac1,ac2,ac3,ac4,ac5,ac6,ac7,ac8,af0,af1,af2,af3,af4,af5,af6,af7,af8⟩:=raw9 (b:=wA) (H2.out.p2);obtain⟨q0,q1,q2,q3⟩:=zAs (b:=wB) (H.out.p1);have n1:¬(wX=wA):=H.out.p1.drop.raw_ne;have m1:¬(wA=wX):=fun e=>n1 e.symm;have n2:¬(wX=wB):=H.out.raw_ne;have m2:¬(wB=wX):=fun e=>n2 e.symm))
 refine bodyPost_ret (v:=.agg #[I O x.time,I O x.off,U x.key.null,Z (bb x.key.data),U x.val.null,Z (bb x.val.data),(Ja qh x.hdrs.length caph),I O m,I O 0]) zq39 rfl ⟨Ja qh x.hdrs.length caph,rfl,((((((((((H2.out.p2).rawSet 0 _).rawSet 1 _).rawSet 2 _).rawSet 3 _).rawSet 4 _).rawSet 5 _).rawSet 6 _).rawSet 7 _).rawSet 8 _).drop.drop.drop⟩
theorem zJr(s d:Bs)(m:Nat)(e:Int)(hr:zAf s=.ok (⟨false,d⟩,m))(hi:zAG d=.error e)(hd:d.length≤1000000)(hs:s.length≤140737488355328)(h:St W0 w K L):
 Calls Jd 97 #[Z (bb s)] w fun en w'=>en=Jb (.agg #[I O 0,I O 0,U false,Z ⟨#[]⟩,U false,Z ⟨#[]⟩,Ja none 0 0,I O m,I O e])∧St W0 w' K L:=by
 have h0:=h.allocRaw #[I O 0,I O 0,U false,Z ⟨#[]⟩,U false,Z ⟨#[]⟩,Ja none 0 0,I O 0,I O 0] 146;obtain⟨wA,hwA⟩:=eX w.heap.size;rw[hwA]at h0;have H:=hQd h0;have HS:=hQd hs;have HD:=hQd hd;have HI:=hQd hi;have HG:=hQd (show gotV (zAf s)=.agg #[U false,Z (bb d),I O m,I O 0] by rw[hr];rfl);clear h h0 hs hr hd hi;go_enter Tryz.func97,Tryz.ntmps97
 go_wp2_with (first
  |(go_at_call 125;refine(zAi s s _ rfl HS.out HG.out H.out).mono ?_;rintro e wn ⟨rfl,h⟩;obtain⟨wB,hwB⟩:=eX wn.heap.size;have h:=h.allocRaw #[U false,Z (bb d),I O m,I O 0] 176;rw[hwB]at h;replace H:=hQd h;clear h;obtain⟨q0,q1,q2,q3⟩:=zAs (b:=wB) (H.out))
  |(go_at_call 127;refine(zKH d e HI.out HD.out H.out).mono ?_;rintro e wn ⟨rfl,h⟩;have h2:=h.allocRaw #[I O 0,I O 0,U false,Z ⟨#[]⟩,U false,Z ⟨#[]⟩,Ja none 0 0,I O m,I O e] 146;obtain⟨wX,hwX⟩:=eX wn.heap.size;have h:=h.allocRaw #[I O 0,I O 0,U false,Z ⟨#[]⟩,U false,Z ⟨#[]⟩,Ja none 0 0,I O 0,I O e] 146;rw[hwX]at h;replace H:=hQd h;clear h;rw[hwX]at h2;have H2:=hQd h2;clear h2;obtain⟨xc0,xc1,xc2,xc3,xc4,xc5,xc6,xc7,xc8,xf0,xf1,xf2,xf3,xf4,xf5,xf6,xf7,xf8⟩:=raw9 (b:=wX) (H.out);obtain⟨ac0,ac1,ac2,ac3,ac4,ac5,ac6,ac7,ac8,af0,af1,af2,af3,af4,af5,af6,af7,af8⟩:=raw9 (b:=wA) (H2.out.p2);obtain⟨q0,q1,q2,q3⟩:=zAs (b:=wB) (H.out.p1);have n1:¬(wX=wA):=H.out.p1.drop.raw_ne;have m1:¬(wA=wX):=fun e=>n1 e.symm;have n2:¬(wX=wB):=H.out.raw_ne;have m2:¬(wB=wX):=fun e=>n2 e.symm))
 refine bodyPost_ret (v:=.agg #[I O 0,I O 0,U false,Z ⟨#[]⟩,U false,Z ⟨#[]⟩,Ja none 0 0,I O m,I O e]) zq39 rfl ⟨rfl,((((((((((H2.out.p2).rawSet 0 _).rawSet 1 _).rawSet 2 _).rawSet 3 _).rawSet 4 _).rawSet 5 _).rawSet 6 _).rawSet 7 _).rawSet 8 _).drop.drop.drop⟩
def zUt (r:Except Int (RecS×Nat)) (K:Know) (W0:World) (L:List Res) (en:Ending) (w':World):Prop:=match r with
 | .ok x=>∃v,en=Jb (.agg #[I O x.1.time,I O x.1.off,U x.1.key.null,Z (bb x.1.key.data),U x.1.val.null,Z (bb x.1.val.data),v,I O x.2,I O 0])∧St W0 w' (K.and (Know.flat RHdr v 3 x.1.hdrs)) L
 | .error e=>∃m:Int,en=Jb (.agg #[I O 0,I O 0,U false,Z ⟨#[]⟩,U false,Z ⟨#[]⟩,Ja none 0 0,I O m,I O e])∧St W0 w' K L
theorem zIA(s:Bs)(hs:s.length≤1000000)(h:St W0 w K L):
 Calls Jd 97 #[Z (bb s)] w (zUt (zCQ s) K W0 L):=by
 unfold zCQ
 cases hr:zAf s with
 |error e=>exact(zH8 s e hr (bne_iff_ne.2 (zCz hr)) oM h).mono fun en w' hh=>⟨0,hh⟩
 |ok x=>
  obtain⟨⟨n,d⟩,m⟩:=x;simp only;obtain⟨_,_,g3,_,_,g5⟩:=zAH hr
  cases n with
  |true=>exact(zGY s d m hr oM h).mono fun en w' hh=>⟨0,hh⟩
  |false=>
   have hd:d.length≤1000000:=by simp at g5;omega
   simp only[Bool.false_eq_true,if_false]
   cases hi:zAG d with
   |error e=>exact(zJr s d m e hr hi hd oM h).mono fun en w' hh=>⟨m,hh⟩
   |ok x=>exact(zJq s d m x hr hi hd oM h).mono fun en w' hh=>hh
theorem glue{l a:Bs}{n m:Nat}(h:a=(l.drop n).take m):a++l.drop (n+m)=l.drop n:=by
 rw[h,←List.drop_drop,List.take_append_drop]
theorem zMl{s:Bs}{x:RecS}(h:zAG s=.ok x):recF x=s∧zA8 x=0∧x.R∧x.sum≤s.length:=by
 unfold zAG at h
 cases h0:zAS 1 s with
 |error e=>rw[h0]at h;cases h
 |ok a=>
  rw[h0]at h;simp only at h
  by_cases ha:a.1=0
  ·rw[if_pos ha]at h
   obtain⟨c,t,rfl⟩:∃c t,s=c::t:=by
    cases s with
    |nil=>cases h0
    |cons c t=>exact⟨c,t,rfl⟩
   have hc:c=0:=by
    have:(.ok (zEp c,1):Except Int (Int×Nat))=.ok a:=by rw[←h0];unfold zAS;rw[if_neg sM];rfl
    cases this
    have hn:=c.toNat_lt;have h2:zEp c=0:=ha;unfold zEp at h2;exact UInt8.toNat_inj.1 (show c.toNat=0 by split at h2<;>omega)
   subst hc
   cases h1:zCO ((0::t:Bs).drop 1)with
   |error e=>rw[h1]at h;cases h
   |ok x1=>
    obtain⟨tm,k⟩:=x1;rw[h1]at h;simp only at h
    cases h2:zBw ((0::t:Bs).drop (1+k))with
    |error e=>rw[h2]at h;cases h
    |ok x2=>
     obtain⟨o,m⟩:=x2;rw[h2]at h;simp only at h
     by_cases ho:o<0
     ·rw[if_pos ho]at h;cases h
     rw[if_neg ho]at h
     cases h3:zAf ((0::t:Bs).drop (1+k+m))with
     |error e=>rw[h3]at h;cases h
     |ok x3=>
      obtain⟨kb,ka⟩:=x3;rw[h3]at h;simp only at h
      cases h4:zAf ((0::t:Bs).drop (1+k+m+ka))with
      |error e=>rw[h4]at h;cases h
      |ok x4=>
       obtain⟨vb,va⟩:=x4;rw[h4]at h;simp only at h
       cases h5:zAJ ((0::t:Bs).drop (1+k+m+ka+va))with
       |error e=>rw[h5]at h;cases h
       |ok x5=>
        obtain⟨l,ha5⟩:=x5;rw[h5]at h;simp only at h
        by_cases hf:1+k+m+ka+va+ha5=(0::t:Bs).length
        ·rw[if_pos hf]at h
         cases h
         obtain⟨g1,_,_,r1,r2⟩:=zKg h1;obtain⟨g2,_,_,r3,r4⟩:=zCX h2;obtain⟨g3,_,b3,c3,_,d3⟩:=zAH h3;obtain⟨g4,_,b4,c4,_,d4⟩:=zAH h4;obtain⟨g5,_,b5,c5,d5⟩:=zIG h5;refine⟨?_,?_,⟨⟨r1,r2⟩,by constructor<;>simp only<;>omega⟩,?_⟩
         ·unfold recF;simp only;have q5:=glue g5;rw[List.drop_eq_nil_of_le oM,List.append_nil]at q5;rw[q5,glue g4,glue g3];have q2:encI o++(0::t:Bs).drop (1+k+m)=(0::t:Bs).drop (1+k):=glue g2;have q1:encI tm++(0::t:Bs).drop (1+k)=(0::t:Bs).drop 1:=glue g1;rw[q2,q1]
          rfl
         ·unfold zA8 RecS.allRight;simp only;rw[if_neg oM,c3,c4,c5]
          rfl
         ·unfold RecS.sum;simp only;have e3:kb.data.length≤ka:=by split at d3<;>omega
          have e4:vb.data.length≤va:=by split at d4<;>omega
          omega
        ·rw[if_neg hf]at h;cases h
  ·rw[if_neg ha]at h;cases h
theorem zEN{s:Bs}{x:RecS}{m:Nat}(h:zCQ s=.ok (x,m)):encR x=s.take m∧zA8 x=0∧x.R∧x.sum≤s.length∧0<m∧m≤s.length:=by
 unfold zCQ at h
 cases h1:zAf s with
 |error e=>rw[h1]at h;cases h
 |ok b=>
  obtain⟨⟨n,d⟩,k⟩:=b;rw[h1]at h;simp only at h;obtain⟨g1,g2,g3,_,_,g5⟩:=zAH h1
  cases n with
  |true=>cases h
  |false=>
   simp only[Bool.false_eq_true,if_false]at h
   cases h2:zAG d with
   |error e=>rw[h2]at h;cases h
   |ok y=>
    rw[h2]at h
    cases h
    obtain⟨k1,k2,k3,k4⟩:=zMl h2;simp at g5;exact⟨by unfold encR;rw[k1];exact g1,k2,k3,oM,g2,g3⟩
theorem zNx{s:Bs}{e:Int}(h:zCQ s=.error e):e≠0:=(zDH.err s 0 e (Ji _) (by rw[List.drop_zero];exact h)).1
theorem zMc(s:Bs)(x:RecS)(m:Nat)(hr:zCQ s=.ok (x,m))(hs:s.length≤1000000)(h:St W0 w K L):
 Calls Jd 97 #[Z (bb s)] w fun en w'=>∃v,en=Jb (.agg #[I O x.time,I O x.off,U x.key.null,Z (bb x.key.data),U x.val.null,Z (bb x.val.data),v,I O m,I O 0])∧St W0 w' (K.and (Know.flat RHdr v 3 x.hdrs)) L:=
 (zIA s hs h).mono fun en w' hh=>by unfold zUt at hh;rw[hr]at hh;exact hh
theorem zMd(s:Bs)(e:Int)(hr:zCQ s=.error e)(hs:s.length≤1000000)(h:St W0 w K L):
 Calls Jd 97 #[Z (bb s)] w fun en w'=>∃m:Int,en=Jb (.agg #[I O 0,I O 0,U false,Z ⟨#[]⟩,U false,Z ⟨#[]⟩,Ja none 0 0,I O m,I O e])∧St W0 w' K L:=
 (zIA s hs h).mono fun en w' hh=>by unfold zUt at hh;rw[hr]at hh;exact hh
end Go.Proofs.YtenojajfacacoaaGreatDoor
