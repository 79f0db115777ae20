/- A text. -/
import Derived.Test.YtenojajfacacoaaGreatDoorGReportRawsCard7
import Derived.Test.YtenojajfacacoaaGreatDoorGReportRawsCard5
import Derived.Test.YtenojajfacacoaaGreatDoorGReportRawsCard4
import Derived.Test.YtenojajfacacoaaGreatDoorGReportRawsCard2
import Derived.Lib.Bytealg
import Derived.Lib.Builder
import Derived.Lib.UnsafeStr
import Derived.Laws.Externs
import Derived.Shelf.RegionOpenPlain
import Derived.Shelf.Strings.OnBuilder
import Derived.Shelf.Small.Strs
import Derived.Shelf.LaysM
import Derived.Shelf.Strconv.Itoa3
import Derived.Shelf.LaysC
import Derived.Shelf.Strconv.AtoiAll
import Derived.Shelf.Strings.Search3
import Derived.Shelf.Strings.Cut
import Derived.Shelf.Strings.Split
import Derived.Test.YtenojajfacacoaaGreatDoorGReportRawsCard6
import Derived.RegionTactic
import Derived.WalkMore
import Derived.Lib.AtoiErrMem
import Derived.Lib.AtoiAll
import Derived.Sort.Grow
import Derived.Deep.RegionHeld3
import Derived.Deep.DeepCutAuto
import Derived.Deep.OwnRows
import Derived.Test.YtenojajfacacoaaGreatDoorGReportRawsCard3
import Derived.Lib.Split
import Derived.Lib.SplitLaws
/- A text. -/
namespace Go.Proofs.YtenojajfacacoaaGreatDoor
open Go.RowKit
set_option maxHeartbeats 1000000
set_option maxRecDepth 100000
variable {W0 w:World}{K:Know}{L:List Res}
def preX (s:Bs):PreS×Int:=zF6 (zBx zAV s)
def zAH (s:Bs):Except Int PreS:=if s.length<61 then .error 1 else if (preX s).2=2 then(if (preX s).1.len<49 then .error 4 else if (preX s).1.count<0 then .error 10 else .ok (preX s).1)else .error 6
theorem InS.fail_stuck_Pre6{i:InS}(h:i.err≠0)(e:Int):i.fail e=i:=if_neg h
theorem InS.fail_ok0(s:Bs)(p:Nat)(e:Int):(⟨s,p,0⟩:InS).fail e=⟨s,p,e⟩:=rfl
theorem zIQ(x:PreS)(m:Int){i:InS}(h:i.err≠0):zIR x m i=i:=by
 unfold zIR;simp only[InS.fail_stuck_Pre6 h,ite_self]
theorem zJ1(s:Bs)(pos:Nat)(hp:pos+61≤s.length):(⟨s,pos,0⟩:InS).pre=match zAH (s.drop pos)with| .ok x=>(x,⟨s,pos+61,0⟩)| .error e=>(PreS.zero,⟨s,pos+61,e⟩):=by
 have h1:=zNa zAV s pos (by decide) hp;have h2:zAV.sum=61:=rfl;rw[h2]at h1;unfold InS.pre;rw[h1];unfold zAH preX;rw[if_neg (by rw[List.length_drop];omega)];obtain⟨x,m⟩:=zF6 (zBx zAV (s.drop pos));simp only[zIR]
 by_cases hm:m=2
 · rw[if_pos hm,if_pos hm]
   by_cases hl:x.len<49
   · rw[if_pos hl,if_pos hl,InS.fail_ok0,InS.fail_stuck_Pre6 (show(4:Int)≠0 by decide),ite_self,if_neg (show ¬(4:Int)=0 by decide)]
   · rw[if_neg hl,if_neg hl]
     by_cases hc:x.count<0
     · rw[if_pos hc,if_pos hc,InS.fail_ok0,if_neg (show ¬(10:Int)=0 by decide)]
     · rw[if_neg hc,if_neg hc,if_pos rfl]
 · have hs:∀e:Int,(⟨s,pos+61,6⟩:InS).fail e=⟨s,pos+61,6⟩:=fun e=>InS.fail_stuck_Pre6 (show(6:Int)≠0 by decide) e
   rw[if_neg hm,if_neg hm,InS.fail_ok0];simp only[hs,ite_self];rw[if_neg (show ¬(6:Int)=0 by decide)]
theorem zLD(s:Bs)(pos:Nat)(hp:pos≤s.length)(hs:s.length<pos+61):∃q,q≤s.length∧(⟨s,pos,0⟩:InS).pre=(PreS.zero,⟨s,q,1⟩):=by
 obtain⟨q,h1,h2⟩:=zG8 zAV s pos (by decide) hp hs;refine⟨q,h1,?_⟩;unfold InS.pre;rw[h2,zIQ _ _ (show(1:Int)≠0 by decide)];simp only;rw[if_neg (by decide)]
theorem zJV{s:Bs}(h:s.length<61):zAH s=.error 1:=if_pos h
theorem zGb:∀(l:List Nat) (s:Bs) (n:Nat),l.sum≤n→zBx l (s.take n)=zBx l s
  |[],_,_,_=>rfl
  |k::t,s,n,h=>by
    rw[List.sum_cons]at h;unfold zBx;rw[List.take_take,Nat.min_eq_left (by omega),List.drop_take,zGb t (s.drop k) (n - k) (by omega)]
theorem zBr(s:Bs)(h:61≤s.length):zAH (s.take 61)=zAH s:=by
 unfold zAH preX;rw[zGb zAV s 61 (by decide),List.length_take,Nat.min_eq_left h,if_neg (show ¬61<61 by decide),if_neg (show ¬s.length<61 by omega)]
theorem zB5(s:Bs)(h:s.length≤4): -2147483648≤sInt s∧sInt s<2147483648:=by
 rcases(by omega:s.length=0∨(1≤s.length∧s.length≤4))with h0|h0
 · have:s=[]:=List.length_eq_zero_iff.1 h0;subst this
   decide
 · have h1:=(zMx s s.length h0.1 (by omega) rfl).2.2;rw[Int.toNat_natCast]at h1
   have h2:half s.length≤2147483648:=by
    rcases(by omega:s.length=1∨s.length=2∨s.length=3∨s.length=4)with h|h|h|h<;>rw[h]<;>decide
   omega
theorem zF5(s:Bs):preX s=(⟨sInt (s.take 8),sInt ((s.drop 8).take 4),sInt ((s.drop 12).take 4),sInt ((s.drop 17).take 4) % 4294967296,sInt ((s.drop 21).take 2),sInt ((s.drop 23).take 4),sInt ((s.drop 27).take 8),sInt ((s.drop 35).take 8),sInt ((s.drop 43).take 8),sInt ((s.drop 51).take 2),sInt ((s.drop 53).take 4),sInt ((s.drop 57).take 4)⟩,sInt ((s.drop 16).take 1)):=by
 unfold preX zAV;simp only[zBx,List.drop_drop,Nat.reduceAdd]
 rfl
theorem zKY(s:Bs): -2147483648≤(preX s).1.len∧(preX s).1.len<2147483648:=by
 rw[zF5];exact zB5 _ (by rw[List.length_take];omega)
def zIU (s:Bs):Int×Int:=if s.length<61 then(0,0)else match zAH s with| .ok x=>(x.len+12,0)| .error e=>(0,e)
theorem zBF{s:Bs}{x:PreS}(h:zAH s=.ok x):61≤s.length∧(preX s).1=x∧(preX s).2=2∧49≤x.len∧0≤x.count:=by
 unfold zAH at h
 split at h
 · cases h
 split at h
 · split at h
   · cases h
   · split at h
     · cases h
     · cases h
       exact⟨by omega,rfl,by assumption,by omega,by omega⟩
 · cases h
theorem zCM{s:Bs}{e:Int}(h:zAH s=.error e):e≠0:=by
 unfold zAH at h
 split at h
 · cases h;decide
 split at h
 · split at h
   · cases h;decide
   · split at h
     · cases h;decide
     · cases h
 · cases h;decide
theorem zBs(p:Nat)(i j:InS)(x:PreS)(hx:i.pre=(x,j))(h:St W0 w K (.inp p i::L)):
  Calls Tryz.prog 188 #[zAF p] w fun en w'=>en=.returned (.agg #[.int .i64 x.base,.int .i64 x.len,.int .i64 x.leader,.int .i64 x.sum,.int .i64 x.attr,.int .i64 x.last,.int .i64 x.first,.int .i64 x.maxt,.int .i64 x.prod,.int .i64 x.epoch,.int .i64 x.seq,.int .i64 x.count])∧St W0 w' K (.inp p j::L):=by
 have:=zJ0 p i h;rw[hx]at this;exact this
theorem zEn(s:Bs)(hs:s.length<61)(h:St W0 w K L):
  Calls Tryz.prog 166 #[.string (bb s)] w fun en w'=>en=.returned (.tuple #[.int .i64 0,.int .i64 0])∧St W0 w' K L:=by
 have hd:decide ((s.length:Int)<61)=true:=decide_eq_true (by omega);have H:=hQd h;clear h hs;go_enter Tryz.func166,Tryz.ntmps166;go_wp2;go_ret2;exact⟨rfl,H.out⟩
theorem zGE(s:Bs)(x:PreS)(j:InS)(h61:61≤s.length)(hl:s.length≤140737488355328)(hp:(⟨s.take 61,0,0⟩:InS).pre=(x,j))(hj:j.err=0)(hx: -2147483648≤x.len∧x.len<2147483648)(h:St W0 w K L):
  Calls Tryz.prog 166 #[.string (bb s)] w fun en w'=>en=.returned (.tuple #[.int .i64 (x.len+12),.int .i64 0])∧St W0 w' K L:=by
 have hd:decide ((s.length:Int)<61)=false:=decide_eq_false (by omega);have H:=hQd h;have HP:=hQd hp;have HJ:=hQd hj;have HL:=hQd (show(s.take 61).length≤140737488355328 by rw[List.length_take];omega);obtain⟨b1,b2⟩:=hx;clear h hp hj hl;go_enter Tryz.func166,Tryz.ntmps166
 go_wp2_with (first
  |(go_at_call 156;refine(zDk _ HL.out H.out).mono ?_;rintro e wn ⟨bi,rfl,h⟩;replace H:=hQd h;clear h)
  |(go_at_call 188;(with_reducible refine(zBs _ _ j x HP.out H.out).mono ?_);rintro e wn ⟨rfl,h⟩;replace H:=hQd h;clear h;replace H:=hQd (H.out.allocRaw #[.int .i64 x.base,.int .i64 x.len,.int .i64 x.leader,.int .i64 x.sum,.int .i64 x.attr,.int .i64 x.last,.int .i64 x.first,.int .i64 x.maxt,.int .i64 x.prod,.int .i64 x.epoch,.int .i64 x.seq,.int .i64 x.count] 130).p1)
  |(go_at_call 168;(with_reducible refine(zGt _ _ H.out).mono ?_);(repeat first|rw[HJ.out]);rintro e wn ⟨rfl,h⟩;replace H:=hQd h;clear h;have y1:=H.out.p1.rawCell 1;simp at y1))
 go_ret2;exact⟨rfl,H.out.drop.drop⟩
theorem zF3(s:Bs)(x:PreS)(j:InS)(h61:61≤s.length)(hl:s.length≤140737488355328)(hp:(⟨s.take 61,0,0⟩:InS).pre=(x,j))(e:Int)(hj:j.err=e)(he:e≠0)(h:St W0 w K L):
  Calls Tryz.prog 166 #[.string (bb s)] w fun en w'=>en=.returned (.tuple #[.int .i64 0,.int .i64 e])∧St W0 w' K L:=by
 have hd:decide ((s.length:Int)<61)=false:=decide_eq_false (by omega);have H:=hQd h;have HP:=hQd hp;have HJ:=hQd hj;have HL:=hQd (show(s.take 61).length≤140737488355328 by rw[List.length_take];omega);have heb:(e !=0)=true:=by rw[bne_iff_ne];exact he
 clear h hp hj hl he;go_enter Tryz.func166,Tryz.ntmps166
 go_wp2_with (first
  |(go_at_call 156;refine(zDk _ HL.out H.out).mono ?_;rintro e wn ⟨bi,rfl,h⟩;replace H:=hQd h;clear h)
  |(go_at_call 188;(with_reducible refine(zBs _ _ j x HP.out H.out).mono ?_);rintro e wn ⟨rfl,h⟩;replace H:=hQd h;clear h;replace H:=hQd (H.out.allocRaw #[.int .i64 x.base,.int .i64 x.len,.int .i64 x.leader,.int .i64 x.sum,.int .i64 x.attr,.int .i64 x.last,.int .i64 x.first,.int .i64 x.maxt,.int .i64 x.prod,.int .i64 x.epoch,.int .i64 x.seq,.int .i64 x.count] 130).p1)
  |(go_at_call 168;(with_reducible refine(zGt _ _ H.out).mono ?_);(repeat first|rw[HJ.out]);rintro e wn ⟨rfl,h⟩;replace H:=hQd h;clear h;have y1:=H.out.p1.rawCell 1;simp at y1))
 go_ret2;exact⟨rfl,H.out.drop.drop⟩
theorem zBf(s:Bs)(n e:Int)(hp:zIU s=(n,e))(hl:s.length≤140737488355328)(h:St W0 w K L):
   Calls Tryz.prog 166 #[.string (bb s)] w fun en w'=>en=.returned (.tuple #[.int .i64 n,.int .i64 e])∧St W0 w' K L:=by
 unfold zIU at hp
 by_cases h1:s.length<61
 · rw[if_pos h1]at hp
   cases hp
   exact zEn s h1 h
 · rw[if_neg h1]at hp;have h61:(s.take 61).length=61:=by rw[List.length_take];omega
   have hp2:=zJ1 (s.take 61) 0 (by omega);rw[List.drop_zero,zBr s (by omega)]at hp2
   cases hr:zAH s with
   |ok x=>
    rw[hr]at hp hp2
    cases hp
    have hx:=zKY s;rw[(zBF hr).2.1]at hx;exact zGE s x _ (by omega) hl hp2 rfl hx h
   |error e'=>
    rw[hr]at hp hp2
    cases hp
    exact zF3 s _ _ (by omega) hl hp2 e rfl (zCM hr) h
def zBv (s:Bs):Except Int (BatS×Nat):=match zAH s with
  | .error e=> .error e
  | .ok x=>if s.length<61+(x.len - 49).toNat then .error 1 else match asmB x (s.take 61) ((s.drop 61).take (x.len - 49).toNat)with
    | .error e=> .error e
    | .ok b=> .ok (b,61+(x.len - 49).toNat)
theorem zAQ{s:Bs}{x:PreS}(h:zAH s=.ok x):(-2147483648≤x.len∧x.len<2147483648)∧49≤x.len∧R64 x.attr∧0≤x.count∧x.count≤2147483647∧x.first≤9223372036854775807:=by
 obtain⟨h1,h2,_,h3,h4⟩:=zBF h;have hl:=zKY s;rw[h2]at hl;rw[zF5]at h2;have h2:=h2.symm;subst h2;simp only at*;have a:=zCj ((s.drop 21).take 2) (by rw[List.length_take];omega);have b:=zCj ((s.drop 27).take 8) (by rw[List.length_take];omega);have c:=zB5 ((s.drop 57).take 4) (by rw[List.length_take];omega);exact⟨hl,h3,a,h4,by omega,by omega⟩
theorem zOn{s:Bs}{e:Int}(h:zBv s=.error e):e≠0:=by
 unfold zBv at h
 split at h
 · rename_i f hp
   cases h
   exact zCM hp
 · split at h
   · cases h;decide
   · split at h
     · rename_i f ha
       cases h
       exact zIe ha
     · cases h
theorem zE5{s:Bs}{b:BatS}{n:Nat}(h:zBv s=.ok (b,n)):∃x,zAH s=.ok x∧n=61+(x.len - 49).toNat∧n≤s.length∧asmB x (s.take 61) ((s.drop 61).take (x.len - 49).toNat)=.ok b:=by
 unfold zBv at h
 split at h
 · cases h
 · rename_i x hp
   split at h
   · cases h
   · split at h
     · cases h
     · rename_i c ha
       cases h
       exact⟨x,hp,rfl,by omega,ha⟩
theorem zJZ(o:Bs)(x:RecS)(h:zA3 x=0):(⟨o,0⟩:OutS).putRec x=⟨o++encR x,0⟩:=by
 unfold OutS.putRec;rw[if_pos h]
 rfl
theorem zHA:∀(l:List RecS),zBU l=0→∀x∈l,zA3 x=0
  |[],_,_,h=>by cases h
  |r::t,hh,x,hx=>by
    have hh:(if zA3 r=0 then zBU t else zA3 r)=0:=hh
    by_cases h1:zA3 r=0
    · rw[if_pos h1]at hh
      rcases List.mem_cons.1 hx with rfl|hx
      · exact h1
      · exact zHA t hh x hx
    · rw[if_neg h1]at hh;exact absurd hh h1
theorem zJe{l:List (RecS×Value)}(h:FitB l):(zA1 l).length≤40000000*l.length:=by
 have:∀(l:List (RecS×Value)),(∀x∈l,(encR x.1).length≤40000000)→(zA1 l).length≤40000000*l.length:=by
  intro l
  induction l with
  |nil=>intro _;simp[zA1]
  |cons x t ih=>
   intro hh;have h1:=ih (fun y hy=>hh y (by simp[hy]));have h2:=hh x (by simp);have e:zA1 (x::t)=encR x.1++zA1 t:=rfl;rw[e,List.length_append,List.length_cons]
   omega
 refine this l fun x hx=> ?_
 obtain⟨a,_,c⟩:=h x hx;have h1:=zEm x.1 a c;unfold encR encV;rw[List.length_append];have h2:(putU (zBa (BlobS.len ⟨false,recF x.1⟩))).length≤10:=zBV _ (zBZ (by simp[BlobS.len]<;>omega) (by simp[BlobS.len]<;>omega));simp only at*
 omega
theorem zIn(n:Int)(h:fits (zAG n) 4):zAG n % 4294967296=n:=by
 by_cases h0:n<0∨4294967295<n
 · exact absurd h (zDj n h0)
 · unfold zAG;rw[if_neg h0]
   split<;>omega
theorem zMY(x:PreS)(hf:FitsAll x.items):preX (zAk x.items)=(x,2):=by
 have h1:=zG9 x.items [] hf;rw[List.append_nil]at h1;have h2:x.items.map (·.2)=zAV:=rfl;rw[h2]at h1;have h3:=zIn x.sum (hf (zAG x.sum,4) (by simp[PreS.items]));unfold preX;rw[h1];simp only[PreS.items,List.map_cons,List.map_nil,zF6,h3]
theorem zA4(x:PreS):(zAk x.items).length=61:=by rw[zBG];rfl
theorem zIJ(x:PreS)(hf:FitsAll x.items)(hl:49≤x.len)(hc:0≤x.count)(t:Bs):zAH (zAk x.items++t)=.ok x:=by
 have h:=zBr (zAk x.items++t) (by rw[List.length_append,zA4];omega);rw[List.take_left' (zA4 x)]at h;rw[←h];unfold zAH;rw[zMY x hf,if_neg (by rw[zA4];omega),if_pos rfl,if_neg (by simp only;omega),if_neg (by simp only;omega)]
def BatS.rowsB (b:BatS):Bs:=b.recs.flatMap encR
def BatS.pre (b:BatS) (sum:Int):PreS:=⟨b.base,49+b.rowsB.length,b.leader,sum,zAU b.app b.txn b.ctl 3,b.last,b.first,b.maxt,b.prod,b.epoch,b.seq,b.recs.length⟩
def BatS.front (b:BatS) (sum:Int):Bs:=zAk [(b.base,8),(49+b.rowsB.length,4),(b.leader,4),(2,1),(zAG sum,4)]
def BatS.back (b:BatS):Bs:=zAk [(zAU b.app b.txn b.ctl 3,2),(b.last,4),(b.first,8),(b.maxt,8),(b.prod,8),(b.epoch,2),(b.seq,4),(b.recs.length,4)]
def BatS.crc (b:BatS):Nat:=(zAj 0#32 (b.back++b.rowsB)).toNat
def BatS.enc (b:BatS):Bs:=zAk (b.pre b.crc).items++b.rowsB
theorem BatS.pre_split(b:BatS)(s:Int):zAk (b.pre s).items=b.front s++b.back:=by
 have h:(b.pre s).items=[(b.base,8),(49+(b.rowsB.length:Int),4),(b.leader,4),(2,1),(zAG s,4)]++[(zAU b.app b.txn b.ctl 3,2),(b.last,4),(b.first,8),(b.maxt,8),(b.prod,8),(b.epoch,2),(b.seq,4),((b.recs.length:Int),4)]:=rfl;rw[h,zBl]
 rfl
theorem BatS.front_len(b:BatS)(s:Int):(b.front s).length=21:=by unfold BatS.front;rw[zBG];rfl
theorem BatS.pre_drop(b:BatS)(s:Int):(zAk (b.pre s).items).drop 21=b.back:=by rw[b.pre_split,List.drop_left' (b.front_len s)]
theorem BatS.crc_lt(b:BatS):b.crc<4294967296:=(zAj 0#32 (b.back++b.rowsB)).isLt
theorem zGg{n:Int}{k:Nat}(h1:1≤k)(h8:k≤8)(lo: -half k≤n)(hi:n<half k):fits n k:=by
 refine⟨by omega,by omega,?_,?_⟩<;>rw[Int.toNat_natCast]<;>assumption
theorem zB9{b:BatS}(h:zAC b=0):b.placed=true∧(b.ctl=true→b.txn=true)∧b.signed=true∧zBU b.recs=0:=by
 unfold zAC at h
 by_cases p1:b.placed=false
 · rw[if_pos p1]at h;cases h
 rw[if_neg p1]at h
 by_cases p2:b.ctl=true∧b.txn=false
 · rw[if_pos p2]at h;cases h
 rw[if_neg p2]at h
 by_cases p3:b.signed=false
 · rw[if_pos p3]at h;cases h
 rw[if_neg p3]at h
 by_cases p4:b.ctl=true∧b.recs.length≠1
 · rw[if_pos p4]at h;cases h
 rw[if_neg p4]at h
 by_cases p5:zBU b.recs≠0
 · rw[if_pos p5]at h;exact absurd h p5
 refine⟨by simpa using p1,fun hc=> ?_,by simpa using p3,Classical.not_not.1 p5⟩
 cases ht:b.txn with
 |true=>rfl
 |false=>exact absurd ⟨hc,ht⟩ p2
theorem zLm{b:BatS}(h:b.signed=true): -1≤b.prod∧(-1≤b.epoch∧b.epoch≤32767)∧(-1≤b.seq∧b.seq≤2147483647):=by
 unfold BatS.signed at h
 by_cases p:b.prod= -1
 · rw[if_pos p]at h;have:=of_decide_eq_true h
   omega
 rw[if_neg p]at h
 by_cases q:b.prod<0∨¬(0≤b.epoch∧b.epoch≤32767)
 · rw[if_pos q]at h;cases h
 rw[if_neg q]at h
 cases hc:b.ctl with
 |true=>
   rw[hc]at h;have h:decide (b.seq= -1)=true:=h;have:=of_decide_eq_true h
   omega
 |false=>
   rw[hc]at h;have h:decide (0≤b.seq∧b.seq≤2147483647)=true:=h;have:=of_decide_eq_true h
   omega
theorem zED(a t c:Bool):(0≤zAU a t c 3∧zAU a t c 3≤63)∧zAf (zAU a t c 3) 3=a∧zAf (zAU a t c 3) 4=t∧zAf (zAU a t c 3) 5=c∧((c=true→t=true)→chk (zAU a t c 3)=0):=by
 cases a<;>cases t<;>cases c<;>decide
theorem zq15{p:Prop}(h:p:=by exact zGg (by simp only;decide) (by simp only;decide) (by rw[h4];simp only;omega) (by rw[h4];simp only;omega)):p:=h
theorem zq19{p:Prop}(h:p:=by exact zGg (by simp only;decide) (by simp only;decide) (by rw[h8];simp only;omega) (by rw[h8];simp only;omega)):p:=h
theorem BatS.fitsAll{b:BatS}(h:zAC b=0)(hR:b.R)(s:Int)(hs:0≤s∧s≤4294967295)(hz:b.rowsB.length≤1000000)(hn:b.recs.length≤1000000):FitsAll (b.pre s).items:=by
 obtain⟨p1,p2,p3,p4⟩:=zB9 h;have q1:=of_decide_eq_true p1;obtain⟨q2,q3,q4⟩:=zLm p3;obtain⟨r1,r2,r3,r4,r5,r6,r7,r8⟩:=hR;unfold Rn at r1 r2 r3 r4 r5 r6 r7 r8;have qa:=(zED b.app b.txn b.ctl).1;have h8:half 8=9223372036854775808:=by decide
 have h4:half 4=2147483648:=by decide
 have h2:half 2=32768:=by decide
 have h1:half 1=128:=by decide
 intro x hx;simp only[PreS.items,BatS.pre,List.mem_cons,List.not_mem_nil,or_false]at hx
 rcases hx with rfl|rfl|rfl|rfl|rfl|rfl|rfl|rfl|rfl|rfl|rfl|rfl|rfl
 · exact zq19
 · exact zq15
 · exact zq15
 · exact zGg (by simp only;decide) (by simp only;decide) (by rw[h1];simp only;omega) (by rw[h1];simp only;omega)
 · exact zEE s (by omega) (by omega)
 · exact zGg (by simp only;decide) (by simp only;decide) (by rw[h2];simp only;omega) (by rw[h2];simp only;omega)
 · exact zq15
 · exact zq19
 · exact zq19
 · exact zq19
 · exact zGg (by simp only;decide) (by simp only;decide) (by rw[h2];simp only;omega) (by rw[h2];simp only;omega)
 · exact zq15
 · exact zq15
theorem BatS.pre_R{b:BatS}(h:zAC b=0)(hR:b.R)(s:Int)(hs:0≤s∧s≤4294967295)(hz:b.rowsB.length≤1000000)(hn:b.recs.length≤1000000):(b.pre s).R:=by
 have qa:=(zED b.app b.txn b.ctl).1;obtain⟨r1,r2,r3,r4,r5,r6,r7,r8⟩:=hR;unfold Rn at r1 r2 r3 r4 r5 r6 r7 r8;intro n hn;simp only[PreS.list,BatS.pre,List.mem_cons,List.not_mem_nil,or_false]at hn
 rcases hn with rfl|rfl|rfl|rfl|rfl|rfl|rfl|rfl|rfl|rfl|rfl|rfl<;>omega
theorem zKG:∀(rs:List RecS) (rows:Bs) (pos:Nat),pos≤rows.length→rows.drop pos=rs.flatMap encR→(∀x∈rs,x.R∧zA3 x=0∧x.sum≤1000000)→unp rs.length ⟨rows,pos,0⟩=.ok rs
  |[],rows,pos,hp,hd,_=>by
    have hz:rows.length - pos=0:=by rw[←List.length_drop,hd];rfl
    show(if (⟨rows,pos,0⟩:InS).left=0 then Except.ok []else Except.error (10:Int))=Except.ok []
    rw[if_pos (by simp only[InS.left];exact hz)]
  |x::t,rows,pos,hp,hd,hx=>by
    obtain⟨hR,ho,hs⟩:=hx x (by simp);rw[List.flatMap_cons]at hd;have hr:=zLy x hR ho hs (t.flatMap encR);rw[←hd]at hr;obtain⟨hpm,hf⟩:=zCN.ok rows pos x _ hp hr;have hpos:=(zCl hr).2.2.2.2.1
    show(if (⟨rows,pos,0⟩:InS).left=0 then Except.error (10:Int)else if (⟨rows,pos,0⟩:InS).record.2.err=0 then zDt (⟨rows,pos,0⟩:InS).record.1 (unp t.length (⟨rows,pos,0⟩:InS).record.2)else Except.error (⟨rows,pos,0⟩:InS).record.2.err)=Except.ok (x::t)
    rw[if_neg (by simp only[InS.left];omega),hf];simp only[if_true];rw[zKG t rows _ hpm (by rw[←List.drop_drop,hd,List.drop_left]) (fun y hy=>hx y (by simp[hy]))]
    rfl
theorem zNV{b:BatS}(h:zAC b=0)(hf:∀x∈b.recs,x.R∧zA3 x=0∧x.sum≤1000000):asmB (b.pre b.crc) (zAk (b.pre b.crc).items) b.rowsB=.ok b:=by
 obtain⟨_,p2,_,_⟩:=zB9 h;obtain⟨_,a3,a4,a5,a6⟩:=zED b.app b.txn b.ctl;have hu:=zKG b.recs b.rowsB 0 (Nat.zero_le _) rfl hf;unfold asmB;rw[b.pre_drop];have e1:((zAj 0#32 (b.back++b.rowsB)).toNat:Int)=(b.pre b.crc).sum:=rfl;have e2:(b.pre b.crc).attr=zAU b.app b.txn b.ctl 3:=rfl;have e3:(b.pre b.crc).count.toNat=b.recs.length:=rfl;rw[if_neg (fun hh=>hh e1),e2,if_neg (fun hh=>hh (a6 p2)),e3,hu];simp only[a3,a4,a5];obtain⟨base,leader,app,txn,ctl,last,first,maxt,prod,epoch,sq,rs⟩:=b;exact if_pos h
theorem zLA{b:BatS}(h:zAC b=0)(hR:b.R)(hf:∀x∈b.recs,x.R∧zA3 x=0∧x.sum≤1000000)(hz:b.rowsB.length≤1000000)(hn:b.recs.length≤1000000)(t:Bs):zBv (b.enc++t)=.ok (b,b.enc.length):=by
 have hc:=b.crc_lt;have hfa:=BatS.fitsAll h hR b.crc (by omega) hz hn;have hp:=zIJ (b.pre b.crc) hfa (show(49:Int)≤49+(b.rowsB.length:Int) by omega) (show(0:Int)≤(b.recs.length:Int) by omega) (b.rowsB++t);rw[←List.append_assoc]at hp;have hle:b.enc.length=61+b.rowsB.length:=by unfold BatS.enc;rw[List.length_append,zA4]
 have hl:((b.pre b.crc).len - 49).toNat=b.rowsB.length:=by show((49+(b.rowsB.length:Int)) - 49).toNat=_;omega
 unfold zBv;have hp2:zAH (b.enc++t)=.ok (b.pre b.crc):=hp;rw[hp2];simp only;rw[hl,if_neg (by rw[List.length_append,hle];omega)]
 have t1:(b.enc++t).take 61=zAk (b.pre b.crc).items:=by
  unfold BatS.enc;rw[List.append_assoc,List.take_left' (zA4 _)]
 have t2:((b.enc++t).drop 61).take b.rowsB.length=b.rowsB:=by
  unfold BatS.enc;rw[List.append_assoc,List.drop_left' (zA4 _),List.take_left]
 rw[t1,t2,zNV h hf];simp only;rw[hle]
def hexD (n:Nat):UInt8:=if n<10 then UInt8.ofNat (48+n)else UInt8.ofNat (87+n)
def hexL (s:Bs):Bs:=s.flatMap fun x=>[hexD (x.toNat / 16),hexD (x.toNat % 16)]
def hexW (s:Bs):Bs:=if s=[]then[45]else hexL s
def digB:Bs:=[48,49,50,51,52,53,54,55,56,57,97,98,99,100,101,102]
theorem zNh(s:Bs)(k:Nat)(hk:k<s.length)(x:UInt8)(hx:s[k]=x):hexL (s.take k)++[hexD (x.toNat / 16)]++[hexD (x.toNat % 16)]=hexL (s.take (k+1)):=by
 unfold hexL;rw[List.take_succ_eq_append_getElem hk,hx,List.flatMap_append]
 simp
theorem zFb(s:Bs):(hexL s).length=2*s.length:=by
 unfold hexL
 induction s with
 |nil=>rfl
 |cons a t ih=>rw[List.flatMap_cons,List.length_append,ih];simp;omega
def digI (c:UInt8):Int:=Lib.indexByte digB c
theorem zOR:∀n:Fin 256,(digI (UInt8.ofNat n.1)= -1)∨(0≤digI (UInt8.ofNat n.1)∧digI (UInt8.ofNat n.1)<16∧hexD (digI (UInt8.ofNat n.1)).toNat=UInt8.ofNat n.1):=by decide+kernel
theorem zC9(c:UInt8):digI c= -1∨(0≤digI c∧digI c<16∧hexD (digI c).toNat=c):=by
 have h:=zOR ⟨c.toNat,c.toNat_lt⟩
 simpa using h
theorem zJh:∀n:Fin 16,digI (hexD n.1)=n.1:=by decide+kernel
def zBM:Bs→Option Bs
  |[]=>some []
  |[_]=>none
  |a::b::t=>if digI a= -1∨digI b= -1 then none else(zBM t).map (UInt8.ofNat (digI a*16+digI b).toNat:: ·)
def zI4 (w:Bs):Option Bs:=if w=[45]then some []else if w=[]then none else zBM w
theorem zI5:∀w:Bs,w.length % 2≠0→zBM w=none
  |[],h=>absurd rfl h
  |[_],_=>rfl
  |a::b::t,h=>by
    unfold zBM
    by_cases hd:digI a= -1∨digI b= -1
    · rw[if_pos hd]
    · rw[if_neg hd,zI5 t (by simp only[List.length_cons]at h;omega)]
      rfl
theorem zHa:∀s:Bs,zBM (hexL s)=some s
  |[]=>rfl
  |x::t=>by
    have h1:=zJh ⟨x.toNat / 16,by have:=x.toNat_lt;omega⟩;have h2:=zJh ⟨x.toNat % 16,by omega⟩;simp only at h1 h2;have e:hexL (x::t)=hexD (x.toNat / 16)::hexD (x.toNat % 16)::hexL t:=rfl;rw[e];unfold zBM;rw[h1,h2,if_neg (by omega),zHa t];have h3:((((x.toNat / 16:Nat):Int)*16+((x.toNat % 16:Nat):Int)).toNat)=x.toNat:=by omega
    simp only[Option.map_some];rw[h3,UInt8.ofNat_toNat]
theorem zGe:∀(w c:Bs),zBM w=some c→hexL c=w
  |[],c,h=>by unfold zBM at h;injection h with h;subst h;rfl
  |[_],c,h=>by unfold zBM at h;cases h
  |a::b::t,c,h=>by
    unfold zBM at h
    by_cases hd:digI a= -1∨digI b= -1
    · rw[if_pos hd]at h;cases h
    · rw[if_neg hd]at h
      cases ht:zBM t with
      |none=>rw[ht]at h;cases h
      |some d=>
        rw[ht]at h;injection h with h;subst h;have ih:=zGe t d ht
        rcases zC9 a with ha|⟨a1,a2,a3⟩
        · exact absurd (.inl ha) hd
        rcases zC9 b with hb|⟨b1,b2,b3⟩
        · exact absurd (.inr hb) hd
        have e:∀x:UInt8,hexL (x::d)=hexD (x.toNat / 16)::hexD (x.toNat % 16)::hexL d:=fun _=>rfl
        rw[e,ih];have h3:(UInt8.ofNat (digI a*16+digI b).toNat).toNat=(digI a*16+digI b).toNat:=by rw[UInt8.toNat_ofNat'];omega
        rw[h3,show(digI a*16+digI b).toNat / 16=(digI a).toNat by omega,show(digI a*16+digI b).toNat % 16=(digI b).toNat by omega,a3,b3]
theorem zLN(s:Bs):zI4 (hexW s)=some s:=by
 unfold zI4 hexW
 by_cases h:s=[]
 · subst h;rfl
 · rw[if_neg h];have h2:=zFb s;have h3:0<s.length:=List.length_pos_iff.2 h;rw[if_neg (fun e=>by rw[e]at h2;simp at h2;omega),if_neg (fun e=>by rw[e]at h2;simp at h2;omega),zHa]
theorem zNf{s c:Bs}(h:zI4 s=some c):hexW c=s:=by
 unfold zI4 at h
 by_cases h1:s=[45]
 · rw[if_pos h1]at h;injection h with h;subst h h1;rfl
 · rw[if_neg h1]at h
   by_cases h2:s=[]
   · rw[if_pos h2]at h;cases h
   · rw[if_neg h2]at h;have h3:=zGe s c h;unfold hexW;rw[if_neg (fun e=>by subst e;exact h2 h3.symm),h3]
theorem zLO(w d:Bs)(j:Nat)(hj:j+1<w.length)(h:zBM w=(zBM (w.drop j)).map (d++ ·))(ha:digI w[j]≠ -1)(hb:digI w[j+1]≠ -1):zBM w=(zBM (w.drop (j+2))).map ((d++[UInt8.ofNat (digI w[j]*16+digI w[j+1]).toNat])++ ·):=by
 rw[h,List.drop_eq_getElem_cons (by omega:j<w.length),List.drop_eq_getElem_cons hj]
 conv=>lhs;arg 2;unfold zBM
 rw[if_neg (by intro h;rcases h with h|h;exact ha h;exact hb h)]
 cases zBM (w.drop (j+1+1))with
 |none=>rfl
 |some t=>simp
theorem zNg(w d:Bs)(j:Nat)(hj:j+1<w.length)(h:zBM w=(zBM (w.drop j)).map (d++ ·))(hb:digI w[j]= -1∨digI w[j+1]= -1):zBM w=none:=by
 rw[h,List.drop_eq_getElem_cons (by omega:j<w.length),List.drop_eq_getElem_cons hj]
 conv=>lhs;arg 2;unfold zBM
 rw[if_pos hb]
 rfl
set_option maxHeartbeats 4000000
variable {W0 w:World}{K:Know}{L:List Res}
theorem zPl:(Tryz.prog.info? 80).map (·.size)=some 2:=by kernel_rfl
theorem zPm:liesAt Tryz.prog Tryz.prog.depth 80 (2 / Tryz.prog.cellsOf 80) 0 80 1=true:=by kernel_rfl
structure SbAt (w:World) (b:Nat) (p v:Value) (l:Bs):Prop where
  ptr:p=.pointer none∨p=.pointer (some ⟨b,0,none⟩)
  blk:w.heap[b]? =some (.cells #[p,v] 80 (0,0))
  row:w.ownsRow 0 5 1 v l.length (Lib.byteCells l)
  ne:v.ownBlock≠some b
def sbG (b:Nat) (l:Bs):Gen where
  p w S:=∃p v,SbAt w b p v l∧∀k,S k↔k=b∨v.ownBlock=some k
  keep w w' S h hs hk:=by
    obtain⟨p,v,⟨h1,h2,h3,h4⟩,h5⟩:=h;refine⟨p,v,⟨h1,(hk b (zA6 h2) ((h5 b).2 (.inl rfl))).trans h2,?_,h4⟩,h5⟩;exact(Res.keep (r:=.row v 5 1 l.length (Lib.byteCells l)) (w:=w) (w':=w') (S:=fun k=>v.ownBlock=some k) ⟨h3,fun k=>Iff.rfl⟩ hs (fun k hl hx=>hk k hl ((h5 k).2 (.inr hx)))).1
theorem St.sbOpen{b:Nat}{l:Bs}(h:St W0 w K (.gen (sbG b l)::L)):∃p v,(p=.pointer none∨p=.pointer (some ⟨b,0,none⟩))∧St W0 w K (.raw b #[p,v] 80::.row v 5 1 l.length (Lib.byteCells l)::L):=by
 obtain⟨a,S,F,⟨S1,S2,⟨p,v,⟨h1,h2,h3,h4⟩,h5⟩,hL,hd,he⟩,c⟩:=h;refine⟨p,v,h1,a,S,F,⟨fun k=>k=b,fun k=>v.ownBlock=some k∨S2 k,⟨h2,fun _=>Iff.rfl⟩,⟨fun k=>v.ownBlock=some k,S2,⟨h3,fun _=>Iff.rfl⟩,hL,fun k hk=>hd k ((h5 k).2 (.inr hk)),fun _=>Iff.rfl⟩,?_,fun k=> ?_⟩,c⟩
 · rintro k rfl (hk|hk)
   · exact h4 hk
   · exact hd k ((h5 k).2 (.inl rfl)) hk
 · rw[he,h5,or_assoc]
theorem St.sbShut{b:Nat}{p v:Value}{l:Bs}{n:Nat}{cs:List Value}(hp:p=.pointer none∨p=.pointer (some ⟨b,0,none⟩))(hn:n=l.length)(hc:cs=Lib.byteCells l)(h:St W0 w K (.raw b #[p,v] 80::.row v 5 1 n cs::L)):St W0 w K (.gen (sbG b l)::L):=by
 subst hn hc;obtain⟨a,S,F,⟨S1,S2,⟨h2,e1⟩,⟨S3,S4,⟨h3,e3⟩,hL,d2,e2⟩,d1,e⟩,c⟩:=h;refine⟨a,S,F,⟨fun k=>S1 k∨S3 k,S4,⟨p,v,⟨hp,h2,h3,fun h=>d1 b ((e1 b).2 rfl) ((e2 b).2 (.inl ((e3 b).2 h)))⟩,fun k=>by show S1 k∨S3 k↔_;rw[e1,e3]⟩,hL,?_,fun k=> ?_⟩,c⟩
 · rintro k (hk|hk) h4
   · exact d1 k hk ((e2 k).2 (.inr h4))
   · exact d2 k hk h4
 · rw[e,e2,or_assoc]
theorem St.sbNew(h:St W0 w K L):St W0 (w.alloc (.cells #[.pointer none,.slice none 0 0] 80 (0,0))) K (.gen (sbG w.heap.size [])::L):=
 St.sbShut (.inl rfl) rfl rfl (((h.allocRaw #[.pointer none,.slice none 0 0] 80).nilRow 5 1).p1)
theorem zKO(b:Nat)(p v:Value)(hp:p=.pointer none∨p=.pointer (some ⟨b,0,none⟩))(h:St W0 w K (.raw b #[p,v] 80::L)):
   Calls Tryz.prog 84 #[.pointer (some ⟨b,0,none⟩)] w fun en w'=>en=.returned (.tuple #[])∧St W0 w' K (.raw b #[.pointer (some ⟨b,0,none⟩),v] 80::L):=by
 obtain⟨j,hj,hjs⟩:=Option.map_eq_some_iff.1 zPl
 rcases hp with rfl|rfl
 · have hsh:w.shape? b=some (80,2):=by have h9:=h.rawGet;simp[World.shape?,h9]
   have c0:=(h).rawCell 0;have c1:=(h).rawCell 1;simp at c0 c1;have r0:=(h).rawFree 0;have r1:=(h).rawFree 1;have H:=hQd h;clear h;go_enter Tryz.func84,Tryz.ntmps84;go_wp2;rw[Lib.run_to_unsafe w ⟨b,0,none⟩ Tryz.underlying78 Tryz.underlying167 hj (by rw[hjs];decide) hsh (Nat.zero_lt_succ 1)];simp only[Result.andThen];rw[Oper.upon_value];go_wp2;rw[run_callFunc_extern Tryz.func118 (by kernel_rfl) (by kernel_rfl) (by kernel_rfl) (e:=Extern.AbiNoEscape.same) (by kernel_rfl)];rw[Lib.run_noEscape];simp only[Result.andThen];rw[Oper.upon_value];go_wp2;rw[Lib.run_from_unsafe w ⟨b,0,none⟩ Tryz.underlying167 Tryz.underlying78 hj hsh zPm];simp only[Result.andThen];rw[Oper.upon_value];go_wp2;go_end0;exact⟨rfl,H.out.rawSet 0 _⟩
 · have c0:=(h).rawCell 0;have c1:=(h).rawCell 1;simp at c0 c1;have r0:=(h).rawFree 0;have r1:=(h).rawFree 1;have H:=hQd h;clear h;go_enter Tryz.func84,Tryz.ntmps84;go_wp2;rw[Lib.run_neq_ptr_same w _ Tryz.underlying78 hj];go_wp2;go_end0;exact⟨rfl,H.out⟩
theorem zGI(l:Bs)(x:UInt8):Lib.byteCells l++[.int .u8 x.toNat]=Lib.byteCells (l++[x]):=by simp[Lib.byteCells]
theorem zH7(l:Bs)(s:Bs):Lib.byteCells l++Lib.strCells (bb s)=Lib.byteCells (l++s):=by simp[Lib.byteCells,Lib.strCells]
theorem zJE{ops:Array Oper}{rest:List Oper}{o:Oper}{a:Act}{Q:Exit→Act→World→Prop}(hgd:o.guard=none)(sl x:Operand)(t u:TypeId)
    (ho:o.op=.call {callee:=.builtin .append,args:= #[sl,x],argTypes:= #[t,u]})(ht:Tryz.prog.underlying t=some (.slice 5))(hu:Tryz.prog.underlying u=some .string)
    (v:Value)(n:Nat)(xs:List Value)(hs:a.eval sl=v)(hst:St W0 w K (.row v 5 1 n xs::L))(s:ByteArray)(hx:a.eval x=.string s)(hbytes:n+s.size≤140737488355328)
    (h:∀v' w',St W0 w' K (.row v' 5 1 (n+s.size) (xs++Lib.strCells s)::L)→wpList Tryz.prog ops Q rest (a.put o.dst v') w'):wpList Tryz.prog ops Q (o::rest) a w:=by
  obtain⟨⟨i,g1,g2,g3,g4⟩,g5,g6⟩:=zHW;exact zDh hgd sl x t u ho 5 i ht hu g1 g2 g3 g4 v n xs hs hst.rowGet s hx hbytes fun v' w' k1 k2 k3=>h v' w' (hst.rowGrown k1 k2 k3)
theorem zPn(b:Nat)(l:Bs)(x:UInt8)(hl:l.length≤1000000000000)(h:St W0 w K (.gen (sbG b l)::L)):
  Calls Tryz.prog 46 #[.pointer (some ⟨b,0,none⟩),.int .u8 x.toNat] w fun en w'=>en=.returned .nilIface∧St W0 w' K (.gen (sbG b (l++[x]))::L):=by
 obtain⟨p,v,hp,h⟩:=h.sbOpen;obtain⟨qv,cv,hv⟩:=h.p1.rowAny;subst hv;have c0:=(h).rawCell 0;have c1:=(h).rawCell 1;simp at c0 c1;have r0:=(h).rawFree 0;have r1:=(h).rawFree 1;have H:=hQd h;have HP:=hQd hp;have HL:=hQd hl;clear h hp hl;go_enter Tryz.func46,Tryz.ntmps46
 go_wp2_with (first
  |(go_at_call 84;(try clear c0 c1 r0 r1);(with_reducible refine(zKO b p _ HP.out H.out).mono ?_);rintro e_ wn ⟨rfl,h⟩;have c0:=(h).rawCell 0;have c1:=(h).rawCell 1;simp at c0 c1;have r0:=(h).rawFree 0;have r1:=(h).rawFree 1;have h:=h.p1;replace H:=hQd h;clear h)
  |(at_builtin;refine zAA rfl _ _ 57 rfl 5 Tryz.underlying57 zHW _ _ _ rfl H.out [.int .u8 x.toNat] 5 (by first|rfl|(rw[World.size_alloc];rfl)) rfl (by simp[Value.oneCell'];done) (by have:=HL.out;unfold maxLen;omega) (by have:=HL.out;omega) ?_;intro v' w' h;obtain⟨qw,cw,hw⟩:=h.rowAny;subst hw;have h:=h.p1;have c0:=(h).rawCell 0;have c1:=(h).rawCell 1;simp at c0 c1;have r0:=(h).rawFree 0;have r1:=(h).rawFree 1;replace H:=hQd h;clear h))
 go_ret;exact⟨rfl,St.sbShut (.inr rfl) (by simp) (zGI l x) (H.out.rawSet 1 _)⟩
theorem zMt(b:Nat)(l s:Bs)(hl:l.length+s.length≤1000000000000)(h:St W0 w K (.gen (sbG b l)::L)):
  Calls Tryz.prog 76 #[.pointer (some ⟨b,0,none⟩),.string (bb s)] w fun en w'=>en=.returned (.tuple #[.int .i64 s.length,.nilIface])∧St W0 w' K (.gen (sbG b (l++s))::L):=by
 obtain⟨p,v,hp,h⟩:=h.sbOpen;obtain⟨qv,cv,hv⟩:=h.p1.rowAny;subst hv;have c0:=(h).rawCell 0;have c1:=(h).rawCell 1;simp at c0 c1;have r0:=(h).rawFree 0;have r1:=(h).rawFree 1;have H:=hQd h;have HP:=hQd hp;have HL:=hQd hl;clear h hp hl;go_enter Tryz.func76,Tryz.ntmps76
 go_wp2_with (first
  |(go_at_call 84;(try clear c0 c1 r0 r1);(with_reducible refine(zKO b p _ HP.out H.out).mono ?_);rintro e_ wn ⟨rfl,h⟩;have c0:=(h).rawCell 0;have c1:=(h).rawCell 1;simp at c0 c1;have r0:=(h).rawFree 0;have r1:=(h).rawFree 1;have h:=h.p1;replace H:=hQd h;clear h)
  |(at_builtin;refine zJE rfl _ _ 57 9 rfl Tryz.underlying57 Tryz.underlying9 _ _ _ rfl H.out (bb s) rfl (by have h8:=HL.out;have h9:(bb s).size=s.length:=(by simp);omega) ?_;intro v' w' h;obtain⟨qw,cw,hw⟩:=h.rowAny;subst hw;have h:=h.p1;have c0:=(h).rawCell 0;have c1:=(h).rawCell 1;simp at c0 c1;have r0:=(h).rawFree 0;have r1:=(h).rawFree 1;replace H:=hQd h;clear h))
 go_ret2;exact⟨by simp,St.sbShut (.inr rfl) (by simp) (zH7 l s) (H.out.rawSet 1 _)⟩
theorem zI2(w:World)(g n:Nat):Keeps (· =g) w (w.freeze ⟨g,0,none⟩ n):=by
 unfold World.freeze
 split
 · exact Keeps.refl _ _
 · refine⟨rfl,rfl,rfl,by simp,fun k hk hne=> ?_⟩;simp only[Array.getElem?_modify];rw[if_neg (fun e=>hne e.symm)]
theorem St.gone{w':World}{r:Res}(h:St W0 w K (r::L))(hr:∀S1,r.holds w S1→Keeps S1 w w'):St W0 w' K L:=
 St.drop (r:=.gen ⟨fun _ S=>∀k,¬S k,fun _ _ _ h _ _=>h⟩) (h.step fun S1 h1=>⟨fun _=>False,fun _ h=>h,hr S1 h1,fun _ h=>h.elim⟩)
theorem zMs(b:Nat)(l:Bs)(h0:l≠[])(h:St W0 w K (.gen (sbG b l)::L)):
  Calls Tryz.prog 47 #[.pointer (some ⟨b,0,none⟩)] w fun en w'=>en=.returned (.string (bb l))∧St W0 w' K L:=by
 obtain⟨p,v,hp,h⟩:=h.sbOpen;have hl:0<l.length:=List.length_pos_iff.2 h0;obtain⟨g,cap,hv⟩:=h.p1.rowSlice hl;subst hv;have h1:=h.drew;have c0:=(h1).rawCell 0;have c1:=(h1).rawCell 1;simp at c0 c1
 obtain⟨hlc,hcap,cur,hg⟩:l.length≤cap∧cap≤maxLen∧∃cur,w.heap[g]? =some (.cells cur 5 (0,0))∧cur.size=cap:=by
  rcases h.p1.rowGet.2 with ⟨h2,_⟩|⟨g2,cap2,cur,h2,_,h3,h4,h5,h6,_⟩
  · cases h2
  · injection h2 with e1 e2 e3;injection e1 with e1;injection e1 with e1;subst e1 e3;exact⟨h4,h5,cur,h3,by omega⟩
 have hSD:(Builtin.unsafeSliceData_ #[57] 127 #[.slice (some ⟨g,0,none⟩) l.length cap]).run Tryz.prog w.drew=.ok (.pointer (some ⟨g,0,none⟩)) w.drew:=
  Lib.run_unsafeSliceData_row _ _ _ _ _ _ (by omega)
 have hUS:(Builtin.unsafeString_ #[127,3] 9 #[.pointer (some ⟨g,0,none⟩),.int .i64 l.length]).run Tryz.prog w.drew=.ok (.string (bb l)) (w.drew.freeze ⟨g,0,none⟩ l.length):=by
  refine Lib.run_unsafeString_row w.drew 127 3 9 5 Tryz.underlying127 (by kernel_rfl) g cur.size (by have hg':w.drew.heap[g]? =some (.cells cur 5 (0,0)):=hg.1;simp[World.shape?,hg']) l h0 (by omega) (by unfold maxLen at hcap;omega) ?_;intro j x hx;exact h1.p1.rowGet.cells (g:=g) rfl j (.int .u8 x.toNat) (by simp[Lib.byteCells,hx])
 have hz:St W0 (w.drew.freeze ⟨g,0,none⟩ l.length) K L:=(h1.p1.gone fun S1 hr=>(zI2 _ g _).mono (fun k _ hk=>by rw[hk];exact(hr.2 g).2 rfl)).drop;have H:=hQd hz;clear h h1 hz hp hg;go_enter Tryz.func47,Tryz.ntmps47;go_wp2
 go_region
 go_wp2;go_ret;exact⟨rfl,H.out⟩
end Go.Proofs.YtenojajfacacoaaGreatDoor
namespace Go.Proofs
open Go.Shelf
def Tryz.lays156_ren:Go.Shelf.Ren:=⟨fun|156=>73|165=>103|166=>76|169=>47|240=>84|241=>132|276=>118|277=>160|n=>n,fun|31=>69|9=>9|3=>3|4=>4|0=>0|20=>20|72=>80|76=>115|70=>78|37=>57|75=>83|127=>127|164=>167|5=>5|80=>86|n=>n,fun|n=>n⟩
theorem Tryz.lays156:Go.Proofs.Lays.n156 Tryz.prog Tryz.lays156_ren:={
  mixed:=by kernel_rfl
  f156:=Tryz.func73.trans (congrArg some (by kernel_rfl))
  f165:=Tryz.func103.trans (congrArg some (by kernel_rfl))
  f166:=Tryz.func76.trans (congrArg some (by kernel_rfl))
  f169:=Tryz.func47.trans (congrArg some (by kernel_rfl))
  f240:=Tryz.func84.trans (congrArg some (by kernel_rfl))
  f241:=Tryz.func132.trans (congrArg some (by kernel_rfl))
  f276:=Tryz.func118.trans (congrArg some (by kernel_rfl))
  f277:=Tryz.func160.trans (congrArg some (by kernel_rfl))
  t0:=Tryz.underlying0
  a0:=Tryz.isAgg0
  z0:=Tryz.sizeOf0
  v0:=Tryz.zeroValue0
  t3:=Tryz.underlying3
  a3:=Tryz.isAgg3
  z3:=Tryz.sizeOf3
  v3:=Tryz.zeroValue3
  t4:=Tryz.underlying4
  a4:=Tryz.isAgg4
  z4:=Tryz.sizeOf4
  v4:=Tryz.zeroValue4
  t9:=Tryz.underlying9
  a9:=Tryz.isAgg9
  z9:=Tryz.sizeOf9
  v9:=Tryz.zeroValue9
  t20:=Tryz.underlying20
  a20:=Tryz.isAgg20
  z20:=Tryz.sizeOf20
  v20:=Tryz.zeroValue20
  t31:=Tryz.underlying69
  a31:=Tryz.isAgg69
  z31:=Tryz.sizeOf69
  v31:=Tryz.zeroValue69
  t37:=Tryz.underlying57
  a37:=Tryz.isAgg57
  z37:=Tryz.sizeOf57
  v37:=Tryz.zeroValue57
  t70:=Tryz.underlying78
  a70:=Tryz.isAgg78
  z70:=Tryz.sizeOf78
  v70:=Tryz.zeroValue78
  t72:=Tryz.underlying80
  a72:=Tryz.isAgg80
  z72:=Tryz.sizeOf80
  v72:=Tryz.zeroValue80
  t75:=Tryz.underlying83
  a75:=Tryz.isAgg83
  z75:=Tryz.sizeOf83
  v75:=Tryz.zeroValue83
  t76:=Tryz.underlying115
  a76:=Tryz.isAgg115
  z76:=Tryz.sizeOf115
  v76:=Tryz.zeroValue115
  t127:=Tryz.underlying127
  a127:=Tryz.isAgg127
  z127:=Tryz.sizeOf127
  v127:=Tryz.zeroValue127
  t164:=Tryz.underlying167
  a164:=Tryz.isAgg167
  z164:=Tryz.sizeOf167
  v164:=Tryz.zeroValue167}
theorem Tryz.Builder_Extra_156:Builder.Extra Tryz.prog Tryz.lays156_ren:={
  sizeBuilder:=by kernel_rfl
  liesBuilder:=by kernel_rfl
  t5:=Tryz.underlying5
  a5:=Tryz.isAgg5
  z5:=Tryz.sizeOf5
  v5:=Tryz.zeroValue5
  infoByte:=by kernel_rfl
  cellsByte:=by kernel_rfl
  sizeByte:=by kernel_rfl
  neB5:=by decide}
open Go.RowKit in
theorem Tryz.strings_Join_none(a:Option Addr)(c:Nat)(sep:ByteArray)(w:World):
 Calls Tryz.prog 73 #[.slice a 0 c,.string sep] w fun e w'=>e=.returned (.string ⟨#[]⟩)∧w'=w:=Any.strings_Join_none Tryz.lays156 Tryz.Builder_Extra_156 a c sep w
open Go.RowKit in
theorem Tryz.strings_Join(bk o c:Nat)(xs:List ByteArray)(sep:ByteArray)(w:World)(hcells:∀(j:Nat) x,xs[j]? =some x→w.cell? ⟨bk,o+j,none⟩=some (.string x))(hbk:bk<w.heap.size)(hN:xs.length≤140737488355328)(hcap:xs.length≤c)(hlen:(Lib.join (xs.map (·.data.toList)) sep.data.toList).length≤140737488355328):
 Calls Tryz.prog 73 #[.slice (some ⟨bk,o,none⟩) xs.length c,.string sep] w fun e w'=>e=.returned (.string ⟨(Lib.join (xs.map (·.data.toList)) sep.data.toList).toArray⟩)∧Below w.heap.size w w':=Any.strings_Join Tryz.lays156 Tryz.Builder_Extra_156 bk o c xs sep w hcells hbk hN hcap hlen
def Tryz.lays137_ren:Go.Shelf.Ren:=⟨fun|137=>45|217=>83|266=>117|n=>n,fun|9=>9|5=>5|3=>3|n=>n,fun|n=>n⟩
theorem Tryz.lays137:Go.Proofs.Lays.n137 Tryz.prog Tryz.lays137_ren:={
  mixed:=by kernel_rfl
  f137:=Tryz.func45.trans (congrArg some (by kernel_rfl))
  f217:=Tryz.func83.trans (congrArg some (by kernel_rfl))
  f266:=Tryz.func117.trans (congrArg some (by kernel_rfl))
  t3:=Tryz.underlying3
  a3:=Tryz.isAgg3
  z3:=Tryz.sizeOf3
  v3:=Tryz.zeroValue3
  t5:=Tryz.underlying5
  a5:=Tryz.isAgg5
  z5:=Tryz.sizeOf5
  v5:=Tryz.zeroValue5
  t9:=Tryz.underlying9
  a9:=Tryz.isAgg9
  z9:=Tryz.sizeOf9
  v9:=Tryz.zeroValue9}
open Go.RowKit in
theorem Tryz.strings_IndexByte(s:ByteArray)(c:Int)(w:World):
 Calls Tryz.prog 45 #[.string s,.int .u8 c] w fun e w'=>e=.returned (.int .i64 (Lib.indexByte s.data.toList c.toNat.toUInt8))∧w'=w:=Any.strings_IndexByte Tryz.lays137 s c w
def Tryz.laysM171_ren:Go.Shelf.Ren:=⟨fun|171=>37|243=>74|246=>104|283=>133|284=>134|285=>135|286=>136|129=>162|317=>161|318=>163|319=>164|320=>165|337=>186|338=>187|n=>n,fun|3=>3|9=>9|2=>2|4=>4|171=>181|0=>0|53=>140|37=>57|5=>5|173=>184|212=>219|51=>60|20=>20|213=>220|46=>85|232=>242|233=>243|n=>n,fun|17=>1|18=>2|19=>3|n=>n⟩
theorem Tryz.laysM171:Go.Proofs.LaysM.n171 Tryz.prog Tryz.laysM171_ren:={
  mixed:=by kernel_rfl
  f129:=Tryz.func162.trans (congrArg some (by kernel_rfl))
  f171:=Tryz.func37.trans (congrArg some (by kernel_rfl))
  f243:=Tryz.func74.trans (congrArg some (by kernel_rfl))
  f246:=Tryz.func104.trans (congrArg some (by kernel_rfl))
  f283:=Tryz.func133.trans (congrArg some (by kernel_rfl))
  f284:=Tryz.func134.trans (congrArg some (by kernel_rfl))
  f285:=Tryz.func135.trans (congrArg some (by kernel_rfl))
  f286:=Tryz.func136.trans (congrArg some (by kernel_rfl))
  f317:=Tryz.func161.trans (congrArg some (by kernel_rfl))
  f318:=Tryz.func163.trans (congrArg some (by kernel_rfl))
  f319:=Tryz.func164.trans (congrArg some (by kernel_rfl))
  f320:=Tryz.func165.trans (congrArg some (by kernel_rfl))
  f337:=Tryz.func186.trans (congrArg some (by kernel_rfl))
  f338:=Tryz.func187.trans (congrArg some (by kernel_rfl))
  t0:=Tryz.underlying0
  a0:=Tryz.isAgg0
  z0:=Tryz.sizeOf0
  v0:=Tryz.zeroValue0
  t2:=Tryz.underlying2
  a2:=Tryz.isAgg2
  z2:=Tryz.sizeOf2
  v2:=Tryz.zeroValue2
  t3:=Tryz.underlying3
  a3:=Tryz.isAgg3
  z3:=Tryz.sizeOf3
  v3:=Tryz.zeroValue3
  t4:=Tryz.underlying4
  a4:=Tryz.isAgg4
  z4:=Tryz.sizeOf4
  v4:=Tryz.zeroValue4
  t5:=Tryz.underlying5
  a5:=Tryz.isAgg5
  z5:=Tryz.sizeOf5
  v5:=Tryz.zeroValue5
  t9:=Tryz.underlying9
  a9:=Tryz.isAgg9
  z9:=Tryz.sizeOf9
  v9:=Tryz.zeroValue9
  t20:=Tryz.underlying20
  a20:=Tryz.isAgg20
  z20:=Tryz.sizeOf20
  v20:=Tryz.zeroValue20
  t37:=Tryz.underlying57
  a37:=Tryz.isAgg57
  z37:=Tryz.sizeOf57
  v37:=Tryz.zeroValue57
  t46:=Tryz.underlying85
  a46:=Tryz.isAgg85
  z46:=Tryz.sizeOf85
  v46:=Tryz.zeroValue85
  t51:=Tryz.underlying60
  a51:=Tryz.isAgg60
  z51:=Tryz.sizeOf60
  v51:=Tryz.zeroValue60
  t53:=Tryz.underlying140
  a53:=Tryz.isAgg140
  z53:=Tryz.sizeOf140
  v53:=Tryz.zeroValue140
  t171:=Tryz.underlying181
  a171:=Tryz.isAgg181
  z171:=Tryz.sizeOf181
  v171:=Tryz.zeroValue181
  t173:=Tryz.underlying184
  a173:=Tryz.isAgg184
  z173:=Tryz.sizeOf184
  v173:=Tryz.zeroValue184
  t212:=Tryz.underlying219
  a212:=Tryz.isAgg219
  z212:=Tryz.sizeOf219
  v212:=Tryz.zeroValue219
  t213:=Tryz.underlying220
  a213:=Tryz.isAgg220
  z213:=Tryz.sizeOf220
  t232:=Tryz.underlying242
  a232:=Tryz.isAgg242
  z232:=Tryz.sizeOf242
  v232:=Tryz.zeroValue242
  t233:=Tryz.underlying243
  a233:=Tryz.isAgg243
  z233:=Tryz.sizeOf243
  v233:=Tryz.zeroValue243
  g17:=by kernel_rfl
  g18:=by kernel_rfl
  g19:=by kernel_rfl
  i0:=by kernel_rfl
  i2:=by kernel_rfl
  i3:=by kernel_rfl
  i4:=by kernel_rfl
  i5:=by kernel_rfl
  i9:=by kernel_rfl
  i20:=by kernel_rfl
  i37:=by kernel_rfl
  i46:=by kernel_rfl
  i51:=by kernel_rfl
  i53:=by kernel_rfl
  i171:=by kernel_rfl
  i173:=by kernel_rfl
  i212:=by kernel_rfl
  i232:=by kernel_rfl
  i233:=by kernel_rfl
  m17:=by kernel_rfl
  m18:=by kernel_rfl
  m19:=by kernel_rfl}
open Go.RowKit Go.Sort Go.Lib in
theorem Tryz.strconv_Itoa(n:Int)(h0: -9223372036854775808≤n)(h1:n≤9223372036854775807)(w:World)(htab:Lib.TabIs Tryz.prog w "internal/strconv.uint64pow10" .u64 Lib.pow10Tab):
 Calls Tryz.prog 37 #[.int .i64 n] w fun e w'=>e=.returned (.string ⟨(Lib.itoa n).toArray⟩)∧∃k os,w'=grow (w.drewN k) os:=Any.strconv_Itoa Tryz.laysM171 n h0 h1 w htab
def Tryz.laysC172_ren:Go.Shelf.Ren:=⟨fun|172=>172|244=>191|245=>192|247=>202|279=>203|280=>204|281=>205|282=>206|287=>208|316=>209|171=>37|205=>210|321=>213|322=>214|243=>74|246=>104|283=>133|284=>134|285=>135|286=>136|129=>162|317=>161|318=>163|319=>164|320=>165|337=>186|338=>187|n=>n,fun|9=>9|3=>3|75=>83|76=>115|4=>4|5=>5|167=>251|37=>57|0=>0|85=>252|2=>2|168=>254|53=>140|175=>262|46=>85|210=>265|127=>127|145=>272|143=>270|21=>21|171=>181|173=>184|212=>219|51=>60|20=>20|213=>220|232=>242|233=>243|80=>86|n=>n,fun|15=>6|16=>7|17=>1|18=>2|19=>3|n=>n⟩
theorem Tryz.laysC172:Go.Proofs.LaysC.n172 Tryz.prog Tryz.laysC172_ren:={
  mixed:=by kernel_rfl
  f129:=Tryz.func162.trans (congrArg some (by kernel_rfl))
  f171:=Tryz.func37.trans (congrArg some (by kernel_rfl))
  f172:=Tryz.func172.trans (congrArg some (by kernel_rfl))
  f205:=Tryz.func210.trans (congrArg some (by kernel_rfl))
  f243:=Tryz.func74.trans (congrArg some (by kernel_rfl))
  f244:=Tryz.func191.trans (congrArg some (by kernel_rfl))
  f245:=Tryz.func192.trans (congrArg some (by kernel_rfl))
  f246:=Tryz.func104.trans (congrArg some (by kernel_rfl))
  f247:=Tryz.func202.trans (congrArg some (by kernel_rfl))
  f279:=Tryz.func203.trans (congrArg some (by kernel_rfl))
  f280:=Tryz.func204.trans (congrArg some (by kernel_rfl))
  f281:=Tryz.func205.trans (congrArg some (by kernel_rfl))
  f282:=Tryz.func206.trans (congrArg some (by kernel_rfl))
  f283:=Tryz.func133.trans (congrArg some (by kernel_rfl))
  f284:=Tryz.func134.trans (congrArg some (by kernel_rfl))
  f285:=Tryz.func135.trans (congrArg some (by kernel_rfl))
  f286:=Tryz.func136.trans (congrArg some (by kernel_rfl))
  f287:=Tryz.func208.trans (congrArg some (by kernel_rfl))
  f316:=Tryz.func209.trans (congrArg some (by kernel_rfl))
  f317:=Tryz.func161.trans (congrArg some (by kernel_rfl))
  f318:=Tryz.func163.trans (congrArg some (by kernel_rfl))
  f319:=Tryz.func164.trans (congrArg some (by kernel_rfl))
  f320:=Tryz.func165.trans (congrArg some (by kernel_rfl))
  f321:=Tryz.func213.trans (congrArg some (by kernel_rfl))
  f322:=Tryz.func214.trans (congrArg some (by kernel_rfl))
  f337:=Tryz.func186.trans (congrArg some (by kernel_rfl))
  f338:=Tryz.func187.trans (congrArg some (by kernel_rfl))
  t0:=Tryz.underlying0
  a0:=Tryz.isAgg0
  z0:=Tryz.sizeOf0
  v0:=Tryz.zeroValue0
  t2:=Tryz.underlying2
  a2:=Tryz.isAgg2
  z2:=Tryz.sizeOf2
  v2:=Tryz.zeroValue2
  t3:=Tryz.underlying3
  a3:=Tryz.isAgg3
  z3:=Tryz.sizeOf3
  v3:=Tryz.zeroValue3
  t4:=Tryz.underlying4
  a4:=Tryz.isAgg4
  z4:=Tryz.sizeOf4
  v4:=Tryz.zeroValue4
  t5:=Tryz.underlying5
  a5:=Tryz.isAgg5
  z5:=Tryz.sizeOf5
  v5:=Tryz.zeroValue5
  t9:=Tryz.underlying9
  a9:=Tryz.isAgg9
  z9:=Tryz.sizeOf9
  v9:=Tryz.zeroValue9
  t20:=Tryz.underlying20
  a20:=Tryz.isAgg20
  z20:=Tryz.sizeOf20
  v20:=Tryz.zeroValue20
  t21:=Tryz.underlying21
  a21:=Tryz.isAgg21
  z21:=Tryz.sizeOf21
  v21:=Tryz.zeroValue21
  t37:=Tryz.underlying57
  a37:=Tryz.isAgg57
  z37:=Tryz.sizeOf57
  v37:=Tryz.zeroValue57
  t46:=Tryz.underlying85
  a46:=Tryz.isAgg85
  z46:=Tryz.sizeOf85
  v46:=Tryz.zeroValue85
  t51:=Tryz.underlying60
  a51:=Tryz.isAgg60
  z51:=Tryz.sizeOf60
  v51:=Tryz.zeroValue60
  t53:=Tryz.underlying140
  a53:=Tryz.isAgg140
  z53:=Tryz.sizeOf140
  v53:=Tryz.zeroValue140
  t75:=Tryz.underlying83
  a75:=Tryz.isAgg83
  z75:=Tryz.sizeOf83
  v75:=Tryz.zeroValue83
  t76:=Tryz.underlying115
  a76:=Tryz.isAgg115
  z76:=Tryz.sizeOf115
  v76:=Tryz.zeroValue115
  t85:=Tryz.underlying252
  a85:=Tryz.isAgg252
  z85:=Tryz.sizeOf252
  v85:=Tryz.zeroValue252
  t127:=Tryz.underlying127
  a127:=Tryz.isAgg127
  z127:=Tryz.sizeOf127
  v127:=Tryz.zeroValue127
  t143:=Tryz.underlying270
  a143:=Tryz.isAgg270
  z143:=Tryz.sizeOf270
  v143:=Tryz.zeroValue270
  t145:=Tryz.underlying272
  a145:=Tryz.isAgg272
  z145:=Tryz.sizeOf272
  v145:=Tryz.zeroValue272
  t167:=Tryz.underlying251
  a167:=Tryz.isAgg251
  z167:=Tryz.sizeOf251
  v167:=Tryz.zeroValue251
  t168:=Tryz.underlying254
  a168:=Tryz.isAgg254
  z168:=Tryz.sizeOf254
  v168:=Tryz.zeroValue254
  t171:=Tryz.underlying181
  a171:=Tryz.isAgg181
  z171:=Tryz.sizeOf181
  v171:=Tryz.zeroValue181
  t173:=Tryz.underlying184
  a173:=Tryz.isAgg184
  z173:=Tryz.sizeOf184
  v173:=Tryz.zeroValue184
  t175:=Tryz.underlying262
  a175:=Tryz.isAgg262
  z175:=Tryz.sizeOf262
  v175:=Tryz.zeroValue262
  t210:=Tryz.underlying265
  a210:=Tryz.isAgg265
  z210:=Tryz.sizeOf265
  v210:=Tryz.zeroValue265
  t212:=Tryz.underlying219
  a212:=Tryz.isAgg219
  z212:=Tryz.sizeOf219
  v212:=Tryz.zeroValue219
  t213:=Tryz.underlying220
  a213:=Tryz.isAgg220
  z213:=Tryz.sizeOf220
  t232:=Tryz.underlying242
  a232:=Tryz.isAgg242
  z232:=Tryz.sizeOf242
  v232:=Tryz.zeroValue242
  t233:=Tryz.underlying243
  a233:=Tryz.isAgg243
  z233:=Tryz.sizeOf243
  v233:=Tryz.zeroValue243
  g15:=by kernel_rfl
  g16:=by kernel_rfl
  g17:=by kernel_rfl
  g18:=by kernel_rfl
  g19:=by kernel_rfl
  t80:=Tryz.underlying86
  a80:=Tryz.isAgg86
  z80:=Tryz.sizeOf86
  v80:=Tryz.zeroValue86
  i0:=by kernel_rfl
  i2:=by kernel_rfl
  i3:=by kernel_rfl
  i4:=by kernel_rfl
  i5:=by kernel_rfl
  i9:=by kernel_rfl
  i20:=by kernel_rfl
  i21:=by kernel_rfl
  i37:=by kernel_rfl
  i46:=by kernel_rfl
  i51:=by kernel_rfl
  i53:=by kernel_rfl
  i75:=by kernel_rfl
  i76:=by kernel_rfl
  i80:=by kernel_rfl
  i85:=by kernel_rfl
  i127:=by kernel_rfl
  i143:=by kernel_rfl
  i145:=by kernel_rfl
  i167:=by kernel_rfl
  i168:=by kernel_rfl
  i171:=by kernel_rfl
  i173:=by kernel_rfl
  i175:=by kernel_rfl
  i210:=by kernel_rfl
  i212:=by kernel_rfl
  i232:=by kernel_rfl
  i233:=by kernel_rfl
  m15:=by kernel_rfl
  m16:=by kernel_rfl
  m17:=by kernel_rfl
  m18:=by kernel_rfl
  m19:=by kernel_rfl
  c0:=by kernel_rfl
  c2:=by kernel_rfl
  c3:=by kernel_rfl
  c4:=by kernel_rfl
  c5:=by kernel_rfl
  c9:=by kernel_rfl
  c20:=by kernel_rfl
  c21:=by kernel_rfl
  c37:=by kernel_rfl
  c46:=by kernel_rfl
  c51:=by kernel_rfl
  c53:=by kernel_rfl
  c75:=by kernel_rfl
  c76:=by kernel_rfl
  c80:=by kernel_rfl
  c85:=by kernel_rfl
  c127:=by kernel_rfl
  c143:=by kernel_rfl
  c145:=by kernel_rfl
  c167:=by kernel_rfl
  c168:=by kernel_rfl
  c171:=by kernel_rfl
  c173:=by kernel_rfl
  c175:=by kernel_rfl
  c210:=by kernel_rfl
  c212:=by kernel_rfl
  c213:=by kernel_rfl
  c232:=by kernel_rfl
  c233:=by kernel_rfl}
open Go.RowKit in
theorem Tryz.strconv_Atoi_ok(s:ByteArray)(hmax:s.size≤9223372036854775806)(v:Int)(h:Lib.atoiAll s.data.toList=.ok v)(w:World):
 Calls Tryz.prog 172 #[.string s] w fun e w'=>e=.returned (.tuple #[.int .i64 v,.nilIface])∧(w'=w∨∃t,w'=Lib.bytesWorld w 5 t):=Any.strconv_Atoi_ok Tryz.laysC172 s hmax v h w
open Go.RowKit in
theorem Tryz.strconv_Atoi_syntax(s:ByteArray)(hlim:s.size≤281474976710656)(h:Lib.atoiAll s.data.toList=.«syntax»)(ev:Value)(w:World)(hv:w.cell? ⟨6,0,none⟩=some ev)(hev:ev=.nilIface∨∃te pe,ev=.iface te pe):
 Calls Tryz.prog 172 #[.string s] w fun e w'=>∃N,e=.returned (.tuple #[.int .i64 (0),.iface 254 (.pointer (some ⟨N,0,none⟩))])∧w.heap.size≤N∧w'.heap[N]? =some (.cells #[.string ⟨#[65,116,111,105]⟩,.string s,ev] 265 (0,0))∧Below w.heap.size w w':=Any.strconv_Atoi_syntax Tryz.laysC172 s hlim h ev w hv hev
open Go.RowKit in
theorem Tryz.strconv_Atoi_range(s:ByteArray)(hlim:s.size≤281474976710656)(h:Lib.atoiAll s.data.toList=.range)(ev:Value)(w:World)(hv:w.cell? ⟨7,0,none⟩=some ev)(hev:ev=.nilIface∨∃te pe,ev=.iface te pe):
 Calls Tryz.prog 172 #[.string s] w fun e w'=>∃N,e=.returned (.tuple #[.int .i64 (Lib.atoiSat s.data.toList),.iface 254 (.pointer (some ⟨N,0,none⟩))])∧w.heap.size≤N∧w'.heap[N]? =some (.cells #[.string ⟨#[65,116,111,105]⟩,.string s,ev] 265 (0,0))∧Below w.heap.size w w':=Any.strconv_Atoi_range Tryz.laysC172 s hlim h ev w hv hev
def Tryz.lays144_ren:Go.Shelf.Ren:=⟨fun|144=>173|143=>144|219=>138|217=>83|225=>169|224=>170|267=>171|266=>117|314=>190|n=>n,fun|9=>9|4=>4|3=>3|5=>5|46=>85|146=>238|51=>60|n=>n,fun|1=>0|n=>n⟩
theorem Tryz.lays144:Go.Proofs.Lays.n144 Tryz.prog Tryz.lays144_ren:={
  mixed:=by kernel_rfl
  f143:=Tryz.func144.trans (congrArg some (by kernel_rfl))
  f144:=Tryz.func173.trans (congrArg some (by kernel_rfl))
  f217:=Tryz.func83.trans (congrArg some (by kernel_rfl))
  f219:=Tryz.func138.trans (congrArg some (by kernel_rfl))
  f224:=Tryz.func170.trans (congrArg some (by kernel_rfl))
  f225:=Tryz.func169.trans (congrArg some (by kernel_rfl))
  f266:=Tryz.func117.trans (congrArg some (by kernel_rfl))
  f267:=Tryz.func171.trans (congrArg some (by kernel_rfl))
  f314:=Tryz.func190.trans (congrArg some (by kernel_rfl))
  t3:=Tryz.underlying3
  a3:=Tryz.isAgg3
  z3:=Tryz.sizeOf3
  v3:=Tryz.zeroValue3
  t4:=Tryz.underlying4
  a4:=Tryz.isAgg4
  z4:=Tryz.sizeOf4
  v4:=Tryz.zeroValue4
  t5:=Tryz.underlying5
  a5:=Tryz.isAgg5
  z5:=Tryz.sizeOf5
  v5:=Tryz.zeroValue5
  t9:=Tryz.underlying9
  a9:=Tryz.isAgg9
  z9:=Tryz.sizeOf9
  v9:=Tryz.zeroValue9
  t46:=Tryz.underlying85
  a46:=Tryz.isAgg85
  z46:=Tryz.sizeOf85
  v46:=Tryz.zeroValue85
  t51:=Tryz.underlying60
  a51:=Tryz.isAgg60
  z51:=Tryz.sizeOf60
  v51:=Tryz.zeroValue60
  t146:=Tryz.underlying238
  a146:=Tryz.isAgg238
  z146:=Tryz.sizeOf238
  v146:=Tryz.zeroValue238
  g1:=by kernel_rfl}
open Go.RowKit Go.Lib in
theorem Tryz.strings_Contains_one(s:ByteArray)(c:UInt8)(w:World):
 Calls Tryz.prog 173 #[.string s,.string ⟨#[c]⟩] w fun e w'=>e=.returned (.bool (decide (0≤Lib.indexByte s.data.toList c)))∧w'=w:=Any.strings_Contains_one Tryz.lays144 s c w
def Tryz.lays145_ren:Go.Shelf.Ren:=⟨fun|145=>80|220=>110|219=>138|217=>83|225=>169|224=>170|267=>171|266=>117|314=>190|n=>n,fun|9=>9|4=>4|59=>123|3=>3|5=>5|46=>85|146=>238|51=>60|n=>n,fun|1=>0|n=>n⟩
theorem Tryz.lays145:Go.Proofs.Lays.n145 Tryz.prog Tryz.lays145_ren:={
  mixed:=by kernel_rfl
  f145:=Tryz.func80.trans (congrArg some (by kernel_rfl))
  f217:=Tryz.func83.trans (congrArg some (by kernel_rfl))
  f219:=Tryz.func138.trans (congrArg some (by kernel_rfl))
  f220:=Tryz.func110.trans (congrArg some (by kernel_rfl))
  f224:=Tryz.func170.trans (congrArg some (by kernel_rfl))
  f225:=Tryz.func169.trans (congrArg some (by kernel_rfl))
  f266:=Tryz.func117.trans (congrArg some (by kernel_rfl))
  f267:=Tryz.func171.trans (congrArg some (by kernel_rfl))
  f314:=Tryz.func190.trans (congrArg some (by kernel_rfl))
  t3:=Tryz.underlying3
  a3:=Tryz.isAgg3
  z3:=Tryz.sizeOf3
  v3:=Tryz.zeroValue3
  t4:=Tryz.underlying4
  a4:=Tryz.isAgg4
  z4:=Tryz.sizeOf4
  v4:=Tryz.zeroValue4
  t5:=Tryz.underlying5
  a5:=Tryz.isAgg5
  z5:=Tryz.sizeOf5
  v5:=Tryz.zeroValue5
  t9:=Tryz.underlying9
  a9:=Tryz.isAgg9
  z9:=Tryz.sizeOf9
  v9:=Tryz.zeroValue9
  t46:=Tryz.underlying85
  a46:=Tryz.isAgg85
  z46:=Tryz.sizeOf85
  v46:=Tryz.zeroValue85
  t51:=Tryz.underlying60
  a51:=Tryz.isAgg60
  z51:=Tryz.sizeOf60
  v51:=Tryz.zeroValue60
  t59:=Tryz.underlying123
  a59:=Tryz.isAgg123
  z59:=Tryz.sizeOf123
  v59:=Tryz.zeroValue123
  t146:=Tryz.underlying238
  a146:=Tryz.isAgg238
  z146:=Tryz.sizeOf238
  v146:=Tryz.zeroValue238
  g1:=by kernel_rfl}
open Go.RowKit Go.Lib in
theorem Tryz.strings_Cut(s sep:ByteArray)(m:Int)(w:World)(hs:s.size<4294967281)(hm:w.cell? ⟨0,0,none⟩=some (.int .i64 m)):
 Calls Tryz.prog 80 #[.string s,.string sep] w fun e w'=>e=.returned (.tuple #[.string ⟨(Lib.cut s.data.toList sep.data.toList).1.toArray⟩,.string ⟨(Lib.cut s.data.toList sep.data.toList).2.1.toArray⟩,.bool (Lib.cut s.data.toList sep.data.toList).2.2])∧∃n,w'=w.drewN n:=Any.strings_Cut Tryz.lays145 s sep m w hs hm
def Tryz.lays146_ren:Go.Shelf.Ren:=⟨fun|146=>82|221=>116|268=>142|138=>143|143=>144|195=>174|197=>175|218=>176|219=>138|260=>193|217=>83|225=>169|224=>170|267=>171|266=>117|314=>190|n=>n,fun|9=>9|31=>69|3=>3|4=>4|0=>0|105=>224|21=>21|5=>5|46=>85|119=>257|139=>260|138=>259|146=>238|51=>60|n=>n,fun|1=>0|3=>4|4=>5|n=>n⟩
theorem Tryz.lays146:Go.Proofs.Lays.n146 Tryz.prog Tryz.lays146_ren:={
  mixed:=by kernel_rfl
  f138:=Tryz.func143.trans (congrArg some (by kernel_rfl))
  f143:=Tryz.func144.trans (congrArg some (by kernel_rfl))
  f146:=Tryz.func82.trans (congrArg some (by kernel_rfl))
  f195:=Tryz.func174.trans (congrArg some (by kernel_rfl))
  f197:=Tryz.func175.trans (congrArg some (by kernel_rfl))
  f217:=Tryz.func83.trans (congrArg some (by kernel_rfl))
  f218:=Tryz.func176.trans (congrArg some (by kernel_rfl))
  f219:=Tryz.func138.trans (congrArg some (by kernel_rfl))
  f221:=Tryz.func116.trans (congrArg some (by kernel_rfl))
  f224:=Tryz.func170.trans (congrArg some (by kernel_rfl))
  f225:=Tryz.func169.trans (congrArg some (by kernel_rfl))
  f260:=Tryz.func193.trans (congrArg some (by kernel_rfl))
  f266:=Tryz.func117.trans (congrArg some (by kernel_rfl))
  f267:=Tryz.func171.trans (congrArg some (by kernel_rfl))
  f268:=Tryz.func142.trans (congrArg some (by kernel_rfl))
  f314:=Tryz.func190.trans (congrArg some (by kernel_rfl))
  t0:=Tryz.underlying0
  a0:=Tryz.isAgg0
  z0:=Tryz.sizeOf0
  v0:=Tryz.zeroValue0
  t3:=Tryz.underlying3
  a3:=Tryz.isAgg3
  z3:=Tryz.sizeOf3
  v3:=Tryz.zeroValue3
  t4:=Tryz.underlying4
  a4:=Tryz.isAgg4
  z4:=Tryz.sizeOf4
  v4:=Tryz.zeroValue4
  t5:=Tryz.underlying5
  a5:=Tryz.isAgg5
  z5:=Tryz.sizeOf5
  v5:=Tryz.zeroValue5
  t9:=Tryz.underlying9
  a9:=Tryz.isAgg9
  z9:=Tryz.sizeOf9
  v9:=Tryz.zeroValue9
  t21:=Tryz.underlying21
  a21:=Tryz.isAgg21
  z21:=Tryz.sizeOf21
  v21:=Tryz.zeroValue21
  t31:=Tryz.underlying69
  a31:=Tryz.isAgg69
  z31:=Tryz.sizeOf69
  v31:=Tryz.zeroValue69
  t46:=Tryz.underlying85
  a46:=Tryz.isAgg85
  z46:=Tryz.sizeOf85
  v46:=Tryz.zeroValue85
  t51:=Tryz.underlying60
  a51:=Tryz.isAgg60
  z51:=Tryz.sizeOf60
  v51:=Tryz.zeroValue60
  t105:=Tryz.underlying224
  a105:=Tryz.isAgg224
  z105:=Tryz.sizeOf224
  v105:=Tryz.zeroValue224
  t119:=Tryz.underlying257
  a119:=Tryz.isAgg257
  z119:=Tryz.sizeOf257
  t138:=Tryz.underlying259
  a138:=Tryz.isAgg259
  z138:=Tryz.sizeOf259
  v138:=Tryz.zeroValue259
  t139:=Tryz.underlying260
  a139:=Tryz.isAgg260
  z139:=Tryz.sizeOf260
  v139:=Tryz.zeroValue260
  t146:=Tryz.underlying238
  a146:=Tryz.isAgg238
  z146:=Tryz.sizeOf238
  v146:=Tryz.zeroValue238
  g1:=by kernel_rfl
  g3:=by kernel_rfl
  g4:=by kernel_rfl}
open Go.RowKit Go.Lib in
theorem Tryz.strings_Split(s sep:ByteArray)(m:Int)(w:World)(hs:s.size<4294967281)(hm:w.cell? ⟨0,0,none⟩=some (.int .i64 m))(h1:1≤sep.size):
 Calls Tryz.prog 82 #[.string s,.string sep] w fun e w'=>
  e=.returned (.slice (some ⟨w.heap.size,0,none⟩) (Lib.countB s sep+1) (Lib.countB s sep+1))∧w'=w.alloc (.cells ((Lib.splitB sep 0 (Lib.countB s sep) s).map Value.string).toArray 9):=Any.strings_Split Tryz.lays146 (by kernel_rfl) s sep m w hs hm h1
end Go.Proofs
namespace Go.Proofs.YtenojajfacacoaaGreatDoor
open Go.RowKit
theorem zE9{P:Program}{o:Oper}{a:Act}{w w':World}{v:Value}{KK:Act→World→Prop}{Q:Exit→Act→World→Prop}(hr:(execOp a.eval o).run P w=.ok (.value v) w')(h:KK (a.put o.dst v) w'):o.wp P a w KK Q:=by
 unfold Oper.wp;rw[hr];exact h
theorem zM0{P:Program}{o:Oper}{a:Act}{w w':World}{KK:Act→World→Prop}{Q:Exit→Act→World→Prop}(hr:(execOp a.eval o).run P w=.ok .skip w')(h:KK (a.put o.dst undef) w'):o.wp P a w KK Q:=by
 unfold Oper.wp;rw[hr];exact h
theorem St.setEx{W0 w:World}{K:Know}{L:List Res}{b:Nat}{c:Array Value}{T:TypeId}(h:St W0 w K (.raw b c T::L))(j:Nat)(v:Value):∃wz,w.setCell ⟨b,j,none⟩ v=wz∧St W0 wz K (.raw b (c.setIfInBounds j v) T::L):=⟨_,rfl,h.rawSet j v⟩
set_option maxHeartbeats 4000000
set_option maxRecDepth 100000
variable {W0 w:World}{K:Know}{L:List Res}
theorem zPh{f:FuncId}{a:Array Value}{r:Value}(c:Calls Tryz.prog f a w fun e w'=>e=.returned r∧w'=w)(h:St W0 w K L):Calls Tryz.prog f a w fun e w'=>e=.returned r∧St W0 w' K L:=
 c.mono (by rintro e w' ⟨rfl,rfl⟩;exact⟨rfl,h⟩)
theorem zGQ(c:UInt8)(v:Int)(hv:digI c=v)(h:St W0 w K L):
  Calls Tryz.prog 45 #[.string ⟨#[48,49,50,51,52,53,54,55,56,57,97,98,99,100,101,102]⟩,.int .u8 c.toNat] w fun e w'=>e=.returned (.int .i64 v)∧St W0 w' K L:=by
 have h1:=Tryz.strings_IndexByte ⟨#[48,49,50,51,52,53,54,55,56,57,97,98,99,100,101,102]⟩ c.toNat w
 have e1:Lib.indexByte (⟨#[48,49,50,51,52,53,54,55,56,57,97,98,99,100,101,102]⟩:ByteArray).data.toList ((c.toNat:Int).toNat.toUInt8)=v:=by
  have e2:(c.toNat:Int).toNat.toUInt8=c:=by rw[Int.toNat_natCast];exact UInt8.ofNat_toNat
  rw[e2];exact hv
 rw[e1]at h1;exact zPh h1 h
theorem or_all:∀a b:Fin 16,bits BinOp.or IntKind.i64 ((a.1:Int)*16) (b.1:Int)=(a.1:Int)*16+(b.1:Int):=by decide+kernel
theorem or_hex(va vb:Int)(ha:0≤va∧va<16)(hb:0≤vb∧vb<16):bits BinOp.or IntKind.i64 (va*16) vb % 256=(((UInt8.ofNat (va*16+vb).toNat).toNat:Nat):Int):=by
 have h:=or_all ⟨va.toNat,by omega⟩ ⟨vb.toNat,by omega⟩;simp only at h;rw[Int.toNat_of_nonneg ha.1,Int.toNat_of_nonneg hb.1]at h;rw[h,UInt8.toNat_ofNat']
 omega
theorem zJJ(s:Bs)(h1:s≠[45])(h2:s=[]∨s.length % 2≠0)(hs:s.length≤1000000)(h:St W0 w K L):
   Calls Tryz.prog 18 #[.string (bb s)] w fun en w'=>en=.returned (.tuple #[.string ⟨#[]⟩,.bool false])∧St W0 w' K L:=by
 have q1:(s==[45])=false:=by rw[beq_eq_false_iff_ne];exact h1
 have H:=hQd h
 rcases h2 with rfl|h2
 · clear h h1;go_enter Tryz.func18,Tryz.ntmps18;go_wp2;go_ret2;exact⟨rfl,H.out⟩
 · have q3:(s==[])=false:=by rw[beq_eq_false_iff_ne];rintro rfl;exact h2 rfl
   have q4:(s !=[])=true:=by simp[bne,q3]
   have hsl:(s.length:Int)≤1000000:=by omega
   have q5:(s.length:Int) % 2=1:=by omega
   have q6:(s.length:Int).tmod 2=1:=by rw[Int.tmod_eq_emod_of_nonneg (by omega)];exact q5
   clear h h1 h2;go_enter Tryz.func18,Tryz.ntmps18;go_wp2;go_ret2;exact⟨rfl,H.out⟩
theorem zHt(h:St W0 w K L):
  Calls Tryz.prog 18 #[.string ⟨#[45]⟩] w fun en w'=>en=.returned (.tuple #[.string ⟨#[]⟩,.bool true])∧St W0 w' K L:=by
 have H:=hQd h;clear h;go_enter Tryz.func18,Tryz.ntmps18;go_wp2;go_ret2;exact⟨rfl,H.out⟩
def hexR (s:Bs):Bs×Bool:=match zBM s with
  |some c=>(c,true)
  |none=>([],false)
theorem zJK(s:Bs)(h1:s≠[45])(h2:s≠[])(h3:s.length % 2=0)(hs:s.length≤1000000)(h:St W0 w K L):
  Calls Tryz.prog 18 #[.string (bb s)] w fun en w'=>en=.returned (.tuple #[.string (bb (hexR s).1),.bool (hexR s).2])∧St W0 w' K L:=by
 have q1:(s==[45])=false:=by rw[beq_eq_false_iff_ne];exact h1
 have q3:(s==[])=false:=by rw[beq_eq_false_iff_ne];exact h2
 have q4:(s !=[])=true:=by simp[bne,q3]
 have hsl:(s.length:Int)≤1000000:=by omega
 have q5:(s.length:Int) % 2=0:=by omega
 have q6:(s.length:Int).tmod 2=0:=by rw[Int.tmod_eq_emod_of_nonneg (by omega)];exact q5
 have H3:=hQd h3;have H2:=hQd h2;obtain⟨b,hb⟩:∃b,w.heap.size=b:=⟨_,rfl⟩;have g1:=h.sbNew;rw[hb]at g1;have H:=hQd g1;clear h g1 h1 h2 h3;go_enter Tryz.func18,Tryz.ntmps18;go_wp2_with fail;go_loopw [5] (fun iv wr=>∃(j:Nat) (d:Bs),j≤s.length∧iv=.int .i64 j∧Hid (j % 2=0)∧Hid (d.length≤j)∧Hid (zBM s=(zBM (s.drop j)).map (d++ ·))∧St W0 wr K (.gen (sbG b d)::L)) (fun iv _=>s.length - (intOf iv).toNat)
 case atStart=>exact⟨0,[],Nat.zero_le _,rfl,hQd rfl,hQd (Nat.le_refl _),hQd (by rw[List.drop_zero];cases zBM s<;>rfl),H.out⟩
 case round=>
  obtain⟨j,d,hj,rfl,HJ,HD,HX,hst⟩:=hrel;clear H;have H:=hQd hst;clear hst
  by_cases hlt:j<s.length
  · have hj1:j+1<s.length:=by have:=HJ.out;have:=H3.out;omega
    have hi0:(j:Int)<(s.length:Int):=by omega
    have hi1:(j:Int)+1<(s.length:Int):=by omega
    have hi2:0≤(j:Int)+1:=by omega
    have hi3:0≤(j:Int)+1∧(j:Int)+1<(s.length:Int):=⟨hi2,hi1⟩;obtain⟨va,hva⟩:∃v,digI (s[j]'hlt)=v:=⟨_,rfl⟩;obtain⟨vb,hvb⟩:∃v,digI (s[j+1]'hj1)=v:=⟨_,rfl⟩;have HA:=hQd hva;have HB:=hQd hvb;have ca:=zC9 (s[j]'hlt);have cb:=zC9 (s[j+1]'hj1);rw[hva]at ca;rw[hvb]at cb;clear hva hvb
    by_cases hab:va= -1∨vb= -1
    · have HZ:=hQd (show hexR s=([],false) by unfold hexR;rw[zNg s d j hj1 HX.out (by rw[HA.out,HB.out];exact hab)]);have ya:va<0∨0≤va:=by omega
      have yb:vb<0∨0≤vb:=by omega
      clear ca cb
      rcases ya with ya|ya
      · have z1:decide (va<0)=true:=decide_eq_true ya;clear hab yb
        go_wp2_with (first
  |(go_at_call 45;(with_reducible refine(zGQ _ va ?_ H.out).mono ?_);exact HA.out;rintro e_ wn ⟨rfl,h⟩;replace H:=hQd h;clear h)
  |(go_at_call 45;(with_reducible refine(zGQ _ vb ?_ H.out).mono ?_);exact HB.out;rintro e_ wn ⟨rfl,h⟩;replace H:=hQd h;clear h))
        go_ret2;rw[HZ.out];exact⟨rfl,H.out.drop⟩
      · have yb:vb<0:=by omega
        have z0:¬va<0:=by omega
        have z1:decide (va<0)=false:=decide_eq_false z0;have z2:decide (vb<0)=true:=decide_eq_true yb;clear hab
        go_wp2_with (first
  |(go_at_call 45;(with_reducible refine(zGQ _ va ?_ H.out).mono ?_);exact HA.out;rintro e_ wn ⟨rfl,h⟩;replace H:=hQd h;clear h)
  |(go_at_call 45;(with_reducible refine(zGQ _ vb ?_ H.out).mono ?_);exact HB.out;rintro e_ wn ⟨rfl,h⟩;replace H:=hQd h;clear h))
        go_ret2;rw[HZ.out];exact⟨rfl,H.out.drop⟩
    · have ya:0≤va∧va<16:=by omega
      have yb:0≤vb∧vb<16:=by omega
      have z1:¬va<0:=by omega
      have z2:¬vb<0:=by omega
      have z3:decide (va<0)=false:=decide_eq_false z1;have z4:decide (vb<0)=false:=decide_eq_false z2;have HS:=hQd (zLO s d j hj1 HX.out (by rw[HA.out];omega) (by rw[HB.out];omega));have HL:=hQd (show d.length≤1000000000000 by have:=HD.out;omega);clear ca cb hab;obtain⟨y,hy⟩:∃y,UInt8.ofNat (digI (s[j]'hlt)*16+digI (s[j+1]'hj1)).toNat=y:=⟨_,rfl⟩;rw[hy]at HS;have HOR:=hQd (show bits BinOp.or IntKind.i64 (va*16) vb % 256=((y.toNat:Nat):Int) by rw[←hy,HA.out,HB.out];exact or_hex va vb ya yb);have HD2:=hQd (show(d++[y]).length≤j+2 by rw[List.length_append,List.length_singleton];have:=HD.out;omega);have HJ2:=hQd (show(j+2) % 2=0 by have:=HJ.out;omega);clear hy
      go_wp2_with (first
  |(go_at_call 45;(with_reducible refine(zGQ _ va ?_ H.out).mono ?_);exact HA.out;rintro e_ wn ⟨rfl,h⟩;replace H:=hQd h;clear h)
  |(go_at_call 45;(with_reducible refine(zGQ _ vb ?_ H.out).mono ?_);exact HB.out;rintro e_ wn ⟨rfl,h⟩;replace H:=hQd h;clear h)
  |(go_at_call 46;rw[HOR.out];(with_reducible refine(zPn b d y HL.out H.out).mono ?_);rintro e_ wn ⟨rfl,h⟩;replace H:=hQd h;clear h))
      go_roundw
      case rel=>exact⟨j+2,d++[y],by omega,by go_num,HJ2,HD2,HS,H.out⟩
      case measure=>first|(simp[intOf];done)|(simp[intOf];omega)
  · obtain rfl:j=s.length:=by omega
    have hx:=HX.out;rw[List.drop_length]at hx;have hx2:zBM s=some d:=by rw[hx];show some (d++[])=some d;rw[List.append_nil]
    have HZ:=hQd (show hexR s=(d,true) by unfold hexR;rw[hx2]);have HDN:=hQd (show d≠[]from fun e=>by subst e;exact H2.out (zGe s [] hx2).symm);clear hx hx2;go_wp2_with (go_at_call 47;(with_reducible refine(zMs b d HDN.out H.out).mono ?_);rintro e_ wn ⟨rfl,h⟩;replace H:=hQd h;clear h);go_ret2;rw[HZ.out];exact⟨rfl,H.out⟩
def hexV (s:Bs):Bs×Bool:=match zI4 s with
  |some c=>(c,true)
  |none=>([],false)
theorem zOb(s:Bs)(hs:s.length≤1000000)(h:St W0 w K L):
   Calls Tryz.prog 18 #[.string (bb s)] w fun en w'=>en=.returned (.tuple #[.string (bb (hexV s).1),.bool (hexV s).2])∧St W0 w' K L:=by
 by_cases h1:s=[45]
 · subst h1;exact zHt h
 by_cases h2:s=[]∨s.length % 2≠0
 · have e:hexV s=([],false):=by
    unfold hexV zI4;rw[if_neg h1]
    by_cases h3:s=[]
    · rw[if_pos h3]
    · rw[if_neg h3,zI5 s (h2.resolve_left h3)]
   rw[e];exact zJJ s h1 h2 hs h
 · have h3:s≠[]:=fun e=>h2 (.inl e)
   have e:hexV s=hexR s:=by
    unfold hexV zI4 hexR;rw[if_neg h1,if_neg h3]
   rw[e];exact zJK s h1 h3 (by omega) hs h
def Know.blk (g:Nat) (P:Obj→Prop):Know:=⟨fun w F=>F g∧∃o,w.heap[g]? =some o∧P o,
  fun w w' F h hs hk=>⟨h.1,by obtain⟨o,h1,h2⟩:=h.2;exact⟨o,(hk g (by rcases Nat.lt_or_ge g w.heap.size with h3|h3;exact h3;rw[Array.getElem?_eq_none h3]at h1;cases h1) h.1).trans h1,h2⟩⟩,
  fun _ _ _ h hs=>⟨hs _ h.1,h.2⟩⟩
def isMax (o:Obj):Prop:=∃m c T fz,o=.cells c T fz∧c[0]? =some (.int .i64 m)
def isErr (o:Obj):Prop:=∃te pe T fz,o=.cells #[.iface te pe] T fz
def isPow (o:Obj):Prop:=∃T fz,o=.cells (Lib.pow10Tab.map fun z=>Value.int .u64 z).toArray T fz
def Know.lib:Know:=((Know.blk 0 isMax).and (Know.blk 1 isPow)).and ((Know.blk 6 isErr).and (Know.blk 7 isErr))
theorem zM9(hk:K.has Know.lib)(h:St W0 w K L):∃m,w.cell? ⟨0,0,none⟩=some (.int .i64 m):=by
 obtain⟨F,hF,_⟩:=h.get;obtain⟨_,o,h1,m,c,T,fz,rfl,hc⟩:=(hk _ _ hF).1.1;exact⟨m,by simp[World.cell?,h1,hc]⟩
theorem zP2(hk:K.has Know.lib)(h:St W0 w K L):Lib.TabIs Tryz.prog w "internal/strconv.uint64pow10" .u64 Lib.pow10Tab:=by
 obtain⟨F,hF,_⟩:=h.get;obtain⟨_,o,h1,T,fz,rfl⟩:=(hk _ _ hF).1.2;have hg:Tryz.prog.globalNamed "internal/strconv.uint64pow10" =some 1:=by kernel_rfl
 unfold Lib.TabIs World.var?;rw[hg,Option.bind_some,h1]
theorem St.below'{w':World}(h:St W0 w K L)(hb:Below w.heap.size w w'):St W0 w' K L:=
 h.quiet (M:=fun _=>False) ⟨hb.os,hb.tape,hb.output,hb.size,fun k hk _=>hb.block k hk⟩ (fun _ _ h=>h)
theorem St.grown(h:St W0 w K L)(os:Array Obj):St W0 (Sort.grow w os) K L:=
 h.quiet (M:=fun _=>False) ⟨rfl,rfl,rfl,by simp,fun k hk _=>Sort.heap_grow_old w os hk⟩ (fun _ _ h=>h)
def zNU (s:Bs):Int:=match Lib.atoiAll s with
  | .ok v=>v
  | .syntax=>0
  | .range=>Lib.atoiSat s
theorem zPi(n:Int)(h0: -9223372036854775808≤n)(h1:n≤9223372036854775807)(hk:K.has Know.lib)(h:St W0 w K L):
  Calls Tryz.prog 37 #[.int .i64 n] w fun e w'=>e=.returned (.string (bb (Lib.itoa n)))∧St W0 w' K L:=
 (Tryz.strconv_Itoa n h0 h1 w (zP2 hk h)).mono (by rintro e w' ⟨rfl,k,os,rfl⟩;exact⟨rfl,(h.drewN k).grown os⟩)
theorem sl_cut(s sp a b:Bs)(f:Bool)(hc:Lib.cut s sp=(a,b,f))(hs:s.length≤1000000)(hk:K.has Know.lib)(h:St W0 w K L):
  Calls Tryz.prog 80 #[.string (bb s),.string (bb sp)] w fun e w'=>e=.returned (.tuple #[.string (bb a),.string (bb b),.bool f])∧St W0 w' K L:=by
 obtain⟨m,hm⟩:=zM9 hk h;have h1:=Tryz.strings_Cut (bb s) (bb sp) m w (by have hz:(bb s).size=s.length:=(by simp);omega) hm;have d1:(bb s).data.toList=s:=by simp
 have d2:(bb sp).data.toList=sp:=by simp
 rw[d1,d2,hc]at h1;exact h1.mono (by rintro e w' ⟨rfl,n,rfl⟩;exact⟨rfl,h.drewN n⟩)
def zD3 (s:Bs):List ByteArray:=Lib.splitB (bb [32]) 0 (Lib.countB (bb s) (bb [32])) (bb s)
theorem zN5(s:Bs)(ws:List Bs)(hw:zD3 s=ws.map bb)(hs:s.length≤1000000)(hk:K.has Know.lib)(h:St W0 w K L):
  Calls Tryz.prog 82 #[.string (bb s),.string (bb [32])] w fun e w'=>∃b,e=.returned (.slice (some ⟨b,0,none⟩) ws.length ws.length)∧St W0 w' K (.raw b (ws.map fun x=>Value.string (bb x)).toArray 9::L):=by
 obtain⟨m,hm⟩:=zM9 hk h;have h1:=Tryz.strings_Split (bb s) (bb [32]) m w (by have hz:(bb s).size=s.length:=(by simp);omega) hm (by decide)
 have e1:Lib.countB (bb s) (bb [32])+1=ws.length:=by
  have h2:=Lib.splitB_all (bb [32]) (by decide) 0 _ (bb s) rfl;have h3:(zD3 s).length=ws.length:=by rw[hw,List.length_map]
  unfold zD3 at h3
  omega
 have e2:(Lib.splitB (bb [32]) 0 (Lib.countB (bb s) (bb [32])) (bb s)).map Value.string=ws.map fun x=>Value.string (bb x):=by
  show(zD3 s).map Value.string=_
  rw[hw,List.map_map]
  rfl
 rw[e1,e2]at h1;exact h1.mono (by rintro e w' ⟨rfl,rfl⟩;exact⟨_,rfl,h.allocRaw _ _⟩)
theorem zNT(s:Bs): -9223372036854775808≤zNU s∧zNU s<9223372036854775808:=by
 unfold zNU
 cases h:Lib.atoiAll s with
 |ok v=>
  unfold Lib.atoiAll at h
  split at h
  · cases h
  · rename_i c r
    simp only at h
    split at h
    · cases h
    · cases h
    · rename_i u _
      split at h
      · cases h
      · split at h
        · cases h
        · injection h with h
          by_cases hc:c.toNat=45
          · rw[if_pos hc]at h;simp only;omega
          · rw[if_neg hc]at h;simp only;omega
 | «syntax» =>simp
 |range=>simp only;unfold Lib.atoiSat;split<;>omega
def zHN (s:Bs):Option Int:=if Lib.itoa (zNU s)=s then some (zNU s)else none
def zBL:List Bs→Option (List Int)
  |[]=>some []
  |w::t=>match zHN w with
    |none=>none
    |some v=>(zBL t).map (v:: ·)
theorem zG5:∀(l:List Bs) (vs:List Int),zBL l=some vs→vs.length=l.length
  |[],vs,h=>by unfold zBL at h;injection h with h;subst h;rfl
  |a::t,vs,h=>by
    unfold zBL at h
    cases ha:zHN a with
    |none=>rw[ha]at h;cases h
    |some x=>
      rw[ha]at h;simp only at h
      cases ht:zBL t with
      |none=>rw[ht]at h;cases h
      |some y=>rw[ht]at h;injection h with h;subst h;simp[zG5 t y ht]
def Know.strw (wb off:Nat) (ws:List Bs):Know:=⟨fun w F=>F wb∧wb<w.heap.size∧∀j x,ws[j]? =some x→w.cell? ⟨wb,off+j,Option.none⟩=some (.string (bb x)),
  fun _ _ _ h hs hk=>⟨h.1,Nat.lt_of_lt_of_le h.2.1 hs,fun j u hu=>(World.cell?_of_block (a:=⟨wb,off+j,Option.none⟩) (hk wb h.2.1 h.1)).trans (h.2.2 j u hu)⟩,
  fun _ _ _ h hs=>⟨hs _ h.1,h.2.1,h.2.2⟩⟩
theorem St.strs{W0 w:World}{K:Know}{L:List Res}{wb:Nat}{ws:List Bs}{T:TypeId}(h:St W0 w K (.raw wb (ws.map fun x=>Value.string (bb x)).toArray T::L)):St W0 w (K.and (Know.strw wb 0 ws)) L:=
 h.freeze fun F S1 _ hr=>⟨.inr ⟨(hr.2 wb).2 rfl,zA6 hr.1⟩,zA6 hr.1,fun j x hx=>by
  rw[Nat.zero_add,zAP hr.1 j]
  simp[hx]⟩
def letB (a t c:Bool):Bs:=(if a then[97]else[])++((if t then[116]else[])++(if c then[99]else[]))
def letW (a t c:Bool):Bs:=if letB a t c=[]then[45]else letB a t c
def hasB (s:Bs) (c:UInt8):Bool:=decide (0≤Lib.indexByte s c)
def letOk (s:Bs):Bool:=letW (hasB s 97) (hasB s 116) (hasB s 99)==s
theorem zEK{P:Program}{fn:Func}{p t:Tmp}{ty:TypeId}(h:fn.results= #[.cell p ty,.tmp t])(tmps:Array Value)(w:World)(b:Nat)(cs:List Value)(d:TypeDesc)
    (hp:tmps.getD p undef=.pointer (some ⟨b,0,none⟩))(hc:w.rangeAt b 0 cs)(hu:P.underlying ty=some d)(hd:d.isRow=true)(hi:(P.info? ty).map (·.size)=some cs.length):
    (results fn tmps).run P w=.ok (.tuple #[.agg cs.toArray,tmps.getD t undef]) w:=by
  have hp':tmps[p]?.getD undef=.pointer (some ⟨b,0,none⟩):=by simpa using hp
  simp[results,h,hp',asAddr,run_loadVar_mid w b 0 ty cs d hc hu hd hi]
theorem zIN{W0 w:World}{K:Know}{L:List Res}{b:Nat}{c:List Value}{T:TypeId}(h:St W0 w K (.raw b c.toArray T::L)):w.rangeAt b 0 c:=by
 intro j v hv;rw[Nat.zero_add,h.rawCell j]
 simpa using hv
structure BtR where
  b:BatS
  l:List (RecS×Value)
  v:Value
def zQk (b:BatS) (v:Value):List Value:=[.int .i64 b.base,.int .i64 b.leader,.bool b.app,.bool b.txn,.bool b.ctl,.int .i64 b.last,.int .i64 b.first,.int .i64 b.maxt,.int .i64 b.prod,.int .i64 b.epoch,.int .i64 b.seq,v]
def zNJ (x:BtR):List Value:=zQk x.b x.v
inductive BSt
  |zero
  |bat (d:List BtR) (b:BatS)
  |recd (d:List BtR) (b:BatS) (l:List (RecS×Value)) (r:RecS)
def BSt.n:BSt→Nat
  | .zero=>0
  | .bat d _=>d.length+1
  | .recd d _ _ _=>d.length+1
def BSt.m:BSt→Nat
  | .recd _ _ l _=>l.length+1
  | _=>0
def BSt.p:BSt→Nat
  | .recd _ _ _ r=>r.hdrs.length
  | _=>0
def BSt.xs:BSt→Value→List Value
  | .zero,_=>[]
  | .bat d b,v=>d.flatMap zNJ++zQk b v
  | .recd d b _ _,v=>d.flatMap zNJ++zQk b v
def BSt.ys:BSt→Value→List Value
  | .recd _ _ l r,v=>l.flatMap zDH++zDH (r,v)
  | _,_=>[]
def BSt.zs:BSt→List Value
  | .recd _ _ _ r=>r.hdrs.flatMap hcells
  | _=>[]
def BSt.known (K:Know):BSt→Prop
  | .zero=>True
  | .bat d _=>∀x∈d,K.has (Know.recs x.v x.l)
  | .recd d _ l _=>(∀x∈d,K.has (Know.recs x.v x.l))∧∀x∈l,K.has (Know.flat RHdr x.2 3 x.1.hdrs)
def BSt.rows (s:BSt) (vB vR vH:Value) (L:List Res):List Res:=.row vB 30 12 s.n (s.xs vR)::.row vR 54 7 s.m (s.ys vH)::.row vH 73 3 s.p s.zs::L
theorem BSt.known.mono{K K':Know}{s:BSt}(h:s.known K)(hk:K'.has K):s.known K':=by
 cases s with
 |zero=>trivial
 |bat d b=>exact fun x hx=>Know.has_trans hk (h x hx)
 |recd d b l r=>exact⟨fun x hx=>Know.has_trans hk (h.1 x hx),fun x hx=>Know.has_trans hk (h.2 x hx)⟩
theorem St.p6{W0 w:World}{K:Know}{a b c d e f g:Res}{L:List Res}(h:St W0 w K (a::b::c::d::e::f::g::L)):St W0 w K (g::a::b::c::d::e::f::L):=St.p5 (h.map fun _ h=>h.cons fun _ h=>h.cons fun _ h=>h.cons fun _ h=>h.cons fun _ h=>h.cons fun _=>Holds.swap)
theorem zMj{W0:World}{K:Know}{wb off:Nat}{ws:List Bs}(hk:K.has (Know.strw wb off ws))(j:Nat)(x:Bs)(hx:ws[j]? =some x):∀(w':World) (L':List Res),St W0 w' K L'→w'.cell? ⟨wb,off+j,none⟩=some (.string (bb x)):=fun w' L' h'=>by
  obtain⟨F,hF,_⟩:=h'.get;exact(hk _ _ hF).2.2 j x hx
theorem zPj(s a b:Bs)(f:Bool)(hc:Lib.cut s [10]=(a,b,f))(hs:s.length≤1000000)(hk:K.has Know.lib)(h:St W0 w K L):
 Calls Tryz.prog 80 #[.string (bb s),.string ⟨#[10]⟩] w fun e w'=>e=.returned (.tuple #[.string (bb a),.string (bb b),.bool f])∧St W0 w' K L:=sl_cut s [10] a b f hc hs hk h
theorem zMm(s:Bs)(ws:List Bs)(n:Nat)(hn:ws.length=n)(hw:zD3 s=ws.map bb)(hs:s.length≤1000000)(hk:K.has Know.lib)(h:St W0 w K L):
  Calls Tryz.prog 82 #[.string (bb s),.string ⟨#[32]⟩] w fun e w'=>∃b,e=.returned (.slice (some ⟨b,0,none⟩) n n)∧St W0 w' K (.raw b (ws.map fun x=>Value.string (bb x)).toArray 9::L):=by
 subst hn;exact zN5 s ws hw hs hk h
def zDe (s:Bs):Bool×Bs×Bool:=if s=[110,111,110,101]then(true,[],true)else(false,(hexV s).1,(hexV s).2)
inductive Said
  |chunks (l:List Int)
  |cut (n:Int)
  |bat (b:BatS)
  |recd (r:RecS)
  |hdr (h:HdrS)
def zMT (r:List Bs):Option BatS:=match zBL (r.take 8),r.drop 8 with
  |some [n0,n1,n2,n3,n4,n5,n6,n7],[t]=>if letOk t then some ⟨n0,n1,hasB t 97,hasB t 116,hasB t 99,n2,n3,n4,n5,n6,n7,[]⟩else none
  | _,_=>none
def zLB:List Bs→Option RecS
  |[a,b,kw,vw]=>match zBL [a,b]with
    |some [t,o]=>if (zDe kw).2.2 && (zDe vw).2.2 then some ⟨t,o,⟨(zDe kw).1,(zDe kw).2.1⟩,⟨(zDe vw).1,(zDe vw).2.1⟩,[]⟩else none
    | _=>none
  | _=>none
def zMQ:List Bs→Option HdrS
  |[kw,vw]=>if (hexV kw).2 && (zDe vw).2.2 then some ⟨(hexV kw).1,⟨(zDe vw).1,(zDe vw).2.1⟩⟩else none
  | _=>none
def zMS:List Bs→Option Int
  |[x]=>match zHN x with
    |some n=>if n<0 then none else some n
    |none=>none
  | _=>none
def zDG (r:List Bs):Option (List Int):=if r=[]then none else zBL r
def zG0 (n m:Nat) (c:Int) (ch:List Int):List Bs→Option Said
  |[]=>none
  |w::r=>if ch≠[]then none
    else if w=[99,104,117,110,107,115]then(zDG r).map .chunks
    else if c≠ -1 then none
    else if w=[99,117,116]then(zMS r).map .cut
    else if w=[98,97,116,99,104]then(zMT r).map .bat
    else if w=[114,101,99,111,114,100]then(if n=0 then none else(zLB r).map .recd)
    else if w=[104,101,97,100,101,114]then(if n=0∨m=0 then none else(zMQ r).map .hdr)
    else none
def BSt.close:BSt→Value→Value→List BtR
  | .zero,_,_=>[]
  | .bat d b,vR,_=>d++[⟨b,[],vR⟩]
  | .recd d b l r,vR,vH=>d++[⟨b,l++[(r,vH)],vR⟩]
def BSt.put (s:BSt) (vR vH:Value):Said→BSt
  | .chunks _=>s
  | .cut _=>s
  | .bat b=> .bat (s.close vR vH) b
  | .recd r=>match s with
    | .zero=>s
    | .bat d b=> .recd d b [] r
    | .recd d b l r0=> .recd d b (l++[(r0,vH)]) r
  | .hdr h=>match s with
    | .recd d b l r=> .recd d b l ⟨r.time,r.off,r.key,r.val,r.hdrs++[h]⟩
    |s=>s
def zH0 (c:Int):Said→Int
  | .cut n=>n
  | _=>c
def chOf (ch:List Int):Said→List Int
  | .chunks l=>l
  | _=>ch
def RInt (cs:List Value) (x:Int):Prop:=cs=[.int .i64 x]
def MemS (rd:Nat) (s:BSt) (c:Int) (ch:List Int) (W0 w:World) (K:Know) (L:List Res):Prop:=∃vB vR vH q cap,St W0 w K (.raw rd #[vB,.int .i64 c,.slice q ch.length cap] 122::s.rows vB vR vH L)∧s.known K∧K.has (Know.flat RInt (.slice q ch.length cap) 1 ch)
def Came (rd:Nat) (s:BSt) (c:Int) (ch:List Int) (o:Option Said) (W0:World) (K:Know) (L:List Res) (b:Bool) (w':World):Prop:=∃K',K'.has K∧match o with
  |none=>b=false∧St W0 w' K' L
  |some k=>b=true∧∃vR vH,MemS rd (s.put vR vH k) (zH0 c k) (chOf ch k) W0 w' K' L
theorem Came.no{rd:Nat}{s:BSt}{c:Int}{ch:List Int}{o:Option Said}{W0 w':World}{K:Know}{L:List Res}(ho:o=none)(h:St W0 w' K L):Came rd s c ch o W0 K L false w':=by
 subst ho;exact⟨K,Know.has_refl _,rfl,h⟩
def zBi (c:UInt8):Bs→List Bs
  |[]=>[[]]
  |x::t=>if x=c then[]::zBi c t else match zBi c t with
    |[]=>[[x]]
    |h::r=>(x::h)::r
theorem zDK(c:UInt8):∀s:Bs,∃h r,zBi c s=h::r
  |[]=>⟨_,_,rfl⟩
  |x::t=>by
    obtain⟨h,r,e⟩:=zDK c t;unfold zBi
    by_cases hx:x=c
    · rw[if_pos hx];exact⟨_,_,rfl⟩
    · rw[if_neg hx,e];exact⟨_,_,rfl⟩
theorem zLG(c:UInt8)(x:UInt8)(t:Bs)(hx:x=c):zBi c (x::t)=[]::zBi c t:=by
 show(if x=c then[]::zBi c t else match zBi c t with|[]=>[[x]]|h::r=>(x::h)::r)=_
 rw[if_pos hx]
theorem zJ5(c:UInt8)(x:UInt8)(t h:Bs)(r:List Bs)(hx:¬x=c)(e:zBi c t=h::r):zBi c (x::t)=(x::h)::r:=by
 show(if x=c then[]::zBi c t else match zBi c t with|[]=>[[x]]|h::r=>(x::h)::r)=_
 rw[if_neg hx,e]
def zAT (c:UInt8):List Bs→Bs
  |[]=>[]
  |[w]=>w
  |w::t=>w++c::zAT c t
theorem zEr(c:UInt8)(w h:Bs)(t:List Bs):zAT c (w::h::t)=w++c::zAT c (h::t):=rfl
theorem zG6(c:UInt8):∀s:Bs,zAT c (zBi c s)=s
  |[]=>rfl
  |x::t=>by
    have ih:=zG6 c t;obtain⟨h,r,e⟩:=zDK c t
    by_cases hx:x=c
    · rw[zLG c x t hx,e,zEr,←e,ih,hx];rfl
    · rw[zJ5 c x t h r hx e];rw[e]at ih
      rcases r with _|⟨h2,r⟩
      · show x::h=x::t
        rw[show h=t from ih]
      · show zAT c ((x::h)::h2::r)=_
        rw[zEr]at ih ⊢;rw[←ih];rfl
def nOf (n:Nat):Said→Nat
  | .bat _=>n+1
  | _=>n
def mOf (m:Nat):Said→Nat
  | .bat _=>0
  | .recd _=>m+1
  | _=>m
def zG2 (n m:Nat) (c:Int) (ch:List Int) (ln:Nat):List Bs→Nat
  |[]=>0
  |[l]=>if l=[]then 0 else ln
  |l::r=>match zG0 n m c ch (zBi 32 l)with
    |none=>ln
    |some k=>zG2 (nOf n k) (mOf m k) (zH0 c k) (chOf ch k) (ln+1) r
end Go.Proofs.YtenojajfacacoaaGreatDoor
