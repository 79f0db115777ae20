/- A text. -/
import Derived.Test.YtenojajfacacoaaGreatDoorGReportPlaysCard5
import Derived.Test.YtenojajfacacoaaGreatDoorGReportPlaysCard6
import Derived.Test.YtenojajfacacoaaGreatDoorGReportPlaysCard4
import Derived.Test.YtenojajfacacoaaGreatDoorGReportPlaysCard2
import Derived.Lib.Bytealg
import Derived.Lib.Builder
import Derived.Lib.UnsafeStr
import Derived.Laws.Externs
import Derived.Shelf.RegionOpenPlain
import Derived.RegionTactic
import Derived.WalkMore
import Derived.Deep.RegionHeld3
import Derived.Deep.DeepCutAuto
/- A text. -/
namespace Go.Proofs.YtenojajfacacoaaGreatDoor
open Go.RowKit
open Go.Value renaming bool→U, string→Z, slice→Ja, int→I, pointer→Jc
open Go.Ending renaming returned→Jb
open _root_.Nat renaming le_refl→Jo, zero_le→Ji, add_assoc→Jm
open Go.IntKind renaming i64→O
open _root_.Go.Proofs.Tryz renaming prog→Jd
open _root_.List renaming length_cons→Jg, take_of_length_le→Jj, length_take→Jk, length_append→Je, length→Jh, take→Jq, getElem_mem→Jp, length_drop→Jf, length_nil→Jl, length_map→Jn
variable {W0 w:World}{K:Know}{L:List Res}
theorem zEU:∀(l:List HdrS) (N:Nat),hsum l≤N→∀x∈l,x.key.length≤N∧x.val.data.length≤N
 |[],_,_,_,h=>by cases h
 |y::t,N,hh,x,hx=>by
  simp only[hsum,List.map_cons,List.sum_cons]at hh
  rcases List.mem_cons.1 hx with rfl|hx
  ·omega
  ·exact zEU t N (by simp only[hsum];omega) x hx
theorem y6{p:Prop}(h:p:=by
  obtain⟨he,q,_,hf⟩:=zDH.err rows pos e hp hr;rw[hf]at h;simp only at h;rw[if_neg he]at h
  cases h):p:=h
theorem zFi:∀(n:Nat) (rows:Bs) (pos:Nat) (rs:List RecS),pos≤rows.length→unp n ⟨rows,pos,0⟩=.ok rs→rs.length=n∧rs.length+pos≤rows.length∧∀x∈rs,x.R∧zA8 x=0∧x.sum≤rows.length
 |0,rows,pos,rs,hp,h=>by
  unfold unp at h
  split at h
  ·cases h;exact⟨rfl,by simpa using hp,fun x hx=>by cases hx⟩
  ·cases h
 |n+1,rows,pos,rs,hp,h=>by
  have h:(if (⟨rows,pos,0⟩:InS).left=0 then .error 10 else if (⟨rows,pos,0⟩:InS).record.2.err=0 then zE7 (⟨rows,pos,0⟩:InS).record.1 (unp n (⟨rows,pos,0⟩:InS).record.2)else .error (⟨rows,pos,0⟩:InS).record.2.err)=.ok rs:=h
  by_cases c1:(⟨rows,pos,0⟩:InS).left=0
  ·rw[if_pos c1]at h;cases h
  rw[if_neg c1]at h
  cases hr:zCQ (rows.drop pos)with
  |error e=>
   exact y6
  |ok y=>
   obtain⟨x,m⟩:=y;obtain⟨hpm,hf⟩:=zDH.ok rows pos x m hp hr;rw[hf]at h;simp only[if_true]at h
   cases hu:unp n ⟨rows,pos+m,0⟩with
   |error e=>rw[hu]at h;cases h
   |ok t=>
    rw[hu]at h;have h:Except.ok (x::t)=Except.ok rs:=h;injection h with h;subst h;obtain⟨i1,i2,i3⟩:=zFi n rows (pos+m) t hpm hu;obtain⟨_,j1,j2,j3,j4,j5⟩:=zEN hr;rw[Jf]at j3 j5;refine⟨by simp[i1],by simp only[Jg];omega,fun y hy=> ?_⟩
    rcases List.mem_cons.1 hy with rfl|hy
    ·exact⟨j2,j1,oM⟩
    ·exact i3 y hy
theorem zGn{n:Nat}{rows:Bs}{rs:List RecS}{l:List (RecS×Value)}(hu:unp n ⟨rows,0,0⟩=.ok rs)(hl:l.map (·.1)=rs)(hr:rows.length≤1000000):FitB l∧l.length≤1000000:=by
 obtain⟨i1,i2,i3⟩:=zFi n rows 0 rs (Ji _) hu
 constructor
 ·intro x hx;have hm:x.1∈rs:=by rw[←hl];exact List.mem_map.2 ⟨x,hx,rfl⟩
  obtain⟨a,_,c⟩:=i3 x.1 hm;refine⟨a,fun y hy=> ?_,oM⟩;have h1:hsum x.1.hdrs≤1000000:=by unfold RecS.sum at c;omega
  have:=zEU x.1.hdrs 1000000 h1 y hy
  omega
 ·have:l.length=rs.length:=by rw[←hl,Jn]
  omega
def asmB (x:PreS) (said rows:Bs):Except Int BatS:=
 if ((zAq 0#32 (said.drop 21++rows)).toNat:Int)≠x.sum then .error 5
 else if chk x.attr≠0 then .error (chk x.attr)
 else match unp x.count.toNat ⟨rows,0,0⟩with
  | .error e=> .error e
  | .ok rs=>if zAh ⟨x.base,x.leader,zAg x.attr 3,zAg x.attr 4,zAg x.attr 5,x.last,x.first,x.maxt,x.prod,x.epoch,x.seq,rs⟩=0 then .ok ⟨x.base,x.leader,zAg x.attr 3,zAg x.attr 4,zAg x.attr 5,x.last,x.first,x.maxt,x.prod,x.epoch,x.seq,rs⟩else .error (zAh ⟨x.base,x.leader,zAg x.attr 3,zAg x.attr 4,zAg x.attr 5,x.last,x.first,x.maxt,x.prod,x.epoch,x.seq,rs⟩)
theorem zI7(n:Int)(h:St W0 w K L):
 Calls Jd 201 #[I O n] w fun en w'=>en=Jb (.tuple #[U (zAg n 3),U (zAg n 4),U (zAg n 5)])∧St W0 w' K L:=(zRz n w).mono fun _ _ hh=>⟨hh.1,hh.2 ▸ h⟩
theorem zDu(n e:Int)(he:chk n=e)(hn:R64 n)(h:St W0 w K L):
 Calls Jd 199 #[I O n] w fun en w'=>en=Jb (I O e)∧St W0 w' K L:=(zPd n hn w).mono fun _ _ hh=>⟨he ▸ hh.1,hh.2 ▸ h⟩
theorem zDB(b:Nat)(i j:InS)(n:Int)(s:Bs)(hx:i.take n=(s,j))(h:St W0 w K (.inp b i::L)):
 Calls Jd 184 #[zAD b,I O n] w fun en w'=>en=Jb (Z (bb s))∧St W0 w' K (.inp b j::L):=by
 have:=zSW b i n h;rw[hx]at this;exact this
theorem zPK(b:Nat)(i j:InS)(e:Int)(hx:i.fail e=j)(h:St W0 w K (.inp b i::L)):
 Calls Jd 158 #[zAD b,I O e] w fun en w'=>en=Jb (.tuple #[])∧St W0 w' K (.inp b j::L):=by
 subst hx;exact zCJ b i e h
theorem zPk:∀(n:Nat) (i:InS) (e:Int),unp n i=.error e→e≠0
 |0,i,e,h=>by
  unfold unp at h
  split at h
  ·cases h
  ·cases h;decide
 |n+1,i,e,h=>by
  have h:(if i.left=0 then .error 10 else if i.record.2.err=0 then zE7 i.record.1 (unp n i.record.2)else .error i.record.2.err)=.error e:=h
  by_cases c1:i.left=0
  ·rw[if_pos c1]at h;cases h;decide
  rw[if_neg c1]at h
  by_cases c2:i.record.2.err=0
  ·rw[if_pos c2]at h
   cases hu:unp n i.record.2 with
   |ok t=>rw[hu]at h;cases h
   |error f=>
    rw[hu]at h;have h:Except.error f=Except.error e:=h;injection h with h;subst h;exact zPk n _ _ hu
  ·rw[if_neg c2]at h;injection h with h;exact h ▸ c2
theorem zKe{x:PreS}{said rows:Bs}{e:Int}(h:asmB x said rows=.error e):e≠0:=by
 unfold asmB at h
 split at h
 ·cases h;decide
 split at h
 ·cases h;assumption
 split at h
 ·rename_i f hu
  cases h
  exact zPk _ _ _ hu
 ·split at h
  ·cases h
  ·cases h;assumption
theorem zKd{x:PreS}{said rows:Bs}{b:BatS}(h:asmB x said rows=.ok b):((zAq 0#32 (said.drop 21++rows)).toNat:Int)=x.sum∧chk x.attr=0∧∃rs,unp x.count.toNat ⟨rows,0,0⟩=.ok rs∧zAh (⟨x.base,x.leader,zAg x.attr 3,zAg x.attr 4,zAg x.attr 5,x.last,x.first,x.maxt,x.prod,x.epoch,x.seq,rs⟩:BatS)=0∧b=(⟨x.base,x.leader,zAg x.attr 3,zAg x.attr 4,zAg x.attr 5,x.last,x.first,x.maxt,x.prod,x.epoch,x.seq,rs⟩:BatS):=by
 unfold asmB at h
 split at h
 ·cases h
 rename_i h1
 split at h
 ·cases h
 rename_i h2
 have h1:((zAq 0#32 (said.drop 21++rows)).toNat:Int)=x.sum:=by
  by_cases hh:((zAq 0#32 (said.drop 21++rows)).toNat:Int)=x.sum
  ·exact hh
  ·exact absurd hh h1
 have h2:chk x.attr=0:=by
  by_cases hh:chk x.attr=0
  ·exact hh
  ·exact absurd hh h2
 split at h
 ·cases h
 ·rename_i rs hu
  split at h
  ·rename_i hb
   cases h
   exact⟨h1,h2,rs,hu,hb,rfl⟩
  ·cases h
set_option maxHeartbeats 8000000
set_option maxRecDepth 100000
variable {W0 w:World}{K:Know}{L:List Res}
theorem zBu(s:Bs)(p k:Int)(a b:Nat)(hp:p=a)(hk:k=b)(hb:b≤8)(hs:a+b≤s.length)(hl:s.length≤140737488355328)(h:St W0 w K L):
 Calls Jd 95 #[Z (bb s),I O p,I O k] w fun en w'=>en=Jb (I O (sInt ((s.drop a).take b)))∧St W0 w' K L:=by
 subst hp;subst hk;have H:=hQd h;have hx:((s.drop a).take b).length≤8:=by rw[Jk];omega
 have HX:=hQd hx;clear h hx;go_enter Tryz.func95,Tryz.ntmps95;go_wp2_with (go_at_call 91;refine(zIu _ HX.out stQ).zM ?_;clear H;intro wn H);go_ret;exact⟨rfl,H.out⟩
theorem zEL(s:Bs)(a0 a1 a2 a3 a4 a5 a6 a7 a8 a9 a10 a11 a12:Int)(e0:sInt ((s.drop 0).take 8)=a0)(e1:sInt ((s.drop 8).take 4)=a1)(e2:sInt ((s.drop 12).take 4)=a2)(e3:sInt ((s.drop 16).take 1)=a3)(e4:sInt ((s.drop 17).take 4)=a4)(e5:sInt ((s.drop 21).take 2)=a5)(e6:sInt ((s.drop 23).take 4)=a6)(e7:sInt ((s.drop 27).take 8)=a7)(e8:sInt ((s.drop 35).take 8)=a8)(e9:sInt ((s.drop 43).take 8)=a9)(e10:sInt ((s.drop 51).take 2)=a10)(e11:sInt ((s.drop 53).take 4)=a11)(e12:sInt ((s.drop 57).take 4)=a12)(hl61:61≤s.length)(hlen:s.length≤140737488355328)(hr4: -2147483648≤a4)(u:Int)(hu:(¬a4<0∧a4=u)∨(a4<0∧a4+4294967296=u))(R:Ending→World→Prop)
 (hR:((a3 !=2)=true∧(∀w',St W0 w' K L→R (.returned (.tuple #[Ja none 0 0,I O 6])) w'))∨((a3 !=2)=false∧a1<49∧(∀w',St W0 w' K L→R (.returned (.tuple #[Ja none 0 0,I O 4])) w'))∨((a3 !=2)=false∧¬a1<49∧a12<0∧(∀w',St W0 w' K L→R (.returned (.tuple #[Ja none 0 0,I O 10])) w'))∨((a3 !=2)=false∧¬a1<49∧¬a12<0∧(∀bl w',St W0 w' K (.raw bl #[I O a0,I O a1,I O a2,I O u,I O a5,I O a6,I O a7,I O a8,I O a9,I O a10,I O a11,I O a12] 3::L)→R (.returned (.tuple #[Ja (some ⟨bl,0,none⟩) 12 12,I O 0])) w')))
 (h:St W0 w K L):Calls Jd 66 #[Z (bb s)] w R:=by
 have H:=hQd h;have HL:=hQd hlen;have hd:decide ((s.length:Int)<61)=false:=decide_eq_false oM;have E0:=hQd e0;have HSL0:=hQd (show 0+8≤s.length by omega);have E1:=hQd e1;have HSL1:=hQd (show 8+4≤s.length by omega);have E2:=hQd e2;have HSL2:=hQd (show 12+4≤s.length by omega);have E3:=hQd e3;have HSL3:=hQd (show 16+1≤s.length by omega);have E4:=hQd e4;have HSL4:=hQd (show 17+4≤s.length by omega);have E5:=hQd e5;have HSL5:=hQd (show 21+2≤s.length by omega);have E6:=hQd e6;have HSL6:=hQd (show 23+4≤s.length by omega);have E7:=hQd e7;have HSL7:=hQd (show 27+8≤s.length by omega);have E8:=hQd e8;have HSL8:=hQd (show 35+8≤s.length by omega);have E9:=hQd e9;have HSL9:=hQd (show 43+8≤s.length by omega);have E10:=hQd e10;have HSL10:=hQd (show 51+2≤s.length by omega);have E11:=hQd e11;have HSL11:=hQd (show 53+4≤s.length by omega);have E12:=hQd e12;have HSL12:=hQd (show 57+4≤s.length by omega);clear h hlen hl61 e0 e1 e2 e3 e4 e5 e6 e7 e8 e9 e10 e11 e12
 rcases hu with ⟨h4,hu⟩|⟨h4,hu⟩<;>have HU:=hQd hu<;>clear hu<;>rcases hR with ⟨hm,hR⟩|⟨hm,hl,hR⟩|⟨hm,hl,hc,hR⟩|⟨hm,hl,hc,hR⟩<;>have HR:=hQd hR<;>clear hR
 all_goals
  go_enter Tryz.func66,Tryz.ntmps66
  go_wp2_with (first
   |(go_at_call 95;(with_reducible refine(zBu _ _ _ 0 8 dD dD dD HSL0.out HL.out stQ).mono ?_);(repeat first|rw[E0.out]);rintro e wn ⟨rfl,h⟩;replace H:=hQd h;clear h)
   |(go_at_call 95;(with_reducible refine(zBu _ _ _ 8 4 dD dD dD HSL1.out HL.out stQ).mono ?_);(repeat first|rw[E1.out]);rintro e wn ⟨rfl,h⟩;replace H:=hQd h;clear h)
   |(go_at_call 95;(with_reducible refine(zBu _ _ _ 12 4 dD dD dD HSL2.out HL.out stQ).mono ?_);(repeat first|rw[E2.out]);rintro e wn ⟨rfl,h⟩;replace H:=hQd h;clear h)
   |(go_at_call 95;(with_reducible refine(zBu _ _ _ 16 1 dD dD dD HSL3.out HL.out (H.out.allocRaw #[I O a0,I O a1,I O a2,_,I O a5,I O a6,I O a7,I O a8,I O a9,I O a10,I O a11,I O a12] 3)).mono ?_);(repeat first|rw[E3.out]);rintro e wn ⟨rfl,h⟩;replace H:=hQd h;clear h;have y1:=H.out.rawCell 1;have y11:=H.out.rawCell 11;simp at y1 y11)
   |(go_at_call 95;(with_reducible refine(zBu _ _ _ 17 4 dD dD dD HSL4.out HL.out stQ).mono ?_);(repeat first|rw[E4.out]);rintro e wn ⟨rfl,h⟩;replace H:=hQd h;clear h)
   |(go_at_call 95;(with_reducible refine(zBu _ _ _ 21 2 dD dD dD HSL5.out HL.out stQ).mono ?_);(repeat first|rw[E5.out]);rintro e wn ⟨rfl,h⟩;replace H:=hQd h;clear h)
   |(go_at_call 95;(with_reducible refine(zBu _ _ _ 23 4 dD dD dD HSL6.out HL.out stQ).mono ?_);(repeat first|rw[E6.out]);rintro e wn ⟨rfl,h⟩;replace H:=hQd h;clear h)
   |(go_at_call 95;(with_reducible refine(zBu _ _ _ 27 8 dD dD dD HSL7.out HL.out stQ).mono ?_);(repeat first|rw[E7.out]);rintro e wn ⟨rfl,h⟩;replace H:=hQd h;clear h)
   |(go_at_call 95;(with_reducible refine(zBu _ _ _ 35 8 dD dD dD HSL8.out HL.out stQ).mono ?_);(repeat first|rw[E8.out]);rintro e wn ⟨rfl,h⟩;replace H:=hQd h;clear h)
   |(go_at_call 95;(with_reducible refine(zBu _ _ _ 43 8 dD dD dD HSL9.out HL.out stQ).mono ?_);(repeat first|rw[E9.out]);rintro e wn ⟨rfl,h⟩;replace H:=hQd h;clear h)
   |(go_at_call 95;(with_reducible refine(zBu _ _ _ 51 2 dD dD dD HSL10.out HL.out stQ).mono ?_);(repeat first|rw[E10.out]);rintro e wn ⟨rfl,h⟩;replace H:=hQd h;clear h)
   |(go_at_call 95;(with_reducible refine(zBu _ _ _ 53 4 dD dD dD HSL11.out HL.out stQ).mono ?_);(repeat first|rw[E11.out]);rintro e wn ⟨rfl,h⟩;replace H:=hQd h;clear h)
   |(go_at_call 95;(with_reducible refine(zBu _ _ _ 57 4 dD dD dD HSL12.out HL.out stQ).mono ?_);(repeat first|rw[E12.out]);rintro e wn ⟨rfl,h⟩;replace H:=hQd h;clear h))
  try go_ret2
  first|exact HR.out _ H.out.drop|(have h9:=H.out;rw[HU.out]at h9;exact HR.out _ _ h9)
def psz:List Nat:=[8,4,4,4,2,4,8,8,8,2,4,4]
def adj (k:Nat):Nat:=if k≤3 then k else k+1
theorem zSa(x:PreS)(k:Nat)(hk:k<12)(h3:k≠3):x.items.take (adj (k+1))=x.items.take (adj k)++[(x.list.getD k 0,psz.getD k 0)]∧(x.list.getD k 0,psz.getD k 0)∈x.items:=by
 rcases(by omega:k=0∨k=1∨k=2∨k=4∨k=5∨k=6∨k=7∨k=8∨k=9∨k=10∨k=11)with h|h|h|h|h|h|h|h|h|h|h<;>subst h<;>exact⟨rfl,by simp[PreS.items,PreS.list,psz]⟩
theorem zQk(x:PreS):x.items.take (adj (3+1))=x.items.take (adj 3)++[(2,1),(zAE x.sum,4)]∧(zAE x.sum,4)∈x.items:=⟨rfl,by simp[PreS.items]⟩
theorem zSb(x:PreS)(k:Nat)(hk:k<12):(#[I O x.base,I O x.len,I O x.leader,I O x.sum,I O x.attr,I O x.last,I O x.first,I O x.maxt,I O x.prod,I O x.epoch,I O x.seq,I O x.count]:Array Value)[k]? =some (I O (x.list.getD k 0))∧(#[I O 8,I O 4,I O 4,I O 4,I O 2,I O 4,I O 8,I O 8,I O 8,I O 2,I O 4,I O 4]:Array Value)[k]? =some (I O (psz.getD k 0))∧x.list.getD k 0∈x.list∧1≤psz.getD k 0∧psz.getD k 0≤8:=by
 rcases(by omega:k=0∨k=1∨k=2∨k=3∨k=4∨k=5∨k=6∨k=7∨k=8∨k=9∨k=10∨k=11)with h|h|h|h|h|h|h|h|h|h|h|h<;>subst h<;>exact⟨rfl,rfl,by simp[PreS.list],dD,dD⟩
theorem zBA(a b:List (Int×Nat)):zAj (a++b)=zAj a++zAj b:=List.flatMap_append
theorem FitsAll.nil:FitsAll []:=fun _ hx=>by cases hx
theorem FitsAll.append{a b:List (Int×Nat)}(h:FitsAll a)(k:FitsAll b):FitsAll (a++b):=fun x hx=>(List.mem_append.1 hx).elim (h x) (k x)
theorem FitsAll.one{n:Int}{z:Nat}(h:fits n z):FitsAll [(n,z)]:=fun x hx=>by simp at hx;subst hx;exact h
theorem zMG(x:PreS)(k:Nat):(zAj (x.items.take k)).length≤61:=by
 have h1:(zAj x.items).length=61:=by rw[zB7];rfl
 have h2:zAj x.items=zAj (x.items.take k)++zAj (x.items.drop k):=by rw[←zBA,List.take_append_drop]
 have h3:=congrArg Jh h2;rw[Je]at h3
 omega
theorem zF1(n:Int)(h0:¬n<0)(h1:¬4294967295<n):fits (zAE n) 4:=by
 have e4:half 4=2147483648:=by decide
 unfold fits zAE;rw[if_neg oM];refine⟨dD,dD,?_⟩;have:(4:Int).toNat=4:=rfl;rw[this,e4]
 split<;>omega
theorem zEm(n:Int)(h:n<0∨4294967295<n):¬fits (zAE n) 4:=by
 have e:zAE n=4294967296:=if_pos h;rw[e]
 decide
def zCq (x:PreS):Bs×Bool:=if FitsAll x.items then(zAj x.items,true)else([],false)
theorem zT6{x:PreS}(hp:FitsAll x.items):Ending.returned (.tuple #[Z (bb (zAj x.items)),U true])=Ending.returned (.tuple #[Z (bb (zCq x).1),U (zCq x).2]):=by unfold zCq;rw[if_pos hp]
theorem zHz{x:PreS}(hp:¬FitsAll x.items):Ending.returned (.tuple #[Z ⟨#[]⟩,U false])=Ending.returned (.tuple #[Z (bb (zCq x).1),U (zCq x).2]):=by unfold zCq;rw[if_neg hp];rfl
theorem zq28{p:Prop}(h:p:=by
  go_roundw
  case rel=>
   obtain⟨k',r1,r2,r3,r4⟩:=REL.out;exact⟨k',r1,r2,r3,r4,H.out⟩
  case measure=>first|(simp[intOf];done)|(simp[intOf];omega)):p:=h
theorem zMa(bl:Nat)(x:PreS)(hx:x.R){W0 w:World}{K:Know}{L:List Res}(h:St W0 w K (.raw bl #[I O x.base,I O x.len,I O x.leader,I O x.sum,I O x.attr,I O x.last,I O x.first,I O x.maxt,I O x.prod,I O x.epoch,I O x.seq,I O x.count] 3::L)):
 Calls Jd 29 #[Ja (some ⟨bl,0,none⟩) 12 12] w fun en w'=>en=Jb (.tuple #[Z (bb (zCq x).1),U (zCq x).2])∧St W0 w' K (.raw bl #[I O x.base,I O x.len,I O x.leader,I O x.sum,I O x.attr,I O x.last,I O x.first,I O x.maxt,I O x.prod,I O x.epoch,I O x.seq,I O x.count] 3::L):=by
 have H:=hQd (h.allocRaw #[I O 8,I O 4,I O 4,I O 4,I O 2,I O 4,I O 8,I O 8,I O 8,I O 2,I O 4,I O 4] 3);have HX:=hQd hx;clear h hx;go_enter Tryz.func29,Tryz.ntmps29;go_wp2;obtain⟨bs,hbs⟩:=eX w.heap.size;rw[hbs]at H
 try rw[hbs]
 have HBS:=hQd hbs;clear hbs;go_loopw [5,6] (fun sv iv wr=>∃k:Nat,k≤12∧iv=I O k∧sv=Z (bb (zAj (x.items.take (adj k))))∧FitsAll (x.items.take (adj k))∧St W0 wr K (.raw bs #[I O 8,I O 4,I O 4,I O 4,I O 2,I O 4,I O 8,I O 8,I O 8,I O 2,I O 4,I O 4] 3::.raw bl #[I O x.base,I O x.len,I O x.leader,I O x.sum,I O x.attr,I O x.last,I O x.first,I O x.maxt,I O x.prod,I O x.epoch,I O x.seq,I O x.count] 3::L)) (fun _ iv _=>12 - (intOf iv).toNat)
 case atStart=>exact⟨0,Ji _,rfl,rfl,FitsAll.nil,H.out⟩
 case round=>
  obtain⟨k,hk,rfl,rfl,hfa,hst⟩:=hrel;have HFA:=hQd hfa;have H:=hQd hst;clear hfa hst;have hlen:=zMG x (adj k);obtain⟨e0,he0⟩:=eX (zAj (x.items.take (adj k)));rw[he0]at hlen;rw[he0];have HE0:=hQd he0;clear he0
  by_cases hlt:k<12
  ·obtain⟨p1,p2,p3,p4,p5⟩:=zSb x k hlt;have hnr:=HX.out _ p3;obtain⟨n,hn⟩:=eX (x.list.getD k 0);obtain⟨z,hz⟩:=eX (psz.getD k 0);rw[hn]at p1 hnr;rw[hz]at p2 p4 p5;have C1:=hQd p1;have C2:=hQd p2;have HN:=hQd hnr;have HZ8:=hQd (show z≤140737488355328 by omega);have HNZ:=hQd (And.intro hn hz);have d1:=H.out.p1.rawCell k;have d2:=H.out.rawCell k;rw[C1.out]at d1;rw[C2.out]at d2;clear p1 p2 p3 hnr hn hz hk
   by_cases h3:k=3
   ·subst h3;have HNX:=hQd (show x.sum=n from HNZ.out.1);obtain rfl:4=z:=HNZ.out.2;have HQ:=hQd (zQk x);rw[HNX.out]at HQ
    by_cases h0:n<0
    ·go_wp2;go_ret2;exact⟨zHz (fun h=>zEm n (.inl h0) (h _ HQ.out.2)),H.out.drop⟩
    by_cases h1:4294967295<n
    ·go_wp2;go_ret2;exact⟨zHz (fun h=>zEm n (.inr h1) (h _ HQ.out.2)),H.out.drop⟩
    have HF:=hQd (zF1 n h0 h1);have HSR:=hQd (zC9 n);have HF4:=hQd (decide_eq_true HF.out)
    by_cases h2:2147483647<n
    ·have hsi:zAE n=n - 4294967296:=by unfold zAE;rw[if_neg oM,if_pos h2]
     rw[hsi]at HF4 HF HQ HSR;have tokA:True:=trivial
     have REL:=hQd (show ∃k:Nat,k≤12∧Value.int O (3+1)=I O k∧Value.string (bb (e0++(zAm 2 1++zAm (n - 4294967296) 4)))=Z (bb (zAj (x.items.take (adj k))))∧FitsAll (x.items.take (adj k))from
      ⟨4,dD,rfl,by rw[HQ.out.1,zBA,HE0.out];simp[zAj],by rw[HQ.out.1];exact HFA.out.append (fun y hy=>by simp at hy;rcases hy with rfl|rfl;exact dD;exact HF.out)⟩)
     clear hsi
     go_wp2_with (first
      |(go_at_call 62;have _t:=tokA;clear _t;refine(zDU 2 1 dD dD H.out).mono ?_;rintro e wn ⟨rfl,h⟩;replace H:=hQd h;clear h tokA;have d1:=H.out.p1.rawCell 3;have d2:=H.out.rawCell 3;rw[C1.out]at d1;rw[C2.out]at d2)
      |(go_at_call 62;refine(zDU (n - 4294967296) 4 dD HSR.out H.out).zM ?_;clear H;intro wn H;have d1:=H.out.p1.rawCell 3;have d2:=H.out.rawCell 3;rw[C1.out]at d1;rw[C2.out]at d2)
      |(go_at_call 63;refine(zL0 (n - 4294967296) 4 HSR.out H.out).mono ?_;rw[HF4.out];rintro e wn ⟨rfl,h⟩;replace H:=hQd h;clear h;have d1:=H.out.p1.rawCell 3;have d2:=H.out.rawCell 3;rw[C1.out]at d1;rw[C2.out]at d2))
     exact zq28
    ·have hsi:zAE n=n:=by unfold zAE;rw[if_neg oM,if_neg h2]
     rw[hsi]at HF4 HF HQ HSR;have tokA:True:=trivial
     have REL:=hQd (show ∃k:Nat,k≤12∧Value.int O (3+1)=I O k∧Value.string (bb (e0++(zAm 2 1++zAm (n) 4)))=Z (bb (zAj (x.items.take (adj k))))∧FitsAll (x.items.take (adj k))from
      ⟨4,dD,rfl,by rw[HQ.out.1,zBA,HE0.out];simp[zAj],by rw[HQ.out.1];exact HFA.out.append (fun y hy=>by simp at hy;rcases hy with rfl|rfl;exact dD;exact HF.out)⟩)
     clear hsi
     go_wp2_with (first
      |(go_at_call 62;have _t:=tokA;clear _t;refine(zDU 2 1 dD dD H.out).mono ?_;rintro e wn ⟨rfl,h⟩;replace H:=hQd h;clear h tokA;have d1:=H.out.p1.rawCell 3;have d2:=H.out.rawCell 3;rw[C1.out]at d1;rw[C2.out]at d2)
      |(go_at_call 62;refine(zDU (n) 4 dD HSR.out H.out).zM ?_;clear H;intro wn H;have d1:=H.out.p1.rawCell 3;have d2:=H.out.rawCell 3;rw[C1.out]at d1;rw[C2.out]at d2)
      |(go_at_call 63;refine(zL0 (n) 4 HSR.out H.out).mono ?_;rw[HF4.out];rintro e wn ⟨rfl,h⟩;replace H:=hQd h;clear h;have d1:=H.out.p1.rawCell 3;have d2:=H.out.rawCell 3;rw[C1.out]at d1;rw[C2.out]at d2))
     exact zq28
   ·obtain⟨q1,q2⟩:=zSa x k hlt h3;rw[HNZ.out.1,HNZ.out.2]at q1 q2;have HQ:=hQd (And.intro q1 q2);clear q1 q2;have h3b:((k:Int)==3)=false:=by rw[beq_eq_false_iff_ne];omega
    have HK3:=hQd h3;clear h3
    by_cases hf:fits n z
    all_goals
     have HF:=hQd hf;have hdf:decide (fits n z)=decide (fits n z):=rfl
     conv at hdf=>rhs;(first|rw[decide_eq_true HF.out]|rw[decide_eq_false HF.out])
     have HDF:=hQd hdf;clear hf hdf
     go_wp2_with (first
      |(go_at_call 63;(with_reducible refine(zL0 _ _ HN.out H.out).mono ?_);rw[HDF.out];rintro e wn ⟨rfl,h⟩;replace H:=hQd h;clear h;have d1:=H.out.p1.rawCell k;have d2:=H.out.rawCell k;rw[C1.out]at d1;rw[C2.out]at d2)
      |(go_at_call 62;(with_reducible refine(zDU _ _ HZ8.out HN.out H.out).zM ?_);clear H;intro wn H;have d1:=H.out.p1.rawCell k;have d2:=H.out.rawCell k;rw[C1.out]at d1;rw[C2.out]at d2))
    ·go_roundw
     case rel=>
      refine⟨k+1,oM,by go_num,?_,?_,H.out⟩
      ·rw[HQ.out.1,zBA,HE0.out];simp[zAj]
      ·rw[HQ.out.1];exact HFA.out.append (FitsAll.one HF.out)
     case measure=>first|(simp[intOf];done)|(simp[intOf];omega)
    ·go_ret2;exact⟨zHz (fun h=>HF.out (h _ HQ.out.2)),H.out.drop⟩
  ·have hk12:k=12:=by omega
   subst hk12;go_wp2;go_ret2;have ht:x.items.take (adj 12)=x.items:=rfl;have h1:=HFA.out;have h2:=HE0.out;rw[ht]at h1 h2;subst h2;exact⟨zT6 h1,H.out.drop⟩
variable {W0 w:World}{K:Know}{L:List Res}
def preX (s:Bs):PreS×Int:=zHp (zBX zA0 s)
def zAR (s:Bs):Except Int PreS:=if s.length<61 then .error 1 else if (preX s).2=2 then(if (preX s).1.len<49 then .error 4 else if (preX s).1.count<0 then .error 10 else .ok (preX s).1)else .error 6
theorem InS.fail_stuck_Pre6{i:InS}(h:i.err≠0)(e:Int):i.fail e=i:=if_neg h
theorem InS.fail_ok0(s:Bs)(p:Nat)(e:Int):(⟨s,p,0⟩:InS).fail e=⟨s,p,e⟩:=rfl
theorem zKV(x:PreS)(m:Int){i:InS}(h:i.err≠0):zKW x m i=i:=by
 unfold zKW;simp only[InS.fail_stuck_Pre6 h,ite_self]
theorem zMq(s:Bs)(pos:Nat)(hp:pos+61≤s.length):(⟨s,pos,0⟩:InS).pre=match zAR (s.drop pos)with| .ok x=>(x,⟨s,pos+61,0⟩)| .error e=>(PreS.zero,⟨s,pos+61,e⟩):=by
 have h1:=zQE zA0 s pos dD hp;have h2:zA0.sum=61:=rfl;rw[h2]at h1;unfold InS.pre;rw[h1];unfold zAR preX;rw[if_neg (by rw[Jf];omega)];obtain⟨x,m⟩:=zHp (zBX zA0 (s.drop pos));simp only[zKW]
 by_cases hm:m=2
 ·rw[if_pos hm,if_pos hm]
  by_cases hl:x.len<49
  ·rw[if_pos hl,if_pos hl,InS.fail_ok0,InS.fail_stuck_Pre6 (show(4:Int)≠0 by decide),ite_self,if_neg (show ¬(4:Int)=0 by decide)]
  ·rw[if_neg hl,if_neg hl]
   by_cases hc:x.count<0
   ·rw[if_pos hc,if_pos hc,InS.fail_ok0,if_neg (show ¬(10:Int)=0 by decide)]
   ·rw[if_neg hc,if_neg hc,if_pos rfl]
 ·have hs:∀e:Int,(⟨s,pos+61,6⟩:InS).fail e=⟨s,pos+61,6⟩:=fun e=>InS.fail_stuck_Pre6 (show(6:Int)≠0 by decide) e
  rw[if_neg hm,if_neg hm,InS.fail_ok0];simp only[hs,ite_self];rw[if_neg (show ¬(6:Int)=0 by decide)]
theorem zOH(s:Bs)(pos:Nat)(hp:pos≤s.length)(hs:s.length<pos+61):∃q,q≤s.length∧(⟨s,pos,0⟩:InS).pre=(PreS.zero,⟨s,q,1⟩):=by
 obtain⟨q,h1,h2⟩:=zIU zA0 s pos dD hp hs;refine⟨q,h1,?_⟩;unfold InS.pre;rw[h2,zKV _ _ (show(1:Int)≠0 by decide)];simp only;rw[if_neg dD]
theorem zMk{s:Bs}(h:s.length<61):zAR s=.error 1:=if_pos h
theorem zHC:∀(l:List Nat) (s:Bs) (n:Nat),l.sum≤n→zBX l (s.take n)=zBX l s
 |[],_,_,_=>rfl
 |k::t,s,n,h=>by
  rw[List.sum_cons]at h;unfold zBX;rw[List.take_take,Nat.min_eq_left oM,List.drop_take,zHC t (s.drop k) (n - k) oM]
theorem zBM(s:Bs)(h:61≤s.length):zAR (s.take 61)=zAR s:=by
 unfold zAR preX;rw[zHC zA0 s 61 dD,Jk,Nat.min_eq_left h,if_neg (show ¬61<61 by decide),if_neg (show ¬s.length<61 by omega)]
theorem zBZ(s:Bs)(h:s.length≤4): -2147483648≤sInt s∧sInt s<2147483648:=by
 rcases(by omega:s.length=0∨(1≤s.length∧s.length≤4))with h0|h0
 ·have:s=[]:=List.length_eq_zero_iff.1 h0;subst this
  decide
 ·have h1:=(zPM s s.length h0.1 oM rfl).2.2;rw[Int.toNat_natCast]at h1
  have h2:half s.length≤2147483648:=by
   rcases(by omega:s.length=1∨s.length=2∨s.length=3∨s.length=4)with h|h|h|h<;>rw[h]<;>decide
  omega
theorem zHn(s:Bs):preX s=(⟨sInt (s.take 8),sInt ((s.drop 8).take 4),sInt ((s.drop 12).take 4),sInt ((s.drop 17).take 4) % 4294967296,sInt ((s.drop 21).take 2),sInt ((s.drop 23).take 4),sInt ((s.drop 27).take 8),sInt ((s.drop 35).take 8),sInt ((s.drop 43).take 8),sInt ((s.drop 51).take 2),sInt ((s.drop 53).take 4),sInt ((s.drop 57).take 4)⟩,sInt ((s.drop 16).take 1)):=by
 unfold preX zA0;simp only[zBX,List.drop_drop,Nat.reduceAdd]
 rfl
theorem zNB(s:Bs): -2147483648≤(preX s).1.len∧(preX s).1.len<2147483648:=by
 rw[zHn];exact zBZ _ (by rw[Jk];omega)
def zK3 (s:Bs):Int×Int:=if s.length<61 then(0,0)else match zAR s with| .ok x=>(x.len+12,0)| .error e=>(0,e)
theorem zB5{s:Bs}{x:PreS}(h:zAR s=.ok x):61≤s.length∧(preX s).1=x∧(preX s).2=2∧49≤x.len∧0≤x.count:=by
 unfold zAR at h
 split at h
 ·cases h
 split at h
 ·split at h
  ·cases h
  ·split at h
   ·cases h
   ·cases h
    exact⟨oM,rfl,by assumption,oM,oM⟩
 ·cases h
theorem zDG{s:Bs}{e:Int}(h:zAR s=.error e):e≠0:=by
 unfold zAR at h
 split at h
 ·cases h;decide
 split at h
 ·split at h
  ·cases h;decide
  ·split at h
   ·cases h;decide
   ·cases h
 ·cases h;decide
theorem zBN(p:Nat)(i j:InS)(x:PreS)(hx:i.pre=(x,j))(h:St W0 w K (.inp p i::L)):
 Calls Jd 188 #[zAD p] w fun en w'=>en=Jb (.agg #[I O x.base,I O x.len,I O x.leader,I O x.sum,I O x.attr,I O x.last,I O x.first,I O x.maxt,I O x.prod,I O x.epoch,I O x.seq,I O x.count])∧St W0 w' K (.inp p j::L):=by
 have:=zMp p i h;rw[hx]at this;exact this
theorem zFz(s:Bs)(hs:s.length<61)(h:St W0 w K L):
 Calls Jd 166 #[Z (bb s)] w fun en w'=>en=Jb (.tuple #[I O 0,I O 0])∧St W0 w' K L:=by
 have hd:decide ((s.length:Int)<61)=true:=decide_eq_true oM;have H:=hQd h;clear h hs;go_enter Tryz.func166,Tryz.ntmps166;go_wp2;go_ret2;exact⟨rfl,H.out⟩
theorem zIg(s:Bs)(x:PreS)(j:InS)(h61:61≤s.length)(hl:s.length≤140737488355328)(hp:(⟨s.take 61,0,0⟩:InS).pre=(x,j))(hj:j.err=0)(hx: -2147483648≤x.len∧x.len<2147483648)(h:St W0 w K L):
 Calls Jd 166 #[Z (bb s)] w fun en w'=>en=Jb (.tuple #[I O (x.len+12),I O 0])∧St W0 w' K L:=by
 have hd:decide ((s.length:Int)<61)=false:=decide_eq_false oM;have H:=hQd h;have HP:=hQd hp;have HJ:=hQd hj;have HL:=hQd (show(s.take 61).length≤140737488355328 by rw[Jk];omega);obtain⟨b1,b2⟩:=hx;clear h hp hj hl;go_enter Tryz.func166,Tryz.ntmps166
 go_wp2_with (first
  |(go_at_call 156;refine(zEo _ HL.out H.out).mono ?_;rintro e wn ⟨bi,rfl,h⟩;replace H:=hQd h;clear h)
  |(go_at_call 188;(with_reducible refine(zBN _ _ j x HP.out H.out).zM ?_);clear H;intro wn H;replace H:=hQd (H.out.allocRaw #[I O x.base,I O x.len,I O x.leader,I O x.sum,I O x.attr,I O x.last,I O x.first,I O x.maxt,I O x.prod,I O x.epoch,I O x.seq,I O x.count] 130).p1)
  |(go_at_call 168;(with_reducible refine(zH3 _ _ H.out).mono ?_);(repeat first|rw[HJ.out]);rintro e wn ⟨rfl,h⟩;replace H:=hQd h;clear h;have y1:=H.out.p1.rawCell 1;simp at y1))
 go_ret2;exact⟨rfl,H.out.drop.drop⟩
theorem zHl(s:Bs)(x:PreS)(j:InS)(h61:61≤s.length)(hl:s.length≤140737488355328)(hp:(⟨s.take 61,0,0⟩:InS).pre=(x,j))(e:Int)(hj:j.err=e)(he:e≠0)(h:St W0 w K L):
 Calls Jd 166 #[Z (bb s)] w fun en w'=>en=Jb (.tuple #[I O 0,I O e])∧St W0 w' K L:=by
 have hd:decide ((s.length:Int)<61)=false:=decide_eq_false oM;have H:=hQd h;have HP:=hQd hp;have HJ:=hQd hj;have HL:=hQd (show(s.take 61).length≤140737488355328 by rw[Jk];omega);have heb:(e !=0)=true:=by rw[bne_iff_ne];exact he
 clear h hp hj hl he;go_enter Tryz.func166,Tryz.ntmps166
 go_wp2_with (first
  |(go_at_call 156;refine(zEo _ HL.out H.out).mono ?_;rintro e wn ⟨bi,rfl,h⟩;replace H:=hQd h;clear h)
  |(go_at_call 188;(with_reducible refine(zBN _ _ j x HP.out H.out).zM ?_);clear H;intro wn H;replace H:=hQd (H.out.allocRaw #[I O x.base,I O x.len,I O x.leader,I O x.sum,I O x.attr,I O x.last,I O x.first,I O x.maxt,I O x.prod,I O x.epoch,I O x.seq,I O x.count] 130).p1)
  |(go_at_call 168;(with_reducible refine(zH3 _ _ H.out).mono ?_);(repeat first|rw[HJ.out]);rintro e wn ⟨rfl,h⟩;replace H:=hQd h;clear h;have y1:=H.out.p1.rawCell 1;simp at y1))
 go_ret2;exact⟨rfl,H.out.drop.drop⟩
theorem zBq(s:Bs)(n e:Int)(hp:zK3 s=(n,e))(hl:s.length≤140737488355328)(h:St W0 w K L):
 Calls Jd 166 #[Z (bb s)] w fun en w'=>en=Jb (.tuple #[I O n,I O e])∧St W0 w' K L:=by
 unfold zK3 at hp
 by_cases h1:s.length<61
 ·rw[if_pos h1]at hp
  cases hp
  exact zFz s h1 h
 ·rw[if_neg h1]at hp;have h61:(s.take 61).length=61:=by rw[Jk];omega
  have hp2:=zMq (s.take 61) 0 oM;rw[List.drop_zero,zBM s oM]at hp2
  cases hr:zAR s with
  |ok x=>
   rw[hr]at hp hp2
   cases hp
   have hx:=zNB s;rw[(zB5 hr).2.1]at hx;exact zIg s x _ oM hl hp2 rfl hx h
  |error e'=>
   rw[hr]at hp hp2
   cases hp
   exact zHl s _ _ oM hl hp2 e rfl (zDG hr) h
def zBT (s:Bs):Except Int (BatS×Nat):=match zAR s with
  | .error e=> .error e
  | .ok x=>if s.length<61+(x.len - 49).toNat then .error 1 else match asmB x (s.take 61) ((s.drop 61).take (x.len - 49).toNat)with
    | .error e=> .error e
    | .ok b=> .ok (b,61+(x.len - 49).toNat)
theorem zBO{s:Bs}{x:PreS}(h:zAR s=.ok x):(-2147483648≤x.len∧x.len<2147483648)∧49≤x.len∧R64 x.attr∧0≤x.count∧x.count≤2147483647∧x.first≤9223372036854775807:=by
 obtain⟨h1,h2,_,h3,h4⟩:=zB5 h;have hl:=zNB s;rw[h2]at hl;rw[zHn]at h2;have h2:=h2.symm;subst h2;simp only at*;have a:=zCY ((s.drop 21).take 2) (by rw[Jk];omega);have b:=zCY ((s.drop 27).take 8) (by rw[Jk];omega);have c:=zBZ ((s.drop 57).take 4) (by rw[Jk];omega);exact⟨hl,h3,a,h4,oM,oM⟩
theorem zR6{s:Bs}{e:Int}(h:zBT s=.error e):e≠0:=by
 unfold zBT at h
 split at h
 ·rename_i f hp
  cases h
  exact zDG hp
 ·split at h
  ·cases h;decide
  ·split at h
   ·rename_i f ha
    cases h
    exact zKe ha
   ·cases h
theorem zDW{s:Bs}{b:BatS}{n:Nat}(h:zBT s=.ok (b,n)):∃x,zAR s=.ok x∧n=61+(x.len - 49).toNat∧n≤s.length∧asmB x (s.take 61) ((s.drop 61).take (x.len - 49).toNat)=.ok b:=by
 unfold zBT at h
 split at h
 ·cases h
 ·rename_i x hp
  split at h
  ·cases h
  ·split at h
   ·cases h
   ·rename_i c ha
    cases h
    exact⟨x,hp,rfl,oM,ha⟩
theorem zMo(o:Bs)(x:RecS)(h:zA8 x=0):(⟨o,0⟩:OutS).putRec x=⟨o++encR x,0⟩:=by
 unfold OutS.putRec;rw[if_pos h]
 rfl
theorem zJs:∀(l:List RecS),zCl l=0→∀x∈l,zA8 x=0
 |[],_,_,h=>by cases h
 |r::t,hh,x,hx=>by
  have hh:(if zA8 r=0 then zCl t else zA8 r)=0:=hh
  by_cases h1:zA8 r=0
  ·rw[if_pos h1]at hh
   rcases List.mem_cons.1 hx with rfl|hx
   ·exact h1
   ·exact zJs t hh x hx
  ·rw[if_neg h1]at hh;exact absurd hh h1
theorem zLq{l:List (RecS×Value)}(h:FitB l):(zA5 l).length≤40000000*l.length:=by
 have:∀(l:List (RecS×Value)),(∀x∈l,(encR x.1).length≤40000000)→(zA5 l).length≤40000000*l.length:=by
  intro l
  induction l with
  |nil=>intro _;simp[zA5]
  |cons x t ih=>
   intro hh;have h1:=ih (fun y hy=>hh y (by simp[hy]));have h2:=hh x sM;have e:zA5 (x::t)=encR x.1++zA5 t:=rfl;rw[e,Je,Jg]
   omega
 refine this l fun x hx=> ?_
 obtain⟨a,_,c⟩:=h x hx;have h1:=zFy x.1 a c;unfold encR encV;rw[Je];have h2:(putU (zBj (BlobS.len ⟨false,recF x.1⟩))).length≤10:=zCp _ (zCt (by simp[BlobS.len]<;>omega) (by simp[BlobS.len]<;>omega));simp only at*
 omega
theorem zKp(n:Int)(h:fits (zAE n) 4):zAE n % 4294967296=n:=by
 by_cases h0:n<0∨4294967295<n
 ·exact absurd h (zEm n h0)
 ·unfold zAE;rw[if_neg h0]
  split<;>omega
theorem zQm(x:PreS)(hf:FitsAll x.items):preX (zAj x.items)=(x,2):=by
 have h1:=zIV x.items [] hf;rw[List.append_nil]at h1;have h2:x.items.map (·.2)=zA0:=rfl;rw[h2]at h1;have h3:=zKp x.sum (hf (zAE x.sum,4) (by simp[PreS.items]));unfold preX;rw[h1];simp only[PreS.items,List.map_cons,List.map_nil,zHp,h3]
theorem zAY(x:PreS):(zAj x.items).length=61:=by rw[zB7];rfl
theorem zKN(x:PreS)(hf:FitsAll x.items)(hl:49≤x.len)(hc:0≤x.count)(t:Bs):zAR (zAj x.items++t)=.ok x:=by
 have h:=zBM (zAj x.items++t) (by rw[Je,zAY];omega);rw[List.take_left' (zAY x)]at h;rw[←h];unfold zAR;rw[zQm x hf,if_neg (by rw[zAY];omega),if_pos rfl,if_neg (by simp only;omega),if_neg (by simp only;omega)]
def BatS.rowsB (b:BatS):Bs:=b.recs.flatMap encR
def BatS.pre (b:BatS) (sum:Int):PreS:=⟨b.base,49+b.rowsB.length,b.leader,sum,zAI b.app b.txn b.ctl 3,b.last,b.first,b.maxt,b.prod,b.epoch,b.seq,b.recs.length⟩
def BatS.front (b:BatS) (sum:Int):Bs:=zAj [(b.base,8),(49+b.rowsB.length,4),(b.leader,4),(2,1),(zAE sum,4)]
def BatS.back (b:BatS):Bs:=zAj [(zAI b.app b.txn b.ctl 3,2),(b.last,4),(b.first,8),(b.maxt,8),(b.prod,8),(b.epoch,2),(b.seq,4),(b.recs.length,4)]
def BatS.crc (b:BatS):Nat:=(zAq 0#32 (b.back++b.rowsB)).toNat
def BatS.enc (b:BatS):Bs:=zAj (b.pre b.crc).items++b.rowsB
theorem BatS.pre_split(b:BatS)(s:Int):zAj (b.pre s).items=b.front s++b.back:=by
 have h:(b.pre s).items=[(b.base,8),(49+(b.rowsB.length:Int),4),(b.leader,4),(2,1),(zAE s,4)]++[(zAI b.app b.txn b.ctl 3,2),(b.last,4),(b.first,8),(b.maxt,8),(b.prod,8),(b.epoch,2),(b.seq,4),((b.recs.length:Int),4)]:=rfl;rw[h,zBA]
 rfl
theorem BatS.front_len(b:BatS)(s:Int):(b.front s).length=21:=by unfold BatS.front;rw[zB7];rfl
theorem BatS.pre_drop(b:BatS)(s:Int):(zAj (b.pre s).items).drop 21=b.back:=by rw[b.pre_split,List.drop_left' (b.front_len s)]
theorem BatS.crc_lt(b:BatS):b.crc<4294967296:=(zAq 0#32 (b.back++b.rowsB)).isLt
theorem zHH{n:Int}{k:Nat}(h1:1≤k)(h8:k≤8)(lo: -half k≤n)(hi:n<half k):fits n k:=by
 refine⟨oM,oM,?_,?_⟩<;>rw[Int.toNat_natCast]<;>assumption
theorem zB4{b:BatS}(h:zAh b=0):b.placed=true∧(b.ctl=true→b.txn=true)∧b.signed=true∧zCl b.recs=0:=by
 unfold zAh at h
 by_cases p1:b.placed=false
 ·rw[if_pos p1]at h;cases h
 rw[if_neg p1]at h
 by_cases p2:b.ctl=true∧b.txn=false
 ·rw[if_pos p2]at h;cases h
 rw[if_neg p2]at h
 by_cases p3:b.signed=false
 ·rw[if_pos p3]at h;cases h
 rw[if_neg p3]at h
 by_cases p4:b.ctl=true∧b.recs.length≠1
 ·rw[if_pos p4]at h;cases h
 rw[if_neg p4]at h
 by_cases p5:zCl b.recs≠0
 ·rw[if_pos p5]at h;exact absurd h p5
 refine⟨by simpa using p1,fun hc=> ?_,by simpa using p3,Classical.not_not.1 p5⟩
 cases ht:b.txn with
 |true=>rfl
 |false=>exact absurd ⟨hc,ht⟩ p2
theorem zN5{b:BatS}(h:b.signed=true): -1≤b.prod∧(-1≤b.epoch∧b.epoch≤32767)∧(-1≤b.seq∧b.seq≤2147483647):=by
 unfold BatS.signed at h
 by_cases p:b.prod= -1
 ·rw[if_pos p]at h;have:=of_decide_eq_true h
  omega
 rw[if_neg p]at h
 by_cases q:b.prod<0∨¬(0≤b.epoch∧b.epoch≤32767)
 ·rw[if_pos q]at h;cases h
 rw[if_neg q]at h
 cases hc:b.ctl with
 |true=>
  rw[hc]at h;have h:decide (b.seq= -1)=true:=h;have:=of_decide_eq_true h
  omega
 |false=>
  rw[hc]at h;have h:decide (0≤b.seq∧b.seq≤2147483647)=true:=h;have:=of_decide_eq_true h
  omega
theorem zF0(a t c:Bool):(0≤zAI a t c 3∧zAI a t c 3≤63)∧zAg (zAI a t c 3) 3=a∧zAg (zAI a t c 3) 4=t∧zAg (zAI a t c 3) 5=c∧((c=true→t=true)→chk (zAI a t c 3)=0):=by
 cases a<;>cases t<;>cases c<;>decide
theorem zq14{p:Prop}(h:p:=by exact zHH (by simp only;decide) (by simp only;decide) (by rw[h4];simp only;omega) (by rw[h4];simp only;omega)):p:=h
theorem zq18{p:Prop}(h:p:=by exact zHH (by simp only;decide) (by simp only;decide) (by rw[h8];simp only;omega) (by rw[h8];simp only;omega)):p:=h
theorem y5{p:Prop}(h:p:=by
  exact zHH (by simp only;decide) (by simp only;decide) (by rw[h2];simp only;omega) (by rw[h2];simp only;omega)):p:=h
theorem BatS.fitsAll{b:BatS}(h:zAh b=0)(hR:b.R)(s:Int)(hs:0≤s∧s≤4294967295)(hz:b.rowsB.length≤1000000)(hn:b.recs.length≤1000000):FitsAll (b.pre s).items:=by
 obtain⟨p1,p2,p3,p4⟩:=zB4 h;have q1:=of_decide_eq_true p1;obtain⟨q2,q3,q4⟩:=zN5 p3;obtain⟨r1,r2,r3,r4,r5,r6,r7,r8⟩:=hR;unfold Rn at r1 r2 r3 r4 r5 r6 r7 r8;have qa:=(zF0 b.app b.txn b.ctl).1;have h8:half 8=9223372036854775808:=by decide
 have h4:half 4=2147483648:=by decide
 have h2:half 2=32768:=by decide
 have h1:half 1=128:=by decide
 intro x hx;simp only[PreS.items,BatS.pre,List.mem_cons,List.not_mem_nil,or_false]at hx
 rcases hx with rfl|rfl|rfl|rfl|rfl|rfl|rfl|rfl|rfl|rfl|rfl|rfl|rfl
 ·exact zq18
 ·exact zq14
 ·exact zq14
 ·exact zHH (by simp only;decide) (by simp only;decide) (by rw[h1];simp only;omega) (by rw[h1];simp only;omega)
 ·exact zF1 s oM oM
 ·exact y5
 ·exact zq14
 ·exact zq18
 ·exact zq18
 ·exact zq18
 ·exact y5
 ·exact zq14
 ·exact zq14
theorem BatS.pre_R{b:BatS}(h:zAh b=0)(hR:b.R)(s:Int)(hs:0≤s∧s≤4294967295)(hz:b.rowsB.length≤1000000)(hn:b.recs.length≤1000000):(b.pre s).R:=by
 have qa:=(zF0 b.app b.txn b.ctl).1;obtain⟨r1,r2,r3,r4,r5,r6,r7,r8⟩:=hR;unfold Rn at r1 r2 r3 r4 r5 r6 r7 r8;intro n hn;simp only[PreS.list,BatS.pre,List.mem_cons,List.not_mem_nil,or_false]at hn
 rcases hn with rfl|rfl|rfl|rfl|rfl|rfl|rfl|rfl|rfl|rfl|rfl|rfl<;>omega
theorem zNb:∀(rs:List RecS) (rows:Bs) (pos:Nat),pos≤rows.length→rows.drop pos=rs.flatMap encR→(∀x∈rs,x.R∧zA8 x=0∧x.sum≤1000000)→unp rs.length ⟨rows,pos,0⟩=.ok rs
 |[],rows,pos,hp,hd,_=>by
  have hz:rows.length - pos=0:=by rw[←Jf,hd];rfl
  show(if (⟨rows,pos,0⟩:InS).left=0 then Except.ok []else Except.error (10:Int))=Except.ok []
  rw[if_pos (by simp only[InS.left];exact hz)]
 |x::t,rows,pos,hp,hd,hx=>by
  obtain⟨hR,ho,hs⟩:=hx x sM;rw[List.flatMap_cons]at hd;have hr:=zOu x hR ho hs (t.flatMap encR);rw[←hd]at hr;obtain⟨hpm,hf⟩:=zDH.ok rows pos x _ hp hr;have hpos:=(zEN hr).2.2.2.2.1
  show(if (⟨rows,pos,0⟩:InS).left=0 then Except.error (10:Int)else if (⟨rows,pos,0⟩:InS).record.2.err=0 then zE7 (⟨rows,pos,0⟩:InS).record.1 (unp t.length (⟨rows,pos,0⟩:InS).record.2)else Except.error (⟨rows,pos,0⟩:InS).record.2.err)=Except.ok (x::t)
  rw[if_neg (by simp only[InS.left];omega),hf];simp only[if_true];rw[zNb t rows _ hpm (by rw[←List.drop_drop,hd,List.drop_left]) (fun y hy=>hx y (by simp[hy]))]
  rfl
theorem zRB{b:BatS}(h:zAh b=0)(hf:∀x∈b.recs,x.R∧zA8 x=0∧x.sum≤1000000):asmB (b.pre b.crc) (zAj (b.pre b.crc).items) b.rowsB=.ok b:=by
 obtain⟨_,p2,_,_⟩:=zB4 h;obtain⟨_,a3,a4,a5,a6⟩:=zF0 b.app b.txn b.ctl;have hu:=zNb b.recs b.rowsB 0 (Ji _) rfl hf;unfold asmB;rw[b.pre_drop];have e1:((zAq 0#32 (b.back++b.rowsB)).toNat:Int)=(b.pre b.crc).sum:=rfl;have e2:(b.pre b.crc).attr=zAI b.app b.txn b.ctl 3:=rfl;have e3:(b.pre b.crc).count.toNat=b.recs.length:=rfl;rw[if_neg (fun hh=>hh e1),e2,if_neg (fun hh=>hh (a6 p2)),e3,hu];simp only[a3,a4,a5];obtain⟨base,leader,app,txn,ctl,last,first,maxt,prod,epoch,sq,rs⟩:=b;exact if_pos h
theorem zOw{b:BatS}(h:zAh b=0)(hR:b.R)(hf:∀x∈b.recs,x.R∧zA8 x=0∧x.sum≤1000000)(hz:b.rowsB.length≤1000000)(hn:b.recs.length≤1000000)(t:Bs):zBT (b.enc++t)=.ok (b,b.enc.length):=by
 have hc:=b.crc_lt;have hfa:=BatS.fitsAll h hR b.crc oM hz hn;have hp:=zKN (b.pre b.crc) hfa (show(49:Int)≤49+(b.rowsB.length:Int) by omega) (show(0:Int)≤(b.recs.length:Int) by omega) (b.rowsB++t);rw[←List.append_assoc]at hp;have hle:b.enc.length=61+b.rowsB.length:=by unfold BatS.enc;rw[Je,zAY]
 have hl:((b.pre b.crc).len - 49).toNat=b.rowsB.length:=by show((49+(b.rowsB.length:Int)) - 49).toNat=_;omega
 unfold zBT;have hp2:zAR (b.enc++t)=.ok (b.pre b.crc):=hp;rw[hp2];simp only;rw[hl,if_neg (by rw[Je,hle];omega)]
 have t1:(b.enc++t).take 61=zAj (b.pre b.crc).items:=by
  unfold BatS.enc;rw[List.append_assoc,List.take_left' (zAY _)]
 have t2:((b.enc++t).drop 61).take b.rowsB.length=b.rowsB:=by
  unfold BatS.enc;rw[List.append_assoc,List.drop_left' (zAY _),List.take_left]
 rw[t1,t2,zRB h hf];simp only;rw[hle]
def hexD (n:Nat):UInt8:=if n<10 then UInt8.ofNat (48+n)else UInt8.ofNat (87+n)
def hexL (s:Bs):Bs:=s.flatMap fun x=>[hexD (x.toNat / 16),hexD (x.toNat % 16)]
def hexW (s:Bs):Bs:=if s=[]then[45]else hexL s
def digB:Bs:=[48,49,50,51,52,53,54,55,56,57,97,98,99,100,101,102]
theorem zQM(s:Bs)(k:Nat)(hk:k<s.length)(x:UInt8)(hx:s[k]=x):hexL (s.take k)++[hexD (x.toNat / 16)]++[hexD (x.toNat % 16)]=hexL (s.take (k+1)):=by
 unfold hexL;rw[List.take_succ_eq_append_getElem hk,hx,List.flatMap_append]
 simp
theorem zGt(s:Bs):(hexL s).length=2*s.length:=by
 unfold hexL
 induction s with
 |nil=>rfl
 |cons a t ih=>rw[List.flatMap_cons,Je,ih];simp;omega
def digI (c:UInt8):Int:=Lib.indexByte digB c
theorem zSE:∀n:Fin 256,(digI (UInt8.ofNat n.1)= -1)∨(0≤digI (UInt8.ofNat n.1)∧digI (UInt8.ofNat n.1)<16∧hexD (digI (UInt8.ofNat n.1)).toNat=UInt8.ofNat n.1):=by decide+kernel
theorem zD7(c:UInt8):digI c= -1∨(0≤digI c∧digI c<16∧hexD (digI c).toNat=c):=by
 have h:=zSE ⟨c.toNat,c.toNat_lt⟩
 simpa using h
theorem zLw:∀n:Fin 16,digI (hexD n.1)=n.1:=by decide+kernel
def zCf:Bs→Option Bs
 |[]=>some []
 |[_]=>none
 |a::b::t=>if digI a= -1∨digI b= -1 then none else(zCf t).map (UInt8.ofNat (digI a*16+digI b).toNat:: ·)
def zJN (w:Bs):Option Bs:=if w=[45]then some []else if w=[]then none else zCf w
theorem zLg:∀w:Bs,w.length % 2≠0→zCf w=none
 |[],h=>absurd rfl h
 |[_],_=>rfl
 |a::b::t,h=>by
  unfold zCf
  by_cases hd:digI a= -1∨digI b= -1
  ·rw[if_pos hd]
  ·rw[if_neg hd,zLg t (by simp only[Jg]at h;omega)]
   rfl
theorem zIX:∀s:Bs,zCf (hexL s)=some s
 |[]=>rfl
 |x::t=>by
  have h1:=zLw ⟨x.toNat / 16,by have:=x.toNat_lt;omega⟩;have h2:=zLw ⟨x.toNat % 16,oM⟩;simp only at h1 h2;have e:hexL (x::t)=hexD (x.toNat / 16)::hexD (x.toNat % 16)::hexL t:=rfl;rw[e];unfold zCf;rw[h1,h2,if_neg oM,zIX t];have h3:((((x.toNat / 16:Nat):Int)*16+((x.toNat % 16:Nat):Int)).toNat)=x.toNat:=by omega
  simp only[Option.map_some];rw[h3,UInt8.ofNat_toNat]
theorem zHF:∀(w c:Bs),zCf w=some c→hexL c=w
 |[],c,h=>by unfold zCf at h;injection h with h;subst h;rfl
 |[_],c,h=>by unfold zCf at h;cases h
 |a::b::t,c,h=>by
  unfold zCf at h
  by_cases hd:digI a= -1∨digI b= -1
  ·rw[if_pos hd]at h;cases h
  ·rw[if_neg hd]at h
   cases ht:zCf t with
   |none=>rw[ht]at h;cases h
   |some d=>
    rw[ht]at h;injection h with h;subst h;have ih:=zHF t d ht
    rcases zD7 a with ha|⟨a1,a2,a3⟩
    ·exact absurd (.inl ha) hd
    rcases zD7 b with hb|⟨b1,b2,b3⟩
    ·exact absurd (.inr hb) hd
    have e:∀x:UInt8,hexL (x::d)=hexD (x.toNat / 16)::hexD (x.toNat % 16)::hexL d:=fun _=>rfl
    rw[e,ih];have h3:(UInt8.ofNat (digI a*16+digI b).toNat).toNat=(digI a*16+digI b).toNat:=by rw[UInt8.toNat_ofNat'];omega
    rw[h3,show(digI a*16+digI b).toNat / 16=(digI a).toNat by omega,show(digI a*16+digI b).toNat % 16=(digI b).toNat by omega,a3,b3]
theorem zIW(s:Bs):zJN (hexW s)=some s:=by
 unfold zJN hexW
 by_cases h:s=[]
 ·subst h;rfl
 ·rw[if_neg h];have h2:=zGt s;have h3:0<s.length:=List.length_pos_iff.2 h;rw[if_neg (fun e=>by rw[e]at h2;simp at h2;omega),if_neg (fun e=>by rw[e]at h2;simp at h2;omega),zIX]
theorem zQK{s c:Bs}(h:zJN s=some c):hexW c=s:=by
 unfold zJN at h
 by_cases h1:s=[45]
 ·rw[if_pos h1]at h;injection h with h;subst h h1;rfl
 ·rw[if_neg h1]at h
  by_cases h2:s=[]
  ·rw[if_pos h2]at h;cases h
  ·rw[if_neg h2]at h;have h3:=zHF s c h;unfold hexW;rw[if_neg (fun e=>by subst e;exact h2 h3.symm),h3]
theorem zOR(w d:Bs)(j:Nat)(hj:j+1<w.length)(h:zCf w=(zCf (w.drop j)).map (d++ ·))(ha:digI w[j]≠ -1)(hb:digI w[j+1]≠ -1):zCf w=(zCf (w.drop (j+2))).map ((d++[UInt8.ofNat (digI w[j]*16+digI w[j+1]).toNat])++ ·):=by
 rw[h,List.drop_eq_getElem_cons (by omega:j<w.length),List.drop_eq_getElem_cons hj]
 conv=>lhs;arg 2;unfold zCf
 rw[if_neg (by intro h;rcases h with h|h;exact ha h;exact hb h)]
 cases zCf (w.drop (j+1+1))with
 |none=>rfl
 |some t=>simp
theorem zQL(w d:Bs)(j:Nat)(hj:j+1<w.length)(h:zCf w=(zCf (w.drop j)).map (d++ ·))(hb:digI w[j]= -1∨digI w[j+1]= -1):zCf w=none:=by
 rw[h,List.drop_eq_getElem_cons (by omega:j<w.length),List.drop_eq_getElem_cons hj]
 conv=>lhs;arg 2;unfold zCf
 rw[if_pos hb]
 rfl
variable {W0 w:World}{K:Know}{L:List Res}
theorem zTh:(Tryz.prog.info? 80).map (·.size)=some 2:=by kernel_rfl
theorem zTi:liesAt Jd Tryz.prog.depth 80 (2 / Tryz.prog.cellsOf 80) 0 80 1=true:=by kernel_rfl
structure SbAt (w:World) (b:Nat) (p v:Value) (l:Bs):Prop where
 ptr:p=Jc none∨p=Jc (some ⟨b,0,none⟩)
 blk:w.heap[b]? =some (.cells #[p,v] 80 (0,0))
 row:w.ownsRow 0 5 1 v l.length (Lib.byteCells l)
 ne:v.ownBlock≠some b
def sbG (b:Nat) (l:Bs):Gen where
 p w S:=∃p v,SbAt w b p v l∧∀k,S k↔k=b∨v.ownBlock=some k
 keep w w' S h hs hk:=by
  obtain⟨p,v,⟨h1,h2,h3,h4⟩,h5⟩:=h;refine⟨p,v,⟨h1,(hk b (zA1 h2) ((h5 b).2 (.inl rfl))).trans h2,?_,h4⟩,h5⟩;exact(Res.keep (r:=.row v 5 1 l.length (Lib.byteCells l)) (w:=w) (w':=w') (S:=fun k=>v.ownBlock=some k) ⟨h3,fun k=>Iff.rfl⟩ hs (fun k hl hx=>hk k hl ((h5 k).2 (.inr hx)))).1
theorem St.sbOpen{b:Nat}{l:Bs}(h:St W0 w K (.gen (sbG b l)::L)):∃p v,(p=Jc none∨p=Jc (some ⟨b,0,none⟩))∧St W0 w K (.raw b #[p,v] 80::.row v 5 1 l.length (Lib.byteCells l)::L):=by
 obtain⟨a,S,F,⟨S1,S2,⟨p,v,⟨h1,h2,h3,h4⟩,h5⟩,hL,hd,he⟩,c⟩:=h;refine⟨p,v,h1,a,S,F,⟨fun k=>k=b,fun k=>v.ownBlock=some k∨S2 k,⟨h2,fun _=>Iff.rfl⟩,⟨fun k=>v.ownBlock=some k,S2,⟨h3,fun _=>Iff.rfl⟩,hL,fun k hk=>hd k ((h5 k).2 (.inr hk)),fun _=>Iff.rfl⟩,?_,fun k=> ?_⟩,c⟩
 ·rintro k rfl (hk|hk)
  ·exact h4 hk
  ·exact hd k ((h5 k).2 (.inl rfl)) hk
 ·rw[he,h5,or_assoc]
theorem St.sbShut{b:Nat}{p v:Value}{l:Bs}{n:Nat}{cs:List Value}(hp:p=Jc none∨p=Jc (some ⟨b,0,none⟩))(hn:n=l.length)(hc:cs=Lib.byteCells l)(h:St W0 w K (.raw b #[p,v] 80::.row v 5 1 n cs::L)):St W0 w K (.gen (sbG b l)::L):=by
 subst hn hc;obtain⟨a,S,F,⟨S1,S2,⟨h2,e1⟩,⟨S3,S4,⟨h3,e3⟩,hL,d2,e2⟩,d1,e⟩,c⟩:=h;refine⟨a,S,F,⟨fun k=>S1 k∨S3 k,S4,⟨p,v,⟨hp,h2,h3,fun h=>d1 b ((e1 b).2 rfl) ((e2 b).2 (.inl ((e3 b).2 h)))⟩,fun k=>by show S1 k∨S3 k↔_;rw[e1,e3]⟩,hL,?_,fun k=> ?_⟩,c⟩
 ·rintro k (hk|hk) h4
  ·exact d1 k hk ((e2 k).2 (.inr h4))
  ·exact d2 k hk h4
 ·rw[e,e2,or_assoc]
theorem St.sbNew(h:St W0 w K L):St W0 (w.alloc (.cells #[Jc none,Ja none 0 0] 80 (0,0))) K (.gen (sbG w.heap.size [])::L):=
 St.sbShut (.inl rfl) rfl rfl (((h.allocRaw #[Jc none,Ja none 0 0] 80).nilRow 5 1).p1)
theorem zNn(b:Nat)(p v:Value)(hp:p=Jc none∨p=Jc (some ⟨b,0,none⟩))(h:St W0 w K (.raw b #[p,v] 80::L)):
 Calls Jd 84 #[Jc (some ⟨b,0,none⟩)] w fun en w'=>en=Jb (.tuple #[])∧St W0 w' K (.raw b #[Jc (some ⟨b,0,none⟩),v] 80::L):=by
 obtain⟨j,hj,hjs⟩:=Option.map_eq_some_iff.1 zTh
 rcases hp with rfl|rfl
 ·have hsh:w.shape? b=some (80,2):=by have h9:=h.rawGet;simp[World.shape?,h9]
  obtain⟨c0,c1⟩:=uR2 ((h));simp at c0 c1;obtain⟨r0,r1⟩:=uS2 ((h));have H:=hQd h;clear h;go_enter Tryz.func84,Tryz.ntmps84;go_wp2;rw[Lib.run_to_unsafe w ⟨b,0,none⟩ Tryz.underlying78 Tryz.underlying167 hj (by rw[hjs];decide) hsh (Nat.zero_lt_succ 1)];simp only[Result.andThen];rw[Oper.upon_value];go_wp2;rw[run_callFunc_extern Tryz.func118 kR kR kR (e:=Extern.AbiNoEscape.same) kR];rw[Lib.run_noEscape];simp only[Result.andThen];rw[Oper.upon_value];go_wp2;rw[Lib.run_from_unsafe w ⟨b,0,none⟩ Tryz.underlying167 Tryz.underlying78 hj hsh zTi];simp only[Result.andThen];rw[Oper.upon_value];go_wp2;go_end0;exact⟨rfl,H.out.rawSet 0 _⟩
 ·obtain⟨c0,c1⟩:=uR2 ((h));simp at c0 c1;obtain⟨r0,r1⟩:=uS2 ((h));have H:=hQd h;clear h;go_enter Tryz.func84,Tryz.ntmps84;go_wp2;rw[Lib.run_neq_ptr_same w _ Tryz.underlying78 hj];go_wp2;go_end0;exact⟨rfl,H.out⟩
theorem zIl(l:Bs)(x:UInt8):Lib.byteCells l++[.int .u8 x.toNat]=Lib.byteCells (l++[x]):=by simp[Lib.byteCells]
theorem zJ4(l:Bs)(s:Bs):Lib.byteCells l++Lib.strCells (bb s)=Lib.byteCells (l++s):=by simp[Lib.byteCells,Lib.strCells]
theorem zLX{ops:Array Oper}{rest:List Oper}{o:Oper}{a:Act}{Q:Exit→Act→World→Prop}(hgd:o.guard=none)(sl x:Operand)(t u:TypeId)
 (ho:o.op=.call {callee:=.builtin .append,args:= #[sl,x],argTypes:= #[t,u]})(ht:Tryz.prog.underlying t=some (.slice 5))(hu:Tryz.prog.underlying u=some .string)
 (v:Value)(n:Nat)(xs:List Value)(hs:a.eval sl=v)(hst:St W0 w K (.row v 5 1 n xs::L))(s:ByteArray)(hx:a.eval x=Z s)(hbytes:n+s.size≤140737488355328)
 (h:∀v' w',St W0 w' K (.row v' 5 1 (n+s.size) (xs++Lib.strCells s)::L)→wpList Jd ops Q rest (a.put o.dst v') w'):wpList Jd ops Q (o::rest) a w:=by
 obtain⟨⟨i,g1,g2,g3,g4⟩,g5,g6⟩:=zJU;exact zEj hgd sl x t u ho 5 i ht hu g1 g2 g3 g4 v n xs hs hst.rowGet s hx hbytes fun v' w' k1 k2 k3=>h v' w' (hst.rowGrown k1 k2 k3)
theorem zTj(b:Nat)(l:Bs)(x:UInt8)(hl:l.length≤1000000000000)(h:St W0 w K (.gen (sbG b l)::L)):
 Calls Jd 46 #[Jc (some ⟨b,0,none⟩),.int .u8 x.toNat] w fun en w'=>en=Jb .nilIface∧St W0 w' K (.gen (sbG b (l++[x]))::L):=by
 obtain⟨p,v,hp,h⟩:=h.sbOpen;obtain⟨qv,cv,hv⟩:=h.p1.rowAny;subst hv;obtain⟨c0,c1⟩:=uR2 ((h));simp at c0 c1;obtain⟨r0,r1⟩:=uS2 ((h));have H:=hQd h;have HP:=hQd hp;have HL:=hQd hl;clear h hp hl;go_enter Tryz.func46,Tryz.ntmps46
 go_wp2_with (first
  |(go_at_call 84;(try clear c0 c1 r0 r1);(with_reducible refine(zNn b p _ HP.out H.out).mono ?_);rintro e_ wn ⟨rfl,h⟩;obtain⟨c0,c1⟩:=uR2 ((h));simp at c0 c1;obtain⟨r0,r1⟩:=uS2 ((h));have h:=h.p1;replace H:=hQd h;clear h)
  |(at_builtin;refine zAC rfl _ _ 57 rfl 5 Tryz.underlying57 zJU _ _ _ rfl H.out [.int .u8 x.toNat] 5 (by first|rfl|(rw[World.size_alloc];rfl)) rfl (by simp[Value.oneCell'];done) (by have:=HL.out;unfold maxLen;omega) (by have:=HL.out;omega) ?_;intro v' w' h;obtain⟨qw,cw,hw⟩:=h.rowAny;subst hw;have h:=h.p1;obtain⟨c0,c1⟩:=uR2 ((h));simp at c0 c1;obtain⟨r0,r1⟩:=uS2 ((h));replace H:=hQd h;clear h))
 go_ret;exact⟨rfl,St.sbShut (.inr rfl) sM (zIl l x) (H.out.rawSet 1 _)⟩
theorem zPI(b:Nat)(l s:Bs)(hl:l.length+s.length≤1000000000000)(h:St W0 w K (.gen (sbG b l)::L)):
 Calls Jd 76 #[Jc (some ⟨b,0,none⟩),Z (bb s)] w fun en w'=>en=Jb (.tuple #[I O s.length,.nilIface])∧St W0 w' K (.gen (sbG b (l++s))::L):=by
 obtain⟨p,v,hp,h⟩:=h.sbOpen;obtain⟨qv,cv,hv⟩:=h.p1.rowAny;subst hv;obtain⟨c0,c1⟩:=uR2 ((h));simp at c0 c1;obtain⟨r0,r1⟩:=uS2 ((h));have H:=hQd h;have HP:=hQd hp;have HL:=hQd hl;clear h hp hl;go_enter Tryz.func76,Tryz.ntmps76
 go_wp2_with (first
  |(go_at_call 84;(try clear c0 c1 r0 r1);(with_reducible refine(zNn b p _ HP.out H.out).mono ?_);rintro e_ wn ⟨rfl,h⟩;obtain⟨c0,c1⟩:=uR2 ((h));simp at c0 c1;obtain⟨r0,r1⟩:=uS2 ((h));have h:=h.p1;replace H:=hQd h;clear h)
  |(at_builtin;refine zLX rfl _ _ 57 9 rfl Tryz.underlying57 Tryz.underlying9 _ _ _ rfl H.out (bb s) rfl (by have h8:=HL.out;have h9:(bb s).size=s.length:=sM;omega) ?_;intro v' w' h;obtain⟨qw,cw,hw⟩:=h.rowAny;subst hw;have h:=h.p1;obtain⟨c0,c1⟩:=uR2 ((h));simp at c0 c1;obtain⟨r0,r1⟩:=uS2 ((h));replace H:=hQd h;clear h))
 go_ret2;exact⟨by simp,St.sbShut (.inr rfl) sM (zJ4 l s) (H.out.rawSet 1 _)⟩
theorem zLe(w:World)(g n:Nat):Keeps (· =g) w (w.freeze ⟨g,0,none⟩ n):=by
 unfold World.freeze
 split
 ·exact Keeps.refl _ _
 ·refine⟨rfl,rfl,rfl,by simp,fun k hk hne=> ?_⟩;simp only[Array.getElem?_modify];rw[if_neg (fun e=>hne e.symm)]
theorem St.gone{w':World}{r:Res}(h:St W0 w K (r::L))(hr:∀S1,r.holds w S1→Keeps S1 w w'):St W0 w' K L:=
 St.drop (r:=.gen ⟨fun _ S=>∀k,¬S k,fun _ _ _ h _ _=>h⟩) (h.step fun S1 h1=>⟨fun _=>False,fun _ h=>h,hr S1 h1,fun _ h=>h.elim⟩)
theorem zPH(b:Nat)(l:Bs)(h0:l≠[])(h:St W0 w K (.gen (sbG b l)::L)):
 Calls Jd 47 #[Jc (some ⟨b,0,none⟩)] w fun en w'=>en=Jb (Z (bb l))∧St W0 w' K L:=by
 obtain⟨p,v,hp,h⟩:=h.sbOpen;have hl:0<l.length:=List.length_pos_iff.2 h0;obtain⟨g,cap,hv⟩:=h.p1.rowSlice hl;subst hv;have h1:=h.drew;obtain⟨c0,c1⟩:=uR2 ((h1));simp at c0 c1
 obtain⟨hlc,hcap,cur,hg⟩:l.length≤cap∧cap≤maxLen∧∃cur,w.heap[g]? =some (.cells cur 5 (0,0))∧cur.size=cap:=by
  rcases h.p1.rowGet.2 with ⟨h2,_⟩|⟨g2,cap2,cur,h2,_,h3,h4,h5,h6,_⟩
  ·cases h2
  ·injection h2 with e1 e2 e3;injection e1 with e1;injection e1 with e1;subst e1 e3;exact⟨h4,h5,cur,h3,oM⟩
 have hSD:(Builtin.unsafeSliceData_ #[57] 127 #[Ja (some ⟨g,0,none⟩) l.length cap]).run Jd w.drew=.ok (Jc (some ⟨g,0,none⟩)) w.drew:=
  Lib.run_unsafeSliceData_row _ _ _ _ _ _ oM
 have hUS:(Builtin.unsafeString_ #[127,3] 9 #[Jc (some ⟨g,0,none⟩),I O l.length]).run Jd w.drew=.ok (Z (bb l)) (w.drew.freeze ⟨g,0,none⟩ l.length):=by
  refine Lib.run_unsafeString_row w.drew 127 3 9 5 Tryz.underlying127 kR g cur.size (by have hg':w.drew.heap[g]? =some (.cells cur 5 (0,0)):=hg.1;simp[World.shape?,hg']) l h0 oM (by unfold maxLen at hcap;omega) ?_;intro j x hx;exact h1.p1.rowGet.cells (g:=g) rfl j (.int .u8 x.toNat) (by simp[Lib.byteCells,hx])
 have hz:St W0 (w.drew.freeze ⟨g,0,none⟩ l.length) K L:=(h1.p1.gone fun S1 hr=>(zLe _ g _).mono (fun k _ hk=>by rw[hk];exact(hr.2 g).2 rfl)).drop;have H:=hQd hz;clear h h1 hz hp hg;go_enter Tryz.func47,Tryz.ntmps47;go_wp2
 go_region
 go_wp2;go_ret;exact⟨rfl,H.out⟩
theorem zB6{P:Program}{o:Oper}{a:Act}{w w':World}{v:Value}{KK:Act→World→Prop}{Q:Exit→Act→World→Prop}(hr:(execOp a.eval o).run P w=.ok (.value v) w')(h:KK (a.put o.dst v) w'):o.wp P a w KK Q:=by
 unfold Oper.wp;rw[hr];exact h
theorem zMu{o:Oper}{a:Act}{KK:Act→World→Prop}{Q:Exit→Act→World→Prop}(sl x:Operand)(t:TypeId)
 (ho:o.op=.call {callee:=.builtin .append,args:= #[sl,x],argTypes:= #[t,t]})
 (e:TypeId){z:Value}{size bytes:Nat}(ht:Tryz.prog.underlying t=some (.slice e))(he:zEg Jd e z size bytes)
 (v:Value)(n:Nat)(xs:List Value)(hs:a.eval sl=v)(bS:Nat)(cs:Array Value)(T:TypeId)(hst:St W0 w K (.raw bS cs T::.row v e size n xs::L))
 (hx:a.eval x=Ja (some ⟨bS,0,none⟩) 1 1)(hl:cs.toList.length=size)(h1:∀u∈cs.toList,u.oneCell'=true)
 (h63:n+1≤maxLen)(hbytes:(n+1)*bytes≤140737488355328)
 (h:∀v' w',St W0 w' K (.row v' e size (n+1) (xs++cs.toList)::L)→KK (a.put o.dst v') w'):o.wp Jd a w KK Q:=by
 have hc:=hst.rawCell;have hst2:=hst.p1;obtain⟨⟨i,g1,g2,g3,g4⟩,g5,g6⟩:=he
 obtain⟨v',w',hr,h2,h3,h4⟩:=zM4 (P:=Jd) w t o.type e i z size bytes ht g1 g2 g3 g4 g5 g6 v n xs hst2.rowGet ⟨bS,0,none⟩ 1 1 cs.toList oM (fun j u hj=>by
  have ha:(⟨bS,0,none⟩:Addr).add j=⟨bS,j,none⟩:=by unfold Addr.add;split<;>simp_all
  rw[ha,hc j]
  simpa using hj) h1 h63 hbytes
 unfold Oper.wp execOp;simp only[ho,resolve,invoke,builtin,Sem.run_bind,Sem.run_pure,Result.andThen_ok,List.map_toArray,List.map_cons,List.map_nil,hs,hx,hr];exact h v' w' (hst2.rowGrown h2 h3 h4).p1.drop
theorem zHx{P:Program}{o:Oper}{a:Act}{w w':World}{KK:Act→World→Prop}{Q:Exit→Act→World→Prop}(hr:(execOp a.eval o).run P w=.ok .skip w')(h:KK (a.put o.dst undef) w'):o.wp P a w KK Q:=by
 unfold Oper.wp;rw[hr];exact h
theorem St.setEx{b:Nat}{c:Array Value}{T:TypeId}(h:St W0 w K (.raw b c T::L))(j:Nat)(v:Value):∃wz,w.setCell ⟨b,j,none⟩ v=wz∧St W0 wz K (.raw b (c.setIfInBounds j v) T::L):=⟨_,rfl,h.rawSet j v⟩
variable {W0 w:World}{K:Know}{L:List Res}
theorem zTP{o:Oper}{a:Act}{KK:Act→World→Prop}{Q:Exit→Act→World→Prop}(sl x:Operand)(t:TypeId)
 (ho:o.op=.call {callee:=.builtin .append,args:= #[sl,x],argTypes:= #[t,t]})
 (e:TypeId){z:Value}{size bytes:Nat}(ht:Tryz.prog.underlying t=some (.slice e))(he:zEg Jd e z size bytes)
 (v:Value)(n:Nat)(xs:List Value)(hs:a.eval sl=v)(bS m:Nat)(cs:Array Value)(T:TypeId)(hst:St W0 w K (.raw bS cs T::.row v e size n xs::L))
 (hx:a.eval x=Ja (some ⟨bS,0,none⟩) m m)(hl:cs.toList.length=m*size)(h1:∀u∈cs.toList,u.oneCell'=true)
 (h63:n+m≤maxLen)(hbytes:(n+m)*bytes≤140737488355328)
 (h:∀v' w',St W0 w' K (.row v' e size (n+m) (xs++cs.toList)::L)→KK (a.put o.dst v') w'):o.wp Jd a w KK Q:=by
 have hc:=hst.rawCell;have hst2:=hst.p1;obtain⟨⟨i,g1,g2,g3,g4⟩,g5,g6⟩:=he
 obtain⟨v',w',hr,h2,h3,h4⟩:=zM4 (P:=Jd) w t o.type e i z size bytes ht g1 g2 g3 g4 g5 g6 v n xs hst2.rowGet ⟨bS,0,none⟩ m m cs.toList hl (fun j u hj=>by
  have ha:(⟨bS,0,none⟩:Addr).add j=⟨bS,j,none⟩:=by unfold Addr.add;split<;>simp_all
  rw[ha,hc j]
  simpa using hj) h1 h63 hbytes
 unfold Oper.wp execOp;simp only[ho,resolve,invoke,builtin,Sem.run_bind,Sem.run_pure,Result.andThen_ok,List.map_toArray,List.map_cons,List.map_nil,hs,hx,hr];exact h v' w' (hst2.rowGrown h2 h3 h4).p1.drop
theorem build2(a b:Int)(w:World):(Instr.buildSlice 57 2 #[(0,.int .u8 a),(1,.int .u8 b)]).run Jd w=.ok (Ja (some ⟨w.heap.size,0,none⟩) 2 2) (w.alloc (.cells #[.int .u8 a,.int .u8 b] 5 (0,0))):=by go_simp
theorem zME{o:Oper}{ρ:Operand→Value}(ps:Array (Nat×Value))(v:Value)(w w':World)(ho:execOp ρ o=(do pure (Next.value (←Instr.buildSlice 57 2 ps))))(hb:(Instr.buildSlice 57 2 ps).run Jd w=.ok v w'):(execOp ρ o).run Jd w=.ok (.value v) w':=by
 rw[ho];simp[hb,Result.andThen]
theorem zRV(n:Nat)(hn:n<16)(h:St W0 w K L):
 Calls Jd 44 #[I O n] w fun en w'=>en=Jb (.int .u8 (hexD n).toNat)∧St W0 w' K L:=by
 have H:=hQd h;have hn1:(n:Int)<16:=by omega
 have HE:=hQd (show(hexD n).toNat=if n<10 then 48+n else 87+n by unfold hexD;split<;>(rw[UInt8.toNat_ofNat'];omega));clear h hn
 by_cases h1:n<10
 ·have h2:(n:Int)<10:=by omega
  have h3:decide ((n:Int)<10)=true:=decide_eq_true h2;rw[if_pos h1]at HE;have h4:(48+(n:Int)) % 256=(((hexD n).toNat:Nat):Int):=by rw[HE.out];omega
  clear h1;go_enter Tryz.func44,Tryz.ntmps44;go_wp2;go_ret;exact⟨by rw[HE.out];rfl,H.out⟩
 ·have h2:¬(n:Int)<10:=by omega
  have h3:decide ((n:Int)<10)=false:=decide_eq_false h2;rw[if_neg h1]at HE;clear h1;go_enter Tryz.func44,Tryz.ntmps44;go_wp2;go_ret;have e9:(97+(n:Int) - 10)=((87+n:Nat):Int):=by omega
  exact⟨by rw[HE.out,←e9];rfl,H.out⟩
theorem zKw(v:Int)(n:Nat)(d:UInt8)(hv:v=n)(hn:n<16)(hd:hexD n=d)(h:St W0 w K L):
 Calls Jd 44 #[I O v] w fun en w'=>en=Jb (.int .u8 d.toNat)∧St W0 w' K L:=by
 subst hv hd;exact zRV n hn h
theorem wrap_i64(x:Int)(h0: -9223372036854775808≤x)(h1:x<9223372036854775808):IntKind.i64.wrap x=x:=IntWalk.i64_in _ oM
theorem nib1(x:UInt8):IntKind.i64.wrap ((IntKind.i64.wrap ((x.toNat:Nat):Int)).tdiv 16)=((x.toNat / 16:Nat):Int):=by
 have hx:=x.toNat_lt;rw[wrap_i64 ((x.toNat:Nat):Int) oM oM,Int.tdiv_eq_ediv_of_nonneg oM,wrap_i64 _ oM oM]
 rfl
theorem nib2(x:UInt8):(IntKind.i64.wrap ((x.toNat:Nat):Int)).tmod 16=((x.toNat % 16:Nat):Int):=by
 have hx:=x.toNat_lt;rw[wrap_i64 ((x.toNat:Nat):Int) oM oM,Int.tmod_eq_emod_of_nonneg oM]
 rfl
theorem zSZ(s:Bs)(hs:s.length≤1000000){W0 w:World}{K:Know}{L:List Res}(h:St W0 w K L):
 Calls Jd 17 #[Z (bb s)] w fun en w'=>en=Jb (Z (bb (hexW s)))∧St W0 w' K L:=by
 by_cases h0:s=[]
 ·subst h0;have H:=hQd h;clear h;go_enter Tryz.func17,Tryz.ntmps17;go_wp2;go_ret;exact⟨rfl,H.out⟩
 have hw:hexW s=hexL s:=by unfold hexW;rw[if_neg h0]
 rw[hw];have q3:(s==[])=false:=by rw[beq_eq_false_iff_ne];exact h0
 have q4:(s !=[])=true:=by simp[bne,q3]
 have hsl:(s.length:Int)≤1000000:=by omega
 have g1:=h.rowLit [] 5 1 0 sM (Ji _);have H:=hQd g1;have HS:=hQd hs;clear h g1 hs h0 hw;go_enter Tryz.func17,Tryz.ntmps17;go_wp2_with fail;go_loopw [3,4] (fun ov iv wr=>∃(k cp:Nat) (q:Option Addr),k≤s.length∧iv=I O k∧ov=Ja q (2*k) cp∧St W0 wr K (.row (Ja q (2*k) cp) 5 1 (2*k) (zAu (hexL (s.take k)))::L)) (fun _ iv _=>s.length - (intOf iv).toNat)
 case atStart=>exact⟨0,0,_,Ji _,rfl,rfl,H.out⟩
 case round=>
  obtain⟨k,cp,q,hk,rfl,rfl,hst⟩:=hrel;clear H;have H:=hQd hst;clear hst
  by_cases hlt:k<s.length
  ·have hlti:(k:Int)<(s.length:Int):=by omega
   have hx:=(s[k]'hlt).toNat_lt;have HQ1:=hQd (show(s[k]'hlt).toNat / 16<16 by omega);have HQ2:=hQd (show(s[k]'hlt).toNat % 16<16 by omega);have HV1:=hQd (nib1 (s[k]'hlt));have HV2:=hQd (nib2 (s[k]'hlt));obtain⟨d1,hd1⟩:=eX (hexD ((s[k]'hlt).toNat / 16));obtain⟨d2,hd2⟩:=eX (hexD ((s[k]'hlt).toNat % 16));have HD1:=hQd hd1;have HD2:=hQd hd2;have HTK:=hQd (show zAu (hexL (s.take k))++[.int .u8 d1.toNat,.int .u8 d2.toNat]=zAu (hexL (s.take (k+1))) by rw[←zQM s k hlt _ rfl,hd1,hd2];simp[zAu]);clear hx hd1 hd2;go_upto_region 7 with fail;have hs:=H.out.drew;clear H;refine wp_region_held_drew (S:=fun _=>True) kR trivial (fun hHeld=> ?_);refine tR 0 ?_;refine tR 1 ?_;refine tR 2 ?_;refine tR 3 ?_;refine tR 4 ?_;refine tR 5 ?_;refine tR 7 ?_;refine tR 8 ?_;refine tR 9 ?_;refine tR 10 ?_;refine tR 11 ?_;refine wR [6] (rC rfl (fun KK hK=> ?_) rN);go_simp;go_at_call 44;with_reducible refine(zKw _ _ d1 ?_ HQ1.out HD1.out hs).mono ?_
   ·exact HV1.out
   rintro e wq ⟨rfl,hs⟩;refine zK hK (trivial) (fun hHeld=> ?_);clear hK KK
   refine wR [12] (rC rfl (fun KK hK=> ?_) rN);go_simp;go_at_call 44;with_reducible refine(zKw _ _ d2 ?_ HQ2.out HD2.out hs).mono ?_
   ·exact HV2.out
   rintro e wq ⟨rfl,hs⟩;refine zK hK (trivial) (fun hHeld=> ?_);clear hK KK
   refine wR [13] (rC rfl (fun KK hK=> ?_) rN);rw[if_pos (by rfl)];refine zB6 (zME _ _ _ _ kR (build2 d1.toNat d2.toNat wq)) ?_;obtain⟨wy,b2,ey,eb,hs⟩:=hs.allocEx #[.int .u8 d1.toNat,.int .u8 d2.toNat] 5;rw[ey,eb];clear ey eb;refine zK hK (trivial) (fun hHeld=> ?_);clear hK KK
   refine wR [14] (rC rfl (fun KK hK=> ?_) rN);rw[if_pos (by rfl)];refine zTP (.tmp 14) (.tmp 27) 57 rfl 5 Tryz.underlying57 zJU _ _ _ (by rfl) b2 2 _ 5 hs (by rfl) rfl (by simp[Value.oneCell']) (by have:=HS.out;unfold maxLen;omega) (by have:=HS.out;omega) (fun v' w' h=> ?_);have hs:=h;clear h;obtain⟨qv,cv,hv⟩:=hs.rowAny;subst hv;refine zK hK (trivial) (fun hHeld=> ?_);clear hK KK
   refine tR 15 ?_;refine wpAnyH_done kR ?_ _;clear hHeld;have H:=hQd (show St W0 w' K (.row (Ja qv (2*(k+1)) cv) 5 1 (2*(k+1)) (zAu (hexL (s.take (k+1))))::L) by rw[←HTK.out];exact hs);clear hs;go_wp2_with fail;go_roundw
   case rel=>exact⟨k+1,cv,qv,hlt,by go_num,rfl,H.out⟩
   case measure=>first|(simp[intOf];done)|(simp[intOf];omega)
  ·obtain rfl:k=s.length:=by omega
   have hz:St W0 wr K (.row (Ja q (2*s.length) cp) 5 1 (2*s.length) (zAu (hexL s))::L):=by have h9:=H.out;rw[List.take_length]at h9;exact h9
   have hcv:=hz.rowText (by rw[zGt]);have H2:=hQd hz;clear H hz;go_wp2_with fail;go_ret;exact⟨rfl,H2.out.drop⟩
def FitW (l:List (RecS×Value)):Prop:=∀x∈l,x.1.R∧x.1.hdrs.length≤9223372036854775807∧HFit x.1.hdrs∧x.1.key.data.length≤140737488351232∧x.1.val.data.length≤140737488351232
def hAll:List HdrS→Bool
 |[]=>true
 |h::t=>decide (h.key.length+h.val.data.length≤100) && hAll t
def zBt (x:RecS):Bool:=decide (x.key.data.length+x.val.data.length≤100) && (decide (x.hdrs.length≤6) && hAll x.hdrs)
def rAll:List RecS→Bool
 |[]=>true
 |r::t=>zBt r && rAll t
def zBb (l:List RecS):Bool:=decide (l.length≤12) && rAll l
theorem zJO:∀(l:List HdrS),hAll l=true→hsum l≤101*l.length
 |[],_=>by simp[hsum]
 |h::t,hh=>by
  simp only[hAll,Bool.and_eq_true,decide_eq_true_eq]at hh;have:=zJO t hh.2;simp only[hsum,Jg,List.map_cons,List.sum_cons]at*
  omega
theorem zDj:∀(l:List RecS),rAll l=true→∀x∈l,zBt x=true
 |[],_,_,h=>by cases h
 |r::t,hh,x,hx=>by
  simp only[rAll,Bool.and_eq_true]at hh
  rcases List.mem_cons.1 hx with rfl|hx
  ·exact hh.1
  ·exact zDj t hh.2 x hx
theorem zF4{x:RecS}(h:zBt x=true):x.sum≤1000:=by
 unfold zBt at h;simp only[Bool.and_eq_true,decide_eq_true_eq]at h;have:=zJO _ h.2.2;unfold RecS.sum
 omega
theorem FitW.fit{l:List (RecS×Value)}(h:FitW l)(hs:zBb (l.map (·.1))=true):FitB l:=by
 intro x hx;unfold zBb at hs;simp only[Bool.and_eq_true]at hs;have h1:=zF4 (zDj _ hs.2 x.1 (List.mem_map.2 ⟨x,hx,rfl⟩));obtain⟨a,b,c,_⟩:=h x hx;exact⟨a,c,oM⟩
theorem zDV{l:List (RecS×Value)}(hs:zBb (l.map (·.1))=true):l.length≤12:=by
 unfold zBb at hs;simp only[Bool.and_eq_true,decide_eq_true_eq,Jn]at hs;exact hs.1
theorem zQ9(l:List HdrS)(k:Nat)(h:k<l.length):l.drop k=l[k]::l.drop (k+1):=List.drop_eq_getElem_cons h
theorem zGT(base leader:Int)(app txn ctl:Bool)(last first maxt prod epoch sq:Int)(l:List (RecS×Value))(q:Option Addr)(cap:Nat)(G:Int)(hG:zDE first last (l.map (·.1)) (-1) first=.ok G)(hf:0≤first∧first≤9223372036854775807)(hfit:FitB l)(hll:l.length≤1000000){W0 w:World}{K:Know}{L:List Res}(hk:K.has (Know.recs (Ja q l.length cap) l))(h:St W0 w K L):
 Calls Jd 58 #[.agg #[I O base,I O leader,U app,U txn,U ctl,I O last,I O first,I O maxt,I O prod,I O epoch,I O sq,Ja q l.length cap]] w fun en w'=>en=Jb (I O G)∧St W0 w' K L:=by
 have HT:=hQd hG;have HK:=hQd hk;have HFT:=hQd hfit;have HF:=hQd hf;obtain⟨nf,hnf⟩:=eX (-first);obtain⟨mf,hmf⟩:=eX (9223372036854775807 - first);have HNF:=hQd hnf;have HMF:=hQd hmf;have n1:wrap64 (-first)=nf:=by rw[←hnf];unfold wrap64;omega
 have n2:IntKind.i64.wrap (-first)=nf:=by rw[←hnf];exact IntWalk.i64_in _ oM
 have m1:wrap64 (9223372036854775807 - first)=mf:=by rw[←hmf];unfold wrap64;omega
 have m2:IntKind.i64.wrap (9223372036854775807 - first)=mf:=by rw[←hmf];exact IntWalk.i64_in _ oM
 have h1:=h.allocRaw #[I O base,I O leader,U app,U txn,U ctl,I O last,I O first,I O maxt,I O prod,I O epoch,I O sq,Ja q l.length cap] 30;obtain⟨hb,hhb⟩:=eX w.heap.size;rw[hhb]at h1;obtain⟨x0,x1,x2,x3,x4,x5,x6,x7,x8,x9,x10,x11,y0,y1,y2,y3,y4,y5,y6,y7,y8,y9,y10,y11⟩:=zAd (b:=hb) (h1);have H:=hQd h1;clear h h1 hk hfit hG hnf hmf hf;go_enter Tryz.func58,Tryz.ntmps58;go_wp2;clear x0 y0 x1 y1 x2 y2 x3 y3 x4 y4 x5 y5 x6 y6 x7 y7 x8 y8 x9 y9 x10 y10 x11 y11;go_loopw [3,4,5] (fun gv iv _ wr=>∃(k:Nat) (ah g:Int),k≤l.length∧gv=I O g∧iv=I O k∧Hid (zDE first last ((l.map (·.1)).drop k) ah g=.ok G)∧St W0 wr K (.raw hb #[I O base,I O leader,U app,U txn,U ctl,I O last,I O first,I O maxt,I O prod,I O epoch,I O sq,Ja q l.length cap] 30::L)) (fun _ iv _ _=>l.length - (intOf iv).toNat)
 case atStart=>exact⟨0,-1,first,Ji _,rfl,rfl,HT,H.out⟩
 case round=>
  obtain⟨k,ah,g,hkl,rfl,rfl,HC,hst⟩:=hrel;clear H;have H:=hQd hst;clear hst;obtain⟨x0,x1,x2,x3,x4,x5,x6,x7,x8,x9,x10,x11,y0,y1,y2,y3,y4,y5,y6,y7,y8,y9,y10,y11⟩:=zAd (b:=hb) (H.out)
  by_cases hlt:k<l.length
  ·have hd:=zCg l k hlt _ rfl;obtain⟨b,off,hqq⟩:=zBH HK.out H.out oM;subst hqq;obtain⟨⟨x,vx⟩,hx⟩:∃x,l[k]=x:=⟨_,rfl⟩;have cc:=zAQ HK.out H.out k hlt (x,vx) hx;have hmem:(x,vx)∈l:=hx ▸ Jp hlt;have xf:x.R∧HFit x.hdrs∧x.sum≤1000000:=HFT.out (x,vx) hmem;have xk:K.has (Know.flat RHdr vx 3 x.hdrs):=zAX HK.out hmem;obtain⟨qx,capx,hvx⟩:=zAw xk H.out;subst hvx;simp only at cc;obtain⟨c0,c1,c2,c3,c4,c5,c6⟩:=cc;rw[←Jm]at c1 c2 c3 c4 c5 c6;have hx1:l[k].1=x:=by rw[hx]
   have XF:=hQd xf;have XK:=hQd xk;have HX:=hQd hx1;clear xf xk hx1 hx hmem;have hki:(k:Int)<(l.length:Int):=by omega
   rw[HX.out]at hd;have hc:=HC.out;rw[hd,zCZ]at hc
   by_cases c1:x.off≤ah∨last<x.off
   ·rw[if_pos c1]at hc;cases hc
   rw[if_neg c1]at hc
   by_cases c3:x.time< -first∨9223372036854775807 - first<x.time
   ·rw[if_pos c3]at hc;cases hc
   rw[if_neg c3]at hc;have d1:decide (mf<x.time)=false:=by rw[←HMF.out];exact decide_eq_false oM
   have d2:decide (x.time<nf)=false:=by rw[←HNF.out];exact decide_eq_false oM
   obtain⟨ft,hft⟩:=eX (first+x.time);have f1:wrap64 (first+x.time)=ft:=by have:=HF.out;rw[←hft];unfold wrap64;omega
   have f2:IntKind.i64.wrap (first+x.time)=ft:=by have:=HF.out;rw[←hft];exact IntWalk.i64_in _ oM
   rw[hft]at hc
   by_cases c4:g<ft
   ·have d4:decide (g<ft)=true:=decide_eq_true c4;have HC2:=hQd (show zDE first last ((l.map (·.1)).drop (k+1)) x.off ft=.ok G by rw[Int.max_eq_right oM]at hc;exact hc);clear hd hc c1 c3 c4 hft;go_wp2;go_roundw
    case rel=>exact⟨k+1,x.off,ft,hlt,rfl,by go_num,HC2,H.out⟩
    case measure=>first|(simp[intOf];done)|(simp[intOf];omega)
   ·have d4:decide (g<ft)=false:=decide_eq_false c4;have HC2:=hQd (show zDE first last ((l.map (·.1)).drop (k+1)) x.off g=.ok G by rw[Int.max_eq_left oM]at hc;exact hc);clear hd hc c1 c3 c4 hft;go_wp2;go_roundw
    case rel=>exact⟨k+1,x.off,g,hlt,rfl,by go_num,HC2,H.out⟩
    case measure=>first|(simp[intOf];done)|(simp[intOf];omega)
  ·obtain rfl:l.length=k:=by omega
   have hc:=HC.out;rw[List.drop_of_length_le sM]at hc;obtain rfl:g=G:=by have hc:Except.ok g=Except.ok G:=hc;cases hc;rfl
   clear hc;go_wp2;go_ret;exact⟨rfl,H.out.drop⟩
def zRC (l:List (RecS×Value)) (k:Nat) (ah:Int):Prop:=(k=0∧ah= -1)∨(∃(j:Nat) (h:j<l.length),k=j+1∧(l[j]'h).1.off=ah∧0≤ah)
theorem zq12{p:Prop}(h:p:=by
  by_cases c3:9223372036854775807 - first<x.time
  · have d3:decide (mf<x.time)=true:=by rw[←HMF.out];exact decide_eq_true c3
    rw[if_pos (.inr c3)]at hc;obtain rfl:11=e:=by have:=HE.out;rw[←hc]at this;exact this
    clear c3 hc;go_wp2;go_ret;exact⟨rfl,H.out.drop⟩
  · have d3:decide (mf<x.time)=false:=by rw[←HMF.out];exact decide_eq_false c3
    by_cases c4:x.time< -first
    · have d4:decide (x.time<nf)=true:=by rw[←HNF.out];exact decide_eq_true c4
      rw[if_pos (.inl c4)]at hc;obtain rfl:11=e:=by have:=HE.out;rw[←hc]at this;exact this
      clear c3 c4 hc;go_wp2;go_ret;exact⟨rfl,H.out.drop⟩
    · have d4:decide (x.time<nf)=false:=by rw[←HNF.out];exact decide_eq_false c4
      rw[if_neg oM]at hc;have HC2:=hQd hc;clear c3 c4 hc;go_wp2;go_roundw
      case rel=>exact⟨k+1,x.off,_,hlt,by go_num,HC2,PR2,H.out⟩
      case measure=>first|(simp[intOf];done)|(simp[intOf];omega)):p:=h
theorem zq16{p:Prop}(h:p:=by
 try simp only[Act.put,sA,sB,sC]
 refine tR 8 ?_;refine tR 9 ?_;refine wpAnyH_done kR ?_ _;clear hHeld;go_wp2_with fail;go_ret;exact⟨rfl,hs.drop⟩):p:=h
theorem zF5(base leader:Int)(app txn ctl:Bool)(last first maxt prod epoch sq:Int)(l:List (RecS×Value))(q:Option Addr)(cap:Nat)(e:Int)(he:BatS.rows ⟨base,leader,app,txn,ctl,last,first,maxt,prod,epoch,sq,l.map (·.1)⟩=e)(hf:0≤first∧first≤9223372036854775807)(hfit:FitB l)(hll:l.length≤1000000){W0 w:World}{K:Know}{L:List Res}(hk:K.has (Know.recs (Ja q l.length cap) l))(h:St W0 w K L):
 Calls Jd 27 #[.agg #[I O base,I O leader,U app,U txn,U ctl,I O last,I O first,I O maxt,I O prod,I O epoch,I O sq,Ja q l.length cap]] w fun en w'=>en=Jb (I O e)∧St W0 w' K L:=by
 obtain⟨tot,htot⟩:=eX (zDE first last (l.map (·.1)) (-1) first);have HE:=hQd (show zOj app maxt tot=e by rw[←he,←htot];rfl);have HT:=hQd htot;have HLL:=hQd hll;have HK:=hQd hk;have HFT:=hQd hfit;have HF:=hQd hf;obtain⟨nf,hnf⟩:=eX (-first);obtain⟨mf,hmf⟩:=eX (9223372036854775807 - first);have HNF:=hQd hnf;have HMF:=hQd hmf;have n1:wrap64 (-first)=nf:=by rw[←hnf];unfold wrap64;omega
 have n2:IntKind.i64.wrap (-first)=nf:=by rw[←hnf];exact IntWalk.i64_in _ oM
 have m1:wrap64 (9223372036854775807 - first)=mf:=by rw[←hmf];unfold wrap64;omega
 have m2:IntKind.i64.wrap (9223372036854775807 - first)=mf:=by rw[←hmf];exact IntWalk.i64_in _ oM
 have h1:=h.allocRaw #[I O base,I O leader,U app,U txn,U ctl,I O last,I O first,I O maxt,I O prod,I O epoch,I O sq,Ja q l.length cap] 30;obtain⟨hb,hhb⟩:=eX w.heap.size;rw[hhb]at h1;obtain⟨x0,x1,x2,x3,x4,x5,x6,x7,x8,x9,x10,x11,y0,y1,y2,y3,y4,y5,y6,y7,y8,y9,y10,y11⟩:=zAd (b:=hb) (h1);have H:=hQd h1;have HP:=hQd (show zRC l 0 (-1)from .inl ⟨rfl,rfl⟩);clear h h1 hk hfit he htot hnf hmf hf;go_enter Tryz.func27,Tryz.ntmps27;go_wp2;clear x0 y0 x1 y1 x2 y2 x3 y3 x4 y4 x5 y5 x6 y6 x7 y7 x8 y8 x9 y9 x10 y10 x11 y11;go_loopw [3,4,5] (fun iv _ _ wr=>∃(k:Nat) (ah g:Int),k≤l.length∧iv=I O k∧Hid (zDE first last ((l.map (·.1)).drop k) ah g=tot)∧Hid (zRC l k ah)∧St W0 wr K (.raw hb #[I O base,I O leader,U app,U txn,U ctl,I O last,I O first,I O maxt,I O prod,I O epoch,I O sq,Ja q l.length cap] 30::L)) (fun iv _ _ _=>l.length - (intOf iv).toNat)
 case atStart=>exact⟨0,-1,first,Ji _,rfl,HT,HP,H.out⟩
 case round=>
  obtain⟨k,ah,g,hkl,rfl,HC,PR,hst⟩:=hrel;clear H;have H:=hQd hst;clear hst;obtain⟨x0,x1,x2,x3,x4,x5,x6,x7,x8,x9,x10,x11,y0,y1,y2,y3,y4,y5,y6,y7,y8,y9,y10,y11⟩:=zAd (b:=hb) (H.out)
  by_cases hlt:k<l.length
  ·have hd:=zCg l k hlt _ rfl;obtain⟨b,off,hqq⟩:=zBH HK.out H.out oM;subst hqq;obtain⟨⟨x,vx⟩,hx⟩:∃x,l[k]=x:=⟨_,rfl⟩;have cc:=zAQ HK.out H.out k hlt (x,vx) hx;have hmem:(x,vx)∈l:=hx ▸ Jp hlt;have xf:x.R∧HFit x.hdrs∧x.sum≤1000000:=HFT.out (x,vx) hmem;have xk:K.has (Know.flat RHdr vx 3 x.hdrs):=zAX HK.out hmem;obtain⟨qx,capx,hvx⟩:=zAw xk H.out;subst hvx;simp only at cc;obtain⟨c0,c1,c2,c3,c4,c5,c6⟩:=cc;rw[←Jm]at c1 c2 c3 c4 c5 c6;have hx1:l[k].1=x:=by rw[hx]
   have XF:=hQd xf;have XK:=hQd xk;have HX:=hQd hx1;clear xf xk hx1 hx hmem;have hki:(k:Int)<(l.length:Int):=by omega
   rw[HX.out]at hd;have hc:=HC.out;rw[hd,zCZ]at hc;clear hd
   by_cases c2:last<x.off
   ·have d2:decide (last<x.off)=true:=decide_eq_true c2;rw[if_pos (.inr c2)]at hc;clear c2;obtain rfl:13=e:=by have:=HE.out;rw[←hc]at this;exact this
    go_wp2;go_ret;exact⟨rfl,H.out.drop⟩
   ·have d2:decide (last<x.off)=false:=decide_eq_false c2;have PR2:=hQd (show 0≤x.off→zRC l (k+1) x.off from fun h0=> .inr ⟨k,hlt,rfl,by rw[HX.out],h0⟩)
    rcases PR.out with ⟨hk0,rfl⟩|⟨j,hj,hk1,hjo,ha0⟩
    ·have dk:decide ((0:Int)<(k:Int))=false:=decide_eq_false oM;have dk2:decide (0<k)=false:=decide_eq_false oM;clear hk0
     by_cases c5:x.off<0
     ·have d5:decide (x.off<0)=true:=decide_eq_true c5;rw[if_pos (.inl oM)]at hc;clear c2 c5;obtain rfl:13=e:=by have:=HE.out;rw[←hc]at this;exact this
      go_wp2;go_ret;exact⟨rfl,H.out.drop⟩
     ·have d5:decide (x.off<0)=false:=decide_eq_false c5;rw[if_neg oM]at hc;replace PR2:=hQd (PR2.out oM);clear c2 c5
      exact zq12
    ·have dk:decide ((0:Int)<(k:Int))=true:=decide_eq_true oM;have dk2:decide (0<k)=true:=decide_eq_true oM;have kj:(k:Int) - 1=(j:Int):=by omega
     obtain⟨⟨y,vy⟩,hy⟩:∃y,l[j]=y:=⟨_,rfl⟩;have cy:=zAQ HK.out H.out j hj (y,vy) hy;rw[hy]at hjo;simp only at cy hjo;obtain⟨_,g1,_⟩:=cy;rw[←Jm,hjo]at g1;have hjl:(j:Int)<(l.length:Int):=by omega
     have hj0:(0:Int)≤(j:Int):=by omega
     clear hy hk1 hj
     by_cases c1:x.off≤ah
     ·have d1:decide (x.off≤ah)=true:=decide_eq_true c1;rw[if_pos (.inl c1)]at hc;clear c1 c2;obtain rfl:13=e:=by have:=HE.out;rw[←hc]at this;exact this
      go_wp2;go_ret;exact⟨rfl,H.out.drop⟩
     ·have d1:decide (x.off≤ah)=false:=decide_eq_false c1;have d5:decide (x.off<0)=false:=decide_eq_false oM;rw[if_neg oM]at hc;replace PR2:=hQd (PR2.out oM);clear c1 c2
      exact zq12
  ·obtain rfl:l.length=k:=by omega
   have hc:=HC.out;rw[List.drop_of_length_le sM]at hc;obtain rfl:Except.ok g=tot:=hc;have hee:=HE.out;simp only[zOj]at hee
   cases app with
   |true=>
    obtain rfl:0=e:=by rw[←hee];rfl
    clear hee;go_upto_region 10 with (fail);have hs:=H.out.drew;refine wp_region_held_drew (S:=fun w'=>w'.cell? ⟨hb,0,none⟩=some (I O base)∧w'.cell? ⟨hb,1,none⟩=some (I O leader)∧w'.cell? ⟨hb,2,none⟩=some (U true)∧w'.cell? ⟨hb,3,none⟩=some (U txn)∧w'.cell? ⟨hb,4,none⟩=some (U ctl)∧w'.cell? ⟨hb,5,none⟩=some (I O last)∧w'.cell? ⟨hb,6,none⟩=some (I O first)∧w'.cell? ⟨hb,7,none⟩=some (I O maxt)∧w'.cell? ⟨hb,8,none⟩=some (I O prod)∧w'.cell? ⟨hb,9,none⟩=some (I O epoch)∧w'.cell? ⟨hb,10,none⟩=some (I O sq)∧w'.cell? ⟨hb,11,none⟩=some (Ja q l.length cap)) kR (let ⟨x0,x1,x2,x3,x4,x5,x6,x7,x8,x9,x10,x11,_⟩:=zAd (b:=hb) hs;⟨x0,x1,x2,x3,x4,x5,x6,x7,x8,x9,x10,x11⟩) (fun hHeld=> ?_);refine tR 0 ?_;refine tR 1 ?_;refine tR 2 ?_;refine tR 3 ?_;refine wpAnyH_take (i:=4) (oi:=⟨some 64,.load 30 (.tmp 1),30,_,_,some (3,true)⟩) (v:=undef) rfl kR kR kR (fun _ _ _ h=>h) (Or.inr ⟨by rfl,rfl⟩) (by assumption) ?_;simp only[Act.put,sA,sB,sC];refine wpAnyH_take (i:=5) (oi:=⟨some 65,.call {callee:=.value (.func 58),args:= #[.tmp 64],argTypes:= #[30]},3,_,_,some (3,true)⟩) (v:=undef) rfl kR kR kR (fun _ _ _ h=>h) (Or.inr ⟨by rfl,rfl⟩) (by assumption) ?_;simp only[Act.put,sA,sB,sC];refine wpAnyH_take (i:=6) (oi:=⟨some 66,.fieldAddr 30 (.tmp 1) 7,0,_,_,some (3,true)⟩) (v:=undef) rfl kR kR kR (fun _ _ _ h=>h) (Or.inr ⟨by rfl,rfl⟩) (by assumption) ?_;simp only[Act.put,sA,sB,sC];refine wpAnyH_take (i:=7) (oi:=⟨some 67,.load 3 (.tmp 66),3,_,_,some (3,true)⟩) (v:=undef) rfl kR kR kR (fun _ _ _ h=>h) (Or.inr ⟨by rfl,rfl⟩) (by assumption) ?_;simp only[Act.put,sA,sB,sC];refine wpAnyH_take (i:=8) (oi:=⟨some 68,.binOp .neq 3 (.tmp 65) (.tmp 67) 3,4,_,_,some (3,true)⟩) (v:=undef) rfl kR kR kR (fun _ _ _ h=>h) (Or.inr ⟨by rfl,rfl⟩) (by assumption) ?_;simp only[Act.put,sA,sB,sC];refine tR 9 ?_;refine wpAnyH_done kR ?_ _;clear hHeld;go_wp2_with fail;go_ret;exact⟨rfl,hs.drop⟩
   |false=>
    have HG:=hQd (show zDE first last (l.map (·.1)) (-1) first=.ok g from HT.out)
    by_cases c1:maxt=g
    ·subst c1;obtain rfl:0=e:=by rw[←hee];simp
     clear hee;go_upto_region 10 with (fail);have hs:=H.out.drew;refine wp_region_held_drew (S:=fun w'=>w'.cell? ⟨hb,0,none⟩=some (I O base)∧w'.cell? ⟨hb,1,none⟩=some (I O leader)∧w'.cell? ⟨hb,2,none⟩=some (U false)∧w'.cell? ⟨hb,3,none⟩=some (U txn)∧w'.cell? ⟨hb,4,none⟩=some (U ctl)∧w'.cell? ⟨hb,5,none⟩=some (I O last)∧w'.cell? ⟨hb,6,none⟩=some (I O first)∧w'.cell? ⟨hb,7,none⟩=some (I O maxt)∧w'.cell? ⟨hb,8,none⟩=some (I O prod)∧w'.cell? ⟨hb,9,none⟩=some (I O epoch)∧w'.cell? ⟨hb,10,none⟩=some (I O sq)∧w'.cell? ⟨hb,11,none⟩=some (Ja q l.length cap)) kR (let ⟨x0,x1,x2,x3,x4,x5,x6,x7,x8,x9,x10,x11,_⟩:=zAd (b:=hb) hs;⟨x0,x1,x2,x3,x4,x5,x6,x7,x8,x9,x10,x11⟩) (fun hHeld=> ?_);refine tR 0 ?_;refine tR 1 ?_;refine tR 2 ?_;refine tR 3 ?_;refine tR 4 ?_;refine tR 6 ?_;refine tR 7 ?_;refine wR [5] (rC rfl (fun KK hK=> ?_) rN);go_simp;go_at_call 58;with_reducible refine(zGT base leader false txn ctl last first maxt prod epoch sq l _ _ _ HG.out HF.out HFT.out HLL.out HK.out hs).mono ?_;rintro e wq ⟨rfl,hs⟩;refine hK.out _ _ (let ⟨x0,x1,x2,x3,x4,x5,x6,x7,x8,x9,x10,x11,_⟩:=zAd (b:=hb) hs;⟨x0,x1,x2,x3,x4,x5,x6,x7,x8,x9,x10,x11⟩) (fun hHeld=> ?_);clear hK KK
     exact zq16
    ·obtain rfl:11=e:=by rw[←hee];simp[c1]
     have b1:(g==maxt)=false:=by rw[beq_eq_false_iff_ne];exact fun h=>c1 h.symm
     have b2:(g !=maxt)=true:=by simp[bne,b1]
     clear hee c1;go_upto_region 10 with (fail);have hs:=H.out.drew;refine wp_region_held_drew (S:=fun w'=>w'.cell? ⟨hb,0,none⟩=some (I O base)∧w'.cell? ⟨hb,1,none⟩=some (I O leader)∧w'.cell? ⟨hb,2,none⟩=some (U false)∧w'.cell? ⟨hb,3,none⟩=some (U txn)∧w'.cell? ⟨hb,4,none⟩=some (U ctl)∧w'.cell? ⟨hb,5,none⟩=some (I O last)∧w'.cell? ⟨hb,6,none⟩=some (I O first)∧w'.cell? ⟨hb,7,none⟩=some (I O maxt)∧w'.cell? ⟨hb,8,none⟩=some (I O prod)∧w'.cell? ⟨hb,9,none⟩=some (I O epoch)∧w'.cell? ⟨hb,10,none⟩=some (I O sq)∧w'.cell? ⟨hb,11,none⟩=some (Ja q l.length cap)) kR (let ⟨x0,x1,x2,x3,x4,x5,x6,x7,x8,x9,x10,x11,_⟩:=zAd (b:=hb) hs;⟨x0,x1,x2,x3,x4,x5,x6,x7,x8,x9,x10,x11⟩) (fun hHeld=> ?_);refine tR 0 ?_;refine tR 1 ?_;refine tR 2 ?_;refine tR 3 ?_;refine tR 4 ?_;refine tR 6 ?_;refine tR 7 ?_;refine wR [5] (rC rfl (fun KK hK=> ?_) rN);go_simp;go_at_call 58;with_reducible refine(zGT base leader false txn ctl last first maxt prod epoch sq l _ _ _ HG.out HF.out HFT.out HLL.out HK.out hs).mono ?_;rintro e wq ⟨rfl,hs⟩;refine hK.out _ _ (let ⟨x0,x1,x2,x3,x4,x5,x6,x7,x8,x9,x10,x11,_⟩:=zAd (b:=hb) hs;⟨x0,x1,x2,x3,x4,x5,x6,x7,x8,x9,x10,x11⟩) (fun hHeld=> ?_);clear hK KK
     exact zq16
variable {W0 w:World}{K:Know}{L:List Res}
theorem zAl(n lo:Int)(r:Bool)(hr:decide (lo≤n∧n≤2147483647)=r)(h:St W0 w K L):
 Calls Jd 23 #[I O n,I O lo] w fun en w'=>en=Jb (U r)∧St W0 w' K L:=by
 have H:=hQd h;clear h
 by_cases h1:lo≤n
 ·have d1:decide (lo≤n)=true:=decide_eq_true h1
  by_cases h2:n≤2147483647
  ·have d2:decide (n≤2147483647)=true:=decide_eq_true h2;obtain rfl:true=r:=(decide_eq_true ⟨h1,h2⟩).symm.trans hr;clear h1 h2;go_enter Tryz.func23,Tryz.ntmps23;go_wp2;go_ret;exact⟨rfl,H.out⟩
  ·have d2:decide (n≤2147483647)=false:=decide_eq_false h2;obtain rfl:false=r:=(decide_eq_false (fun x=>h2 x.2)).symm.trans hr;clear h1 h2;go_enter Tryz.func23,Tryz.ntmps23;go_wp2;go_ret;exact⟨rfl,H.out⟩
 ·have d1:decide (lo≤n)=false:=decide_eq_false h1;obtain rfl:false=r:=(decide_eq_false (fun x=>h1 x.1)).symm.trans hr;clear h1;go_enter Tryz.func23,Tryz.ntmps23;go_wp2;go_ret;exact⟨rfl,H.out⟩
theorem zBx(base leader:Int)(app txn ctl:Bool)(last first maxt prod epoch sq:Int)(rv:Value)(r:Bool)(hr:(if prod= -1 then decide (epoch= -1∧sq= -1∧txn=false)else if prod<0∨¬(0≤epoch∧epoch≤32767)then false else if ctl then decide (sq= -1)else decide (0≤sq∧sq≤2147483647))=r)(h:St W0 w K L):
 Calls Jd 24 #[.agg #[I O base,I O leader,U app,U txn,U ctl,I O last,I O first,I O maxt,I O prod,I O epoch,I O sq,rv]] w fun en w'=>en=Jb (U r)∧St W0 w' K L:=by
 have h1:=h.allocRaw #[I O base,I O leader,U app,U txn,U ctl,I O last,I O first,I O maxt,I O prod,I O epoch,I O sq,rv] 30;obtain⟨hb,hhb⟩:=eX w.heap.size;rw[hhb]at h1;obtain⟨x0,x1,x2,x3,x4,x5,x6,x7,x8,x9,x10,x11,y0,y1,y2,y3,y4,y5,y6,y7,y8,y9,y10,y11⟩:=zAd (b:=hb) (h1);have H:=hQd h1;clear h h1
 by_cases c0:prod= -1
 ·rw[if_pos c0]at hr;subst c0
  by_cases c1:epoch= -1
  ·subst c1
   by_cases c2:sq= -1
   ·subst c2;obtain rfl:(!txn)=r:=by rw[←hr];cases txn<;>rfl
    clear hr;go_enter Tryz.func24,Tryz.ntmps24;go_wp2;go_ret;exact⟨rfl,H.out.drop⟩
   ·obtain rfl:false=r:=by rw[←hr];exact(decide_eq_false (fun x=>c2 x.2.1)).symm
    have b2:(sq== -1)=false:=by rw[beq_eq_false_iff_ne];exact c2
    clear hr c2;go_enter Tryz.func24,Tryz.ntmps24;go_wp2;go_ret;exact⟨rfl,H.out.drop⟩
  ·obtain rfl:false=r:=by rw[←hr];exact(decide_eq_false (fun x=>c1 x.1)).symm
   have b1:(epoch== -1)=false:=by rw[beq_eq_false_iff_ne];exact c1
   clear hr c1;go_enter Tryz.func24,Tryz.ntmps24;go_wp2;go_ret;exact⟨rfl,H.out.drop⟩
 ·rw[if_neg c0]at hr;have b0:(prod== -1)=false:=by rw[beq_eq_false_iff_ne];exact c0
  by_cases c1:prod<0
  ·rw[if_pos (.inl c1)]at hr;subst hr;have d1:decide (prod<0)=true:=decide_eq_true c1;clear c0 c1;go_enter Tryz.func24,Tryz.ntmps24;go_wp2;go_ret;exact⟨rfl,H.out.drop⟩
  ·have d1:decide (prod<0)=false:=decide_eq_false c1
   by_cases c2:epoch<0
   ·rw[if_pos (.inr oM)]at hr;subst hr;have d2:decide (epoch<0)=true:=decide_eq_true c2;clear c0 c1 c2;go_enter Tryz.func24,Tryz.ntmps24;go_wp2;go_ret;exact⟨rfl,H.out.drop⟩
   ·have d2:decide (epoch<0)=false:=decide_eq_false c2
    by_cases c3:32767<epoch
    ·rw[if_pos (.inr oM)]at hr;subst hr;have d3:decide ((32767:Int)<epoch)=true:=decide_eq_true c3;clear c0 c1 c2 c3;go_enter Tryz.func24,Tryz.ntmps24;go_wp2;go_ret;exact⟨rfl,H.out.drop⟩
    ·have d3:decide ((32767:Int)<epoch)=false:=decide_eq_false c3;rw[if_neg (by rintro(x|x);exact c1 x;exact x oM)]at hr;clear c0 c1 c2 c3
     cases ctl with
     |true=>
      obtain rfl:(sq== -1)=r:=by rw[←hr];rfl
      clear hr;go_enter Tryz.func24,Tryz.ntmps24;go_wp2;go_ret;exact⟨rfl,H.out.drop⟩
     |false=>
      have HS:=hQd (show decide (0≤sq∧sq≤2147483647)=r from hr);clear hr;go_enter Tryz.func24,Tryz.ntmps24;go_wp2_with (go_at_call 23;(with_reducible refine(zAl sq 0 _ HS.out H.out).zM ?_);clear H;intro wn H;obtain⟨x0,x1,x2,x3,x4,x5,x6,x7,x8,x9,x10,x11,y0,y1,y2,y3,y4,y5,y6,y7,y8,y9,y10,y11⟩:=zAd (b:=hb) (H.out));go_ret;exact⟨rfl,H.out.drop⟩
end Go.Proofs.YtenojajfacacoaaGreatDoor
