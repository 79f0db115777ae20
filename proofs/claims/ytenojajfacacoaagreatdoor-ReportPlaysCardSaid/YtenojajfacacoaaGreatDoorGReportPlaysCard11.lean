/- A text. -/
import Derived.Test.YtenojajfacacoaaGreatDoorGReportPlaysCard10
import Derived.Test.YtenojajfacacoaaGreatDoorGReportPlaysCard7
import Derived.Laws.CopyOwn
import Derived.RegionTactic
import Derived.Deep.RegionHeld3
import Derived.Deep.DeepCutAuto
import Derived.WalkMore
import Derived.Test.YtenojajfacacoaaGreatDoorGReportPlaysCard4
import Derived.Laws.AppendOwnNone
import Derived.Test.YtenojajfacacoaaGreatDoorGReportPlaysCard8
import Derived.Test.YtenojajfacacoaaGreatDoorGReportPlaysCard9
import Derived.Test.YtenojajfacacoaaGreatDoorGReportPlaysCard3
import Derived.Laws.Cover2
import Derived.Test.YtenojajfacacoaaGreatDoorGReportPlaysCard5
import Derived.Test.YtenojajfacacoaaGreatDoorGReportPlaysCard1
import Derived.SizedLaws
import Derived.Deep.Slices
/- A text. -/
namespace Go.Proofs.YtenojajfacacoaaGreatDoor
open Go.RowKit
open Go.Value renaming bool→U, string→Z, slice→Ja, int→I, pointer→Jc
open Go.Ending renaming returned→Jb
open _root_.Nat renaming le_refl→Jo, zero_le→Ji, add_assoc→Jm
open Go.IntKind renaming i64→O
open _root_.Go.Proofs.Tryz renaming prog→Jd
open _root_.List renaming length_cons→Jg, take_of_length_le→Jj, length_take→Jk, length_append→Je, length→Jh, take→Jq, getElem_mem→Jp, length_drop→Jf, length_nil→Jl, length_map→Jn
def FeedJ (sb valid:Nat) (chunk T:Bs) (W0:World) (K:Know) (L:List Res) (l:Nat) (a':Act) (w':World):Prop:=
 (l=0∧∃(at_:Nat) (lv v:Value) (acc:List BatR) (K2:Know) (u:Nat→Value),a'={tmps:=((Jc (some ⟨sb,0,none⟩):Value)::(Z (bb chunk):Value)::u 2::u 3::(Ja none 0 0:Value)::lv::(I O at_:Value)::u 7::u 8::u 9::u 10::u 11::u 12::u 13::u 14::u 15::u 16::u 17::u 18::u 19::u 20::u 21::u 22::u 23::u 24::u 25::u 26::u 27::u 28::u 29::u 30::u 31::u 32::u 33::u 34::u 35::u 36::u 37::u 38::u 39::u 40::u 41::u 42::u 43::u 44::u 45::u 46::u 47::u 48::u 49::u 50::u 51::u 52::u 53::u 54::u 55::u 56::u 57::u 58::u 59::u 60::u 61::u 62::u 63::u 64::u 65::u 66::u 67::u 68::u 69::u 70::u 71::u 72::u 73::u 74::u 75::u 76::u 77::u 78::u 79::u 80::u 81::u 82::u 83::u 84::u 85::u 86::[]).toArray,defers:=[]}∧at_≤T.length∧zAt T=(acc.map BatR.b++(zAt (T.drop at_)).1,(zAt (T.drop at_)).2)∧K2.has K∧(∀x∈acc,K2.has (Know.recs (Ja x.q x.l.length x.cap) x.l))∧(∀x∈acc,zFd x)∧61*acc.length≤at_∧St W0 w' K2 (.row lv 30 12 acc.length (acc.flatMap zAL)::.raw sb #[I O valid,v,I O 0] 187::.row (v) 5 1 T.length (zAu T)::L))∨
 (l=1∧∃(at_:Nat) (lv v:Value) (acc:List BatR) (K2:Know) (e:Int) (u:Nat→Value),a'={tmps:=((Jc (some ⟨sb,0,none⟩):Value)::(Z (bb chunk):Value)::u 2::u 3::(Ja none 0 0:Value)::lv::(I O at_:Value)::u 7::u 8::(I O e:Value)::u 10::u 11::u 12::u 13::u 14::u 15::u 16::u 17::u 18::u 19::u 20::u 21::u 22::u 23::u 24::u 25::u 26::u 27::u 28::u 29::u 30::u 31::u 32::u 33::u 34::u 35::u 36::u 37::u 38::u 39::u 40::u 41::u 42::u 43::u 44::u 45::u 46::u 47::u 48::u 49::u 50::u 51::u 52::u 53::u 54::u 55::u 56::u 57::u 58::u 59::u 60::u 61::u 62::u 63::u 64::u 65::u 66::u 67::u 68::u 69::u 70::u 71::u 72::u 73::u 74::u 75::u 76::u 77::u 78::u 79::u 80::u 81::u 82::u 83::u 84::u 85::u 86::[]).toArray,defers:=[]}∧at_≤T.length∧zAt T=(acc.map BatR.b,T.drop at_,e)∧K2.has K∧(∀x∈acc,K2.has (Know.recs (Ja x.q x.l.length x.cap) x.l))∧(∀x∈acc,zFd x)∧61*acc.length≤at_∧St W0 w' K2 (.row lv 30 12 acc.length (acc.flatMap zAL)::.raw sb #[I O valid,v,I O 0] 187::.row (v) 5 1 T.length (zAu T)::L))
def zIr (T:Bs) (l:Nat) (a:Act) (_:World):Nat:=if l=0 then T.length+1 - (intOf (a.tmps.getD 6 undef)).toNat else 0
theorem zH2{T:Bs}{a a':Act}{w w':World}{at_:Nat}(h:zIr T 0 a w=T.length+1 - at_)(h2:at_≤T.length):zIr T 1 a' w'<zIr T 0 a w:=by
 rw[h]
 show 0< _
 omega
theorem zRE{T:Bs}{a a':Act}{w w':World}{at_ n:Nat}(h:zIr T 0 a w=T.length+1 - at_)(h2:at_≤T.length)(h3:0<n)(h4:zIr T 0 a' w'=T.length+1 - (at_+n)):zIr T 0 a' w'<zIr T 0 a w:=by
 rw[h,h4]
 omega
theorem FeedJ.elim0{sb valid:Nat}{chunk T:Bs}{W0:World}{K:Know}{L:List Res}{a':Act}{w':World}{P:Act→World→Prop}(h:FeedJ sb valid chunk T W0 K L 0 a' w')
 (go:∀(at_:Nat) (lv v:Value) (acc:List BatR) (K2:Know) (u:Nat→Value),at_≤T.length→zAt T=(acc.map BatR.b++(zAt (T.drop at_)).1,(zAt (T.drop at_)).2)→K2.has K→(∀x∈acc,K2.has (Know.recs (Ja x.q x.l.length x.cap) x.l))→(∀x∈acc,zFd x)→61*acc.length≤at_→St W0 w' K2 (.row lv 30 12 acc.length (acc.flatMap zAL)::.raw sb #[I O valid,v,I O 0] 187::.row (v) 5 1 T.length (zAu T)::L)→zIr T 0 a' w'=T.length+1 - at_→P {tmps:=((Jc (some ⟨sb,0,none⟩):Value)::(Z (bb chunk):Value)::u 2::u 3::(Ja none 0 0:Value)::lv::(I O at_:Value)::u 7::u 8::u 9::u 10::u 11::u 12::u 13::u 14::u 15::u 16::u 17::u 18::u 19::u 20::u 21::u 22::u 23::u 24::u 25::u 26::u 27::u 28::u 29::u 30::u 31::u 32::u 33::u 34::u 35::u 36::u 37::u 38::u 39::u 40::u 41::u 42::u 43::u 44::u 45::u 46::u 47::u 48::u 49::u 50::u 51::u 52::u 53::u 54::u 55::u 56::u 57::u 58::u 59::u 60::u 61::u 62::u 63::u 64::u 65::u 66::u 67::u 68::u 69::u 70::u 71::u 72::u 73::u 74::u 75::u 76::u 77::u 78::u 79::u 80::u 81::u 82::u 83::u 84::u 85::u 86::[]).toArray,defers:=[]} w'):P a' w':=by
 rcases h with ⟨_,at_,lv,v,acc,K2,u,rfl,h1,h2,h3,h4,h5,h6,h7⟩|⟨h,_⟩
 ·exact go _ _ _ _ _ _ h1 h2 h3 h4 h5 h6 h7 rfl
 ·cases h
theorem FeedJ.mk0{sb valid:Nat}{chunk T:Bs}{W0:World}{K:Know}{L:List Res}{a':Act}{w':World}(at_:Nat)(lv v:Value)(acc:List BatR)(K2:Know)(ha:a'=(fun u:Nat→Value=>({tmps:=((Jc (some ⟨sb,0,none⟩):Value)::(Z (bb chunk):Value)::u 2::u 3::(Ja none 0 0:Value)::lv::(I O at_:Value)::u 7::u 8::u 9::u 10::u 11::u 12::u 13::u 14::u 15::u 16::u 17::u 18::u 19::u 20::u 21::u 22::u 23::u 24::u 25::u 26::u 27::u 28::u 29::u 30::u 31::u 32::u 33::u 34::u 35::u 36::u 37::u 38::u 39::u 40::u 41::u 42::u 43::u 44::u 45::u 46::u 47::u 48::u 49::u 50::u 51::u 52::u 53::u 54::u 55::u 56::u 57::u 58::u 59::u 60::u 61::u 62::u 63::u 64::u 65::u 66::u 67::u 68::u 69::u 70::u 71::u 72::u 73::u 74::u 75::u 76::u 77::u 78::u 79::u 80::u 81::u 82::u 83::u 84::u 85::u 86::[]).toArray,defers:=[]}:Act)) (fun i=>a'.tmps.getD i undef))(h1:at_≤T.length)(h2:zAt T=(acc.map BatR.b++(zAt (T.drop at_)).1,(zAt (T.drop at_)).2))(h3:K2.has K)(h4:∀x∈acc,K2.has (Know.recs (Ja x.q x.l.length x.cap) x.l))(h5:∀x∈acc,zFd x)(h6:61*acc.length≤at_)(h7:St W0 w' K2 (.row lv 30 12 acc.length (acc.flatMap zAL)::.raw sb #[I O valid,v,I O 0] 187::.row (v) 5 1 T.length (zAu T)::L)):FeedJ sb valid chunk T W0 K L 0 a' w':=
 .inl ⟨rfl,at_,lv,v,acc,K2,(fun i=>a'.tmps.getD i undef),ha,h1,h2,h3,h4,h5,h6,h7⟩
theorem FeedJ.elim1{sb valid:Nat}{chunk T:Bs}{W0:World}{K:Know}{L:List Res}{a':Act}{w':World}{P:Act→World→Prop}(h:FeedJ sb valid chunk T W0 K L 1 a' w')
 (go:∀(at_:Nat) (lv v:Value) (acc:List BatR) (K2:Know) (e:Int) (u:Nat→Value),at_≤T.length→zAt T=(acc.map BatR.b,T.drop at_,e)→K2.has K→(∀x∈acc,K2.has (Know.recs (Ja x.q x.l.length x.cap) x.l))→(∀x∈acc,zFd x)→61*acc.length≤at_→St W0 w' K2 (.row lv 30 12 acc.length (acc.flatMap zAL)::.raw sb #[I O valid,v,I O 0] 187::.row (v) 5 1 T.length (zAu T)::L)→zIr T 1 a' w'=0→P {tmps:=((Jc (some ⟨sb,0,none⟩):Value)::(Z (bb chunk):Value)::u 2::u 3::(Ja none 0 0:Value)::lv::(I O at_:Value)::u 7::u 8::(I O e:Value)::u 10::u 11::u 12::u 13::u 14::u 15::u 16::u 17::u 18::u 19::u 20::u 21::u 22::u 23::u 24::u 25::u 26::u 27::u 28::u 29::u 30::u 31::u 32::u 33::u 34::u 35::u 36::u 37::u 38::u 39::u 40::u 41::u 42::u 43::u 44::u 45::u 46::u 47::u 48::u 49::u 50::u 51::u 52::u 53::u 54::u 55::u 56::u 57::u 58::u 59::u 60::u 61::u 62::u 63::u 64::u 65::u 66::u 67::u 68::u 69::u 70::u 71::u 72::u 73::u 74::u 75::u 76::u 77::u 78::u 79::u 80::u 81::u 82::u 83::u 84::u 85::u 86::[]).toArray,defers:=[]} w'):P a' w':=by
 rcases h with ⟨h,_⟩|⟨_,at_,lv,v,acc,K2,e,u,rfl,h1,h2,h3,h4,h5,h6,h7⟩
 ·cases h
 ·exact go _ _ _ _ _ _ _ h1 h2 h3 h4 h5 h6 h7 rfl
theorem FeedJ.mk1{sb valid:Nat}{chunk T:Bs}{W0:World}{K:Know}{L:List Res}{a':Act}{w':World}(at_:Nat)(lv v:Value)(acc:List BatR)(K2:Know)(e:Int)(ha:a'=(fun u:Nat→Value=>({tmps:=((Jc (some ⟨sb,0,none⟩):Value)::(Z (bb chunk):Value)::u 2::u 3::(Ja none 0 0:Value)::lv::(I O at_:Value)::u 7::u 8::(I O e:Value)::u 10::u 11::u 12::u 13::u 14::u 15::u 16::u 17::u 18::u 19::u 20::u 21::u 22::u 23::u 24::u 25::u 26::u 27::u 28::u 29::u 30::u 31::u 32::u 33::u 34::u 35::u 36::u 37::u 38::u 39::u 40::u 41::u 42::u 43::u 44::u 45::u 46::u 47::u 48::u 49::u 50::u 51::u 52::u 53::u 54::u 55::u 56::u 57::u 58::u 59::u 60::u 61::u 62::u 63::u 64::u 65::u 66::u 67::u 68::u 69::u 70::u 71::u 72::u 73::u 74::u 75::u 76::u 77::u 78::u 79::u 80::u 81::u 82::u 83::u 84::u 85::u 86::[]).toArray,defers:=[]}:Act)) (fun i=>a'.tmps.getD i undef))(h1:at_≤T.length)(h2:zAt T=(acc.map BatR.b,T.drop at_,e))(h3:K2.has K)(h4:∀x∈acc,K2.has (Know.recs (Ja x.q x.l.length x.cap) x.l))(h5:∀x∈acc,zFd x)(h6:61*acc.length≤at_)(h7:St W0 w' K2 (.row lv 30 12 acc.length (acc.flatMap zAL)::.raw sb #[I O valid,v,I O 0] 187::.row (v) 5 1 T.length (zAu T)::L)):FeedJ sb valid chunk T W0 K L 1 a' w':=
 .inr ⟨rfl,at_,lv,v,acc,K2,e,(fun i=>a'.tmps.getD i undef),ha,h1,h2,h3,h4,h5,h6,h7⟩
theorem Keeps.setRow(w:World)(g:Nat)(c:Array Value):Keeps (fun k=>k=g) w (w.setRow g c):=⟨rfl,rfl,rfl,by simp[World.setRow],fun k _ hk=>setRow_other w g k c hk⟩
theorem zEB(s:Bs)(k:Nat):zAu (s.drop k)=(zAu s).drop k:=by unfold zAu;rw[List.map_drop]
theorem zO9(s:Bs):∀v∈zAu s,v.oneCell'=true:=by
 intro v hv;unfold zAu at hv;obtain⟨c,_,rfl⟩:=List.mem_map.1 hv
 rfl
theorem zN1(l:List Value)(n a:Nat)(ha:a≤n)(hn:n≤l.length):((l.take n).drop a++l.drop (n - a)).take n=(l.take n).drop a++(l.take n).drop (n - a):=by
 have hA:((l.take n).drop a).length=n - a:=by rw[Jf,Jk];omega
 rw[List.take_append,hA,Jj oM,show n - (n - a)=a by omega,List.drop_take (i:=n - a),show n - (n - a)=a by omega]
theorem zAK{W0 w:World}{K:Know}{L:List Res}{o:Oper}{a:Act}{KK:Act→World→Prop}{Q:Exit→Act→World→Prop}(d s:Operand)
 (ho:o.op=.call {callee:=.builtin .copy,args:= #[d,s],argTypes:= #[57,57]})(g cap:Nat)(T:Bs)(at_:Nat)(hat:at_≤T.length)
 (hd:a.eval d=Ja (some ⟨g,0,none⟩) T.length cap)(sp:Option Addr)(sl sc:Nat)(hs:a.eval s=Ja sp sl sc)(hsl:sl=T.length - at_)(hsp:at_<T.length→sp=some ⟨g,at_,none⟩)
 (hst:St W0 w K (.row (Ja (some ⟨g,0,none⟩) T.length cap) 5 1 T.length (zAu T)::L))
 (h:∀w',St W0 w' K (.row (Ja (some ⟨g,0,none⟩) T.length cap) 5 1 T.length (zAu (T.drop at_++T.drop (T.length - at_)))::L)→KK (a.put o.dst (I O ((T.length - at_:Nat):Int))) w'):o.wp Jd a w KK Q:=by
 subst hsl;have hes:(Tryz.prog.info? 5).map (·.size)=some 1:=by kernel_rfl
 by_cases h0:at_=T.length
 ·have hrun:=run_copy_none (P:=Jd) w 57 57 o.type 5 (some ⟨g,0,none⟩) sp T.length cap (T.length - at_) sc Tryz.underlying57 hes (by rw[h0];simp);unfold Oper.wp execOp;simp only[ho,resolve,invoke,builtin,Sem.run_bind,Sem.run_pure,Result.andThen_ok,List.map_toArray,List.map_cons,List.map_nil,hd,hs,hrun]
  have h1:=h w (by
   rw[h0,List.drop_length,Nat.sub_self,List.drop_zero,List.nil_append]
   exact hst)
  rw[h0,Nat.sub_self]at h1;exact h1
 ·have hlt:at_<T.length:=by omega
  obtain rfl:=hsp hlt
  rcases hst.rowGet.2 with ⟨hv,_⟩|⟨g2,cap2,cur,e1,_,e3,e4,e5,e6,e7⟩
  ·cases hv
  simp at e1;obtain⟨rfl,rfl⟩:=e1
  have hrun:=run_copy_row (P:=Jd) w 57 57 o.type 5 g 0 T.length cap ⟨g,at_,none⟩ (T.length - at_) sc cur 5 (zAu (T.drop at_)) Tryz.underlying57 hes e3 (by rw[zBs,Jf];exact(Nat.min_eq_left oM).symm)
   (fun j v hj=>by
    have ha:(⟨g,at_,none⟩:Addr).add j=⟨g,at_+j,none⟩:=by unfold Addr.add;split<;>simp_all
    have hjl:j<(zAu (T.drop at_)).length:=(List.getElem?_eq_some_iff.1 hj).1;rw[zBs,Jf]at hjl;rw[ha,hst.rowCell (at_+j) oM];rw[zEB,List.getElem?_drop]at hj
    exact hj) (by rw[zBs,Jf];omega) (zO9 _)
  unfold Oper.wp execOp;simp only[ho,resolve,invoke,builtin,Sem.run_bind,Sem.run_pure,Result.andThen_ok,List.map_toArray,List.map_cons,List.map_nil,hd,hs,hrun];have hk:(zAu (T.drop at_)).length=T.length - at_:=by rw[zBs,Jf]
  have hst2:St W0 (w.setRow g (cur.toList.take 0++zAu (T.drop at_)++cur.toList.drop (0+(zAu (T.drop at_)).length)).toArray) K (.row (Ja (some ⟨g,0,none⟩) T.length cap) 5 1 T.length (zAu (T.drop at_++T.drop (T.length - at_)))::L):=by
   refine hst.step fun S1 h1=>⟨S1,⟨⟨?_,.inr ⟨g,cap,_,rfl,Ji _,setRow_heap w g cur _ _ _ e3,e4,e5,?_,?_⟩⟩,h1.2⟩,(Keeps.setRow w g _).mono (fun k _ hk=>by subst hk;exact(h1.2 _).2 rfl),fun k hk=>⟨.inl hk,?_⟩⟩
   ·rw[zBs,Je,Jf,Jf];omega
   ·have hcl:cur.toList.length=cap:=by rw[Array.length_toList];omega
    simp only[List.take_zero,List.nil_append,Nat.zero_add,List.size_toArray,Je,Jf,hk,hcl]
    omega
   ·rw[List.take_zero,List.nil_append,Nat.zero_add,hk,zCM,zEB,zEB,←e7];simp only[Nat.mul_one];exact zN1 _ _ _ hat (by have hq:cur.toList.length=cur.size:=Array.length_toList;omega)
   ·have:=(h1.1.lt k ((h1.2 k).1 hk)).2
    simpa [World.setRow]using this
  have h1:=h _ hst2;have hgi:goInt (((zAu (T.drop at_)).length:Nat):Int)=I O ((T.length - at_:Nat):Int):=by rw[hk];rfl
  show KK (a.put o.dst (goInt (((zAu (T.drop at_)).length:Nat):Int))) _
  rw[hgi];exact h1
set_option maxHeartbeats 8000000
set_option maxRecDepth 100000
variable {W0 w:World}{K:Know}{L:List Res}
theorem zNK{g cv at_:Nat}{T:Bs}(hat:at_≤T.length)(h:St W0 w K (.row (Ja (some ⟨g,0,none⟩) T.length cv) 5 1 T.length (zAu (T.drop at_++T.drop (T.length - at_)))::L)):St W0 w K (.row (Ja (some ⟨g,0,none⟩) (T.length - at_) cv) 5 1 (T.length - at_) (zAu (T.drop at_))::L):=by
 have h1:=h.rowCut (m:=T.length - at_) oM
 have e:(zAu (T.drop at_++T.drop (T.length - at_))).take (T.length - at_)=zAu (T.drop at_):=by
  rw[zCM,List.take_append_of_le_length (by rw[zBs,Jf];exact Jo _),Jj (by rw[zBs,Jf];exact Jo _)]
 rw[e]at h1;exact h1
theorem zq22{p:Prop}(h:p:=by
 go_step3
 try simp only[Exit.inBlock,Exit.then,Exit.jumps]
 exact⟨FeedJ.mk1 at_ lv _ acc K2 0 rfl HAT.out HS1.out HKK.out HREC.out HLIT.out HACC.out H.out.drop.p2.p2,zH2 HMU.out HAT.out⟩):p:=h
theorem zPC(sb valid:Nat)(rest chunk T:Bs)(hT:rest++chunk=T)(v:Value)(hl:T.length≤100000)(hv:valid≤1000000)(h:St W0 w K (.raw sb #[I O valid,v,I O 0] 187::.row v 5 1 rest.length (zAu rest)::L)):
   Calls Jd 106 #[Jc (some ⟨sb,0,none⟩),Z (bb chunk)] w fun en w'=>∃(v':Value) (q:Option Addr) (cap:Nat) (lr:List BatR),en=Jb (Ja q lr.length cap)∧(q=none→cap=0)∧lr.map BatR.b=(zAt T).1∧(∀x∈lr,zFd x)∧61*lr.length≤T.length∧St W0 w' (K.and (Know.bats (Ja q lr.length cap) lr)) (.raw sb #[I O ((valid+(T.length - (zAt T).2.1.length):Nat):Int),v',I O (zAt T).2.2] 187::.row v' 5 1 (if (zAt T).2.2≠0 then[]else(zAt T).2.1).length (zAu (if (zAt T).2.2≠0 then[]else(zAt T).2.1))::L):=by
 have H:=hQd h;have HT:=hQd hT;have HTL:=hQd hl;have hll:rest.length+chunk.length=T.length:=by rw[←hT,Je]
 obtain⟨c0,c1,c2⟩:=uR3 h;simp at c0 c1 c2;clear h hT;go_enter Tryz.func106,Tryz.ntmps106;go_wp2;refine zPz (FeedJ sb valid chunk T W0 K L) (zIr T) (fun l a w hh=>hh.elim (fun g=> .inl g.1) (fun g=> .inr g.1)) rfl rfl ?_ ?_ ?_
 · intro pass;have hrl:(rest.length:Int)≤100000:=by omega
   go_wp2_with (at_builtin;refine zI8 rfl _ _ rfl v rest.length rest chunk rfl rfl H.out.p1 rfl oM ?_;intro v' w1 h;rw[HT.out]at h;obtain⟨pv,cv,hpv⟩:=h.rowAny;subst hpv;obtain⟨e0,e1,e2⟩:=uR3 h.p1;have r1:=h.p1.rawFree 1;simp at e0 e1 e2;have h:=(show St W0 (w1.setCell ⟨sb,1,none⟩ (Ja pv T.length cv)) K (.raw sb #[I O valid,Ja pv T.length cv,I O 0] 187::.row (Ja pv T.length cv) 5 1 T.length (zAu T)::L)from h.p1.rawSet 1 (Ja pv T.length cv));replace H:=hQd h;clear h)
   go_step3
   first|exact pass _ _ (FeedJ.mk0 0 (Ja none 0 0) (Ja pv T.length cv) [] K rfl (Ji _) rfl (Know.has_refl _) (fun x hx=>by cases hx) (fun x hx=>by cases hx) (Jo _) (H.out.nilRow 30 12))|(go_step;first|exact pass _ _ (FeedJ.mk0 0 (Ja none 0 0) (Ja pv T.length cv) [] K rfl (Ji _) rfl (Know.has_refl _) (fun x hx=>by cases hx) (fun x hx=>by cases hx) (Jo _) (H.out.nilRow 30 12))|(go_step;first|exact pass _ _ (FeedJ.mk0 0 (Ja none 0 0) (Ja pv T.length cv) [] K rfl (Ji _) rfl (Know.has_refl _) (fun x hx=>by cases hx) (fun x hx=>by cases hx) (Jo _) (H.out.nilRow 30 12))|(go_step;exact pass _ _ (FeedJ.mk0 0 (Ja none 0 0) (Ja pv T.length cv) [] K rfl (Ji _) rfl (Know.has_refl _) (fun x hx=>by cases hx) (fun x hx=>by cases hx) (Jo _) (H.out.nilRow 30 12)))))
 · intro a' w' hJ;refine FeedJ.elim0 hJ (fun at_ lv v acc K2 u hat hsc hkk hrec hlit hacc hst hmu=> ?_)
   · have HMU:=hQd hmu;clear c0 c1 c2 hJ hmu H;have H:=hQd hst;obtain⟨e0,e1,e2⟩:=uR3 hst.p1;simp at e0 e1 e2
     rcases hst.p2.rowGet.2 with ⟨hvn,hn0⟩|⟨g,cv,cur,hvs,_,_,hcv,_⟩
     · obtain rfl:at_=0:=by omega
       subst hvn;have hT0:T=[]:=List.eq_nil_of_length_eq_zero hn0;have HS:=hQd hsc;have HKK:=hQd hkk;have HREC:=hQd hrec;have HLIT:=hQd hlit;have HACC:=hQd hacc;have HAT:=hQd hat;have hti:(T.length:Int)≤100000:=by have:=HTL.out;omega
       have HRL:=hQd (show(T.drop 0).length≤1000000 by rw[Jf];have:=HTL.out;omega);have hai:(0:Int)≤(T.length:Int):=by omega
       have HRD:=hQd (show zPf (Ja none 0 0) T.length T (T.drop 0) (Ja none 0 0)from .inl ⟨rfl,by rw[hT0];rfl⟩);clear hsc hkk hrec hlit hacc hat hst;have HF:=hQd (show zAo (T.drop 0)=.ok none by unfold zAo;rw[if_pos (by rw[hT0];decide)]);have HS1:=hQd (show zAt T=(acc.map BatR.b,T.drop 0,0) by rw[HS.out,zAU HF.out,List.append_nil]);clear hT0 hn0 hai;go_wp2_with (go_at_call 137;(with_reducible refine(zCT (T.drop 0) _ HRD.out HRL.out HF.out H.out.p2).mono ?_);rintro e_ wn ⟨rfl,h⟩;obtain⟨tb,htb⟩:=eX wn.heap.size;have h:=h.allocRaw #[I O 0,I O 0,U false,U false,U false,I O 0,I O 0,I O 0,I O 0,I O 0,I O 0,Ja none 0 0] 30;rw[htb]at h;replace H:=hQd h;clear h)
       go_step3
       try simp only[Exit.inBlock,Exit.then,Exit.jumps]
       exact⟨FeedJ.mk1 0 lv _ acc K2 0 rfl HAT.out HS1.out HKK.out HREC.out HLIT.out HACC.out H.out.drop.p2.p2,zH2 HMU.out HAT.out⟩
     · subst hvs;have HS:=hQd hsc;have HKK:=hQd hkk;have HREC:=hQd hrec;have HLIT:=hQd hlit;have HACC:=hQd hacc;have HAT:=hQd hat;have hti:(T.length:Int)≤100000:=by have:=HTL.out;omega
       have HRL:=hQd (show(T.drop at_).length≤1000000 by rw[Jf];have:=HTL.out;omega);have hai:(at_:Int)≤(T.length:Int):=by omega
       have htc:(T.length:Int)≤(cv:Int):=by omega
       have hac:(at_:Int)≤(cv:Int):=by omega
       by_cases hca:cv=at_
       · have hR0:T.drop at_=[]:=List.drop_of_length_le oM
         have HRD:=hQd (show zPf (Ja (some ⟨g,0,none⟩) T.length cv) T.length T (T.drop at_) (Ja (some ⟨g,0,none⟩) 0 0)from .inr ⟨⟨g,0,none⟩,0,by rw[hR0];rfl,by rw[hR0];exact Jo _,fun W0 w K L hh k hk c'=>by
           rw[hR0]at hk ⊢;obtain rfl:k=0:=by simpa using hk
           exact zO2 w ⟨g,0,none⟩ c'⟩)
         have hca2:T.length=at_:=by omega
         clear hsc hkk hrec hlit hacc hat hst;have HF:=hQd (show zAo (T.drop at_)=.ok none by unfold zAo;rw[if_pos (by rw[hR0];decide)]);have HS1:=hQd (show zAt T=(acc.map BatR.b,T.drop at_,0) by rw[HS.out,zAU HF.out,List.append_nil]);clear hR0;go_wp2_with (go_at_call 137;(with_reducible refine(zCT (T.drop at_) _ HRD.out HRL.out HF.out H.out.p2).mono ?_);rintro e_ wn ⟨rfl,h⟩;obtain⟨tb,htb⟩:=eX wn.heap.size;have h:=h.allocRaw #[I O 0,I O 0,U false,U false,U false,I O 0,I O 0,I O 0,I O 0,I O 0,I O 0,Ja none 0 0] 30;rw[htb]at h;replace H:=hQd h;clear h)
         exact zq22
       · have HRD:=hQd (show zPf (Ja (some ⟨g,0,none⟩) T.length cv) T.length T (T.drop at_) (Ja (some ⟨g,at_,none⟩) (T.length - at_) (cv - at_))from .inr ⟨⟨g,at_,none⟩,cv - at_,by rw[Jf],by rw[Jf];omega,fun W0 w K L hh k hk c'=>hh.rowTextAt at_ k c' rfl (by rw[Jf]at hk;omega)⟩);clear hsc hkk hrec hlit hacc hst
         cases hf:zAo (T.drop at_)with
         |error e=>
           have HF:=hQd hf;have HS1:=hQd (show zAt T=(acc.map BatR.b,T.drop at_,e) by rw[HS.out,zDA HF.out,List.append_nil]);have h0:=zIY hf;have g1e:(e==0)=false:=by rw[beq_eq_false_iff_ne];exact h0
           have g2e:(e !=0)=true:=by simp[bne,g1e]
           clear hf h0 hat;go_wp2_with (go_at_call 137;(with_reducible refine(zJR (T.drop at_) _ HRD.out HRL.out e HF.out H.out.p2).mono ?_);rintro e_ wn ⟨nz,rfl,h⟩;obtain⟨tb,htb⟩:=eX wn.heap.size;have h:=h.allocRaw #[I O 0,I O 0,U false,U false,U false,I O 0,I O 0,I O 0,I O 0,I O 0,I O 0,Ja none 0 0] 30;rw[htb]at h;replace H:=hQd h;clear h)
           go_step3
           try simp only[Exit.inBlock,Exit.then,Exit.jumps]
           exact⟨FeedJ.mk1 at_ lv _ acc K2 e rfl HAT.out HS1.out HKK.out HREC.out HLIT.out HACC.out H.out.drop.p2.p2,zH2 HMU.out HAT.out⟩
         |ok o=>
           cases o with
           |none=>
            clear hat;have HF:=hQd hf;have HS1:=hQd (show zAt T=(acc.map BatR.b,T.drop at_,0) by rw[HS.out,zAU HF.out,List.append_nil]);clear hf;go_wp2_with (go_at_call 137;(with_reducible refine(zCT (T.drop at_) _ HRD.out HRL.out HF.out H.out.p2).mono ?_);rintro e_ wn ⟨rfl,h⟩;obtain⟨tb,htb⟩:=eX wn.heap.size;have h:=h.allocRaw #[I O 0,I O 0,U false,U false,U false,I O 0,I O 0,I O 0,I O 0,I O 0,I O 0,Ja none 0 0] 30;rw[htb]at h;replace H:=hQd h;clear h)
            exact zq22
           |some y=>
            obtain⟨b,n⟩:=y;have HF:=hQd hf;obtain⟨⟨hn1,hn2⟩,hlb⟩:=zFM hf;rw[Jf]at hn2 hlb;obtain⟨an,han⟩:=eX (at_+n);have hwn:IntKind.i64.wrap ((at_:Int)+(n:Int))=(an:Int):=by rw[IntKind.wrap_i64];omega
            have hin:(at_:Int)+(n:Int)=(an:Int):=by omega
            have HAW:=hQd (show -9223372036854775808≤(an:Int)∧(an:Int)≤9223372036854775807 by omega);have g0n:((n:Int)==0)=false:=by rw[beq_eq_false_iff_ne];omega
            have HS0:=hQd (show zAt T=((acc++[(⟨b,[],none,0⟩:BatR)]).map BatR.b++(zAt (T.drop an)).1,(zAt (T.drop an)).2) by rw[HS.out,zBY HF.out,List.drop_drop,han,List.map_append,List.append_assoc];rfl);have HAN:=hQd (show an≤T.length by omega);have HLB:=hQd (show zRD 1000000 b from⟨by have:=hlb.1;have:=HTL.out;omega,fun x hx=>by have:=hlb.2 x hx;have:=HTL.out;omega⟩);have HA2:=hQd (show 61*(acc.length+1)≤an by have:=HACC.out;omega);have HN:=hQd (show 0<n by omega);have HNE:=hQd han;have HAB:=hQd (show acc.length≤100000 by have:=HACC.out;have:=HTL.out;omega);clear hf hlb hn1 hn2 han hat
            go_wp2_with (first
   |(go_at_call 137;(with_reducible refine(zIh (T.drop at_) _ HRD.out HRL.out b n HF.out H.out.p2).mono ?_);rintro e_ wn ⟨q,l,cap2,rfl,hlr,h⟩;obtain⟨tb,htb⟩:=eX wn.heap.size;have h:=h.allocRaw #[I O b.base,I O b.leader,U b.app,U b.txn,U b.ctl,I O b.last,I O b.first,I O b.maxt,I O b.prod,I O b.epoch,I O b.seq,Ja q l.length cap2] 30;rw[htb]at h;have HLR:=hQd hlr;clear hlr;obtain⟨x0,x1,x2,x3,x4,x5,x6,x7,x8,x9,x10,x11,y0,y1,y2,y3,y4,y5,y6,y7,y8,y9,y10,y11⟩:=zAd (b:=tb) (h);replace H:=hQd h;clear h)
   |(at_builtin;refine zAC rfl _ _ 22 rfl 30 Tryz.underlying22 zEZ _ _ _ rfl H.out.p2 [I O b.base,I O b.leader,U b.app,U b.txn,U b.ctl,I O b.last,I O b.first,I O b.maxt,I O b.prod,I O b.epoch,I O b.seq,Ja q l.length cap2] 30 (by rw[World.size_alloc,htb];rfl) rfl (by simp[Value.oneCell']) (by have:=HAB.out;unfold maxLen;omega) (by have:=HAB.out;omega) ?_;intro v' w' h;replace H:=hQd h;clear h))
            go_step3
            try simp only[Exit.inBlock,Exit.then,Exit.jumps]
            rw[IntWalk.wrap64_in (an:Int) HAW.out]
            exact⟨FeedJ.mk0 an _ _ (acc++[⟨b,l,q,cap2⟩]) (K2.and (Know.recs (Ja q l.length cap2) l)) rfl HAN.out (by rw[HS0.out,List.map_append,List.map_append];rfl) (Know.has_trans (Know.has_left (Know.has_refl _)) HKK.out) (fun x hx=>by
             rcases List.mem_append.1 hx with hx|hx
             · exact Know.has_left (HREC.out x hx)
             · rw[List.mem_singleton.1 hx];exact Know.has_right (Know.has_refl _)) (fun x hx=>by
             rcases List.mem_append.1 hx with hx|hx
             · exact HLIT.out x hx
             · rw[List.mem_singleton.1 hx];exact⟨HLR.out,HLB.out⟩) (by rw[Je];exact HA2.out) (by rw[Je,List.flatMap_append];exact H.out.p1.drop.p2.p1),zRE HMU.out HAT.out HN.out (by rw[HNE.out];rfl)⟩
 · intro a' w' hJ;refine FeedJ.elim1 hJ (fun at_ lv v acc K2 e u hat hsc hkk hrec hlit hacc hst hmu=> ?_)
   · clear c0 c1 c2 hJ hmu H
     have hform:∃q cap,lv=Ja q acc.length cap∧(q=none→cap=0):=by
       rcases hst.rowGet.2 with ⟨e1,e2⟩|⟨g2,cap2,_,e1,_⟩
       · exact⟨none,0,by rw[e1,e2],fun _=>rfl⟩
       · exact⟨_,cap2,e1,fun hh=>by cases hh⟩
     obtain⟨q,cap,rfl,hqc⟩:=hform;have HQC:=hQd hqc;have hf:=hst.freezeBats hrec;have hf:=hf.know (K':=K.and (Know.bats _ acc)) (fun w F hh=>⟨hkk _ _ hh.1,hh.2⟩);clear hqc;have H:=hQd hf;obtain⟨e0,e1,e2⟩:=uR3 hf;obtain⟨q0,q1,q2⟩:=uS3 hf;simp at e0 e1 e2;have HS1:=hQd hsc;have HLIT:=hQd hlit;have HACC2:=hQd (show 61*acc.length≤T.length by omega);have HAT:=hQd hat;have hti:(T.length:Int)≤100000:=by have:=HTL.out;omega
     have hai:(at_:Int)≤(T.length:Int):=by omega
     obtain⟨vn,hvn⟩:=eX (valid+at_);have hwv:IntKind.i64.wrap ((valid:Int)+(at_:Int))=(vn:Int):=by rw[IntKind.wrap_i64];omega
     have hvi:(valid:Int)+(at_:Int)=(vn:Int):=by omega
     have hwz:IntKind.i64.wrap (vn:Int)=(vn:Int):=by rw[IntKind.wrap_i64];omega
     have HVN:=hQd (show valid+(T.length - (T.drop at_).length)=vn by rw[Jf];omega)
     by_cases he:e=0
     rotate_left
     · have g1e:(e==0)=false:=by rw[beq_eq_false_iff_ne];exact he
       have g2e:(e !=0)=true:=by simp[bne,g1e]
       have HE:=hQd he;clear hsc hkk hrec hlit hacc hat hst hf he hvn hv hl;go_wp2_with fail;simp only[Exit.jumps];go_ret
       exact⟨Ja none 0 0,q,cap,acc,rfl,HQC.out,by rw[HS1.out],HLIT.out,HACC2.out,by
         rw[HS1.out];simp only;rw[HVN.out,if_pos HE.out]
         exact((((H.out.rawSet 0 (I O vn)).rawSet 2 (I O e)).rawSet 1 (Ja none 0 0)).p1.drop.nilRow 5 1).p1⟩
     · subst he
       by_cases ha0:at_=0
       · have ha1:¬0<(at_:Int):=by omega
         have HD0:=hQd (show T.drop at_=T by rw[ha0,List.drop_zero]);clear hsc hkk hrec hlit hacc hat hst hf hvn hv hl ha0;go_wp2_with fail;simp only[Exit.jumps];go_ret
         exact⟨v,q,cap,acc,rfl,HQC.out,by rw[HS1.out],HLIT.out,HACC2.out,by
           rw[HS1.out];simp only;rw[HVN.out,if_neg sM,HD0.out]
           exact(H.out.rawSet 0 (I O vn)).rawSet 2 (I O 0)⟩
       · have ha1:0<(at_:Int):=by omega
         rcases hf.p1.rowGet.2 with ⟨_,hn0⟩|⟨g,cv,cur,hvs,_,_,hcv,_⟩
         · omega
         subst hvs;have hac:(at_:Int)≤(cv:Int):=by omega
         have htc:(T.length:Int)≤(cv:Int):=by omega
         have hkc:((T.length - at_:Nat):Int)≤(cv:Int):=by omega
         by_cases hca:cv=at_
         · obtain rfl:at_=T.length:=by omega
           subst hca;have HSL:=hQd (show 0=T.length - T.length by omega);have HSP:=hQd (show T.length<T.length→(some ⟨g,0,none⟩:Option Addr)=some ⟨g,T.length,none⟩from fun hh=>absurd hh oM);clear hsc hkk hrec hlit hacc hat hst hf hvn hv hl ha0;go_upto_region 15 with (fail);have hs:=(((H.out.rawSet 0 (I O vn)).rawSet 2 (I O 0))).drew;refine wp_region_held_drew (S:=fun _=>True) kR trivial (fun hHeld=> ?_);refine tR 0 ?_;refine tR 1 ?_;refine tR 2 ?_;refine tR 3 ?_;refine tR 5 ?_;refine tR 6 ?_;refine tR 7 ?_;refine tR 9 ?_;refine tR 10 ?_;refine tR 11 ?_;refine tR 13 ?_;refine wR [4,8,12] (rC rfl (fun KK hK=> ?_) (rC rfl (fun KK hK=> ?_) (rC rfl (fun KK hK=> ?_) rN)))
           focus
            have z1:=hs.rawCell 1;simp at z1;go_simp;refine zK hK (trivial) (fun hHeld=> ?_);clear hK KK
            clear z1;refine wR [8,12] (rC rfl (fun KK hK=> ?_) (rC rfl (fun KK hK=> ?_) rN))
            focus
             have z1:=hs.rawCell 1;simp at z1;go_simp;refine zK hK (trivial) (fun hHeld=> ?_);clear hK KK
             clear z1;refine wR [12] (rC rfl (fun KK hK=> ?_) rN);have z1:=hs.rawCell 1;simp at z1;go_simp;refine zK hK (trivial) (fun hHeld=> ?_);clear hK KK
             clear z1;refine tR 14 ?_
            rotate_left
            focus
             have z1:=hs.rawCell 1;simp at z1;go_simp;refine zK hK (trivial) (fun hHeld=> ?_);clear hK KK
             clear z1;refine tR 14 ?_;refine wR [8] (rC rfl (fun KK hK=> ?_) rN);have z1:=hs.rawCell 1;simp at z1;go_simp;refine zK hK (trivial) (fun hHeld=> ?_);clear hK KK
             clear z1
            all_goals
             refine wR [15] (rC rfl (fun KK hK=> ?_) rN);rw[if_pos (by rfl)];refine zAK (.tmp 75) (.tmp 81) rfl g T.length T T.length HAT.out (by rfl) _ _ _ (by rfl) HSL.out HSP.out hs.p1 (fun w' h=> ?_);have hs:=h;clear h;refine zK hK (trivial) (fun hHeld=> ?_);clear hK KK
           rotate_left 2
           focus
            have z1:=hs.rawCell 1;simp at z1;go_simp;refine zK hK (trivial) (fun hHeld=> ?_);clear hK KK
            clear z1;refine wR [4,12] (rC rfl (fun KK hK=> ?_) (rC rfl (fun KK hK=> ?_) rN))
            focus
             have z1:=hs.rawCell 1;simp at z1;go_simp;refine zK hK (trivial) (fun hHeld=> ?_);clear hK KK
             clear z1;refine wR [12] (rC rfl (fun KK hK=> ?_) rN);have z1:=hs.rawCell 1;simp at z1;go_simp;refine zK hK (trivial) (fun hHeld=> ?_);clear hK KK
             clear z1;refine tR 14 ?_;refine wR [15] (rC rfl (fun KK hK=> ?_) rN);rw[if_pos (by rfl)];refine zAK (.tmp 75) (.tmp 81) rfl g T.length T T.length HAT.out (by rfl) _ _ _ (by rfl) HSL.out HSP.out hs.p1 (fun w' h=> ?_);have hs:=h;clear h;refine zK hK (trivial) (fun hHeld=> ?_);clear hK KK
            rotate_left
            focus
             have z1:=hs.rawCell 1;simp at z1;go_simp;refine zK hK (trivial) (fun hHeld=> ?_);clear hK KK
             clear z1;refine tR 14 ?_;refine wR [4,15] (rC rfl (fun KK hK=> ?_) (rC rfl (fun KK hK=> ?_) rN))
             focus
              have z1:=hs.rawCell 1;simp at z1;go_simp;refine zK hK (trivial) (fun hHeld=> ?_);clear hK KK
              clear z1;refine wR [15] (rC rfl (fun KK hK=> ?_) rN);rw[if_pos (by rfl)];refine zAK (.tmp 75) (.tmp 81) rfl g T.length T T.length HAT.out (by rfl) _ _ _ (by rfl) HSL.out HSP.out hs.p1 (fun w' h=> ?_);have hs:=h;clear h;refine zK hK (trivial) (fun hHeld=> ?_);clear hK KK
             rotate_left
             focus
              rw[if_pos (by rfl)];refine zAK (.tmp 75) (.tmp 81) rfl g T.length T T.length HAT.out (by rfl) _ _ _ (by rfl) HSL.out HSP.out hs.p1 (fun w' h=> ?_);have hs:=h;clear h;refine zK hK (trivial) (fun hHeld=> ?_);clear hK KK
              refine wR [4] (rC rfl (fun KK hK=> ?_) rN);have z1:=hs.p1.rawCell 1;simp at z1;go_simp;refine zK hK (trivial) (fun hHeld=> ?_);clear hK KK
              clear z1
           rotate_left 3
           focus
            have z1:=hs.rawCell 1;simp at z1;go_simp;refine zK hK (trivial) (fun hHeld=> ?_);clear hK KK
            clear z1;refine tR 14 ?_;refine wR [4,8] (rC rfl (fun KK hK=> ?_) (rC rfl (fun KK hK=> ?_) rN))
            focus
             have z1:=hs.rawCell 1;simp at z1;go_simp;refine zK hK (trivial) (fun hHeld=> ?_);clear hK KK
             clear z1;refine wR [8] (rC rfl (fun KK hK=> ?_) rN);have z1:=hs.rawCell 1;simp at z1;go_simp;refine zK hK (trivial) (fun hHeld=> ?_);clear hK KK
             clear z1;refine wR [15] (rC rfl (fun KK hK=> ?_) rN);rw[if_pos (by rfl)];refine zAK (.tmp 75) (.tmp 81) rfl g T.length T T.length HAT.out (by rfl) _ _ _ (by rfl) HSL.out HSP.out hs.p1 (fun w' h=> ?_);have hs:=h;clear h;refine zK hK (trivial) (fun hHeld=> ?_);clear hK KK
            rotate_left
            focus
             have z1:=hs.rawCell 1;simp at z1;go_simp;refine zK hK (trivial) (fun hHeld=> ?_);clear hK KK
             clear z1;refine wR [4,15] (rC rfl (fun KK hK=> ?_) (rC rfl (fun KK hK=> ?_) rN))
             focus
              have z1:=hs.rawCell 1;simp at z1;go_simp;refine zK hK (trivial) (fun hHeld=> ?_);clear hK KK
              clear z1;refine wR [15] (rC rfl (fun KK hK=> ?_) rN);rw[if_pos (by rfl)];refine zAK (.tmp 75) (.tmp 81) rfl g T.length T T.length HAT.out (by rfl) _ _ _ (by rfl) HSL.out HSP.out hs.p1 (fun w' h=> ?_);have hs:=h;clear h;refine zK hK (trivial) (fun hHeld=> ?_);clear hK KK
             rotate_left
             focus
              rw[if_pos (by rfl)];refine zAK (.tmp 75) (.tmp 81) rfl g T.length T T.length HAT.out (by rfl) _ _ _ (by rfl) HSL.out HSP.out hs.p1 (fun w' h=> ?_);have hs:=h;clear h;refine zK hK (trivial) (fun hHeld=> ?_);clear hK KK
              refine wR [4] (rC rfl (fun KK hK=> ?_) rN);have z1:=hs.p1.rawCell 1;simp at z1;go_simp;refine zK hK (trivial) (fun hHeld=> ?_);clear hK KK
              clear z1
           all_goals
            refine tR 16 ?_;refine tR 17 ?_;refine tR 18 ?_;refine wR [19] (rC rfl (fun KK hK=> ?_) rN);have hs:=hs.p1;have q1:=hs.rawFree 1;have z1:=hs.rawCell 1;simp at z1;rw[if_pos (by rfl)];refine zHx (w':=w'.setCell ⟨sb,1,none⟩ (Ja (some ⟨g,0,none⟩) 0 T.length)) (by go_simp) ?_;obtain⟨wz,ez,hs⟩:=hs.setEx 1 (Ja (some ⟨g,0,none⟩) 0 T.length);rw[ez];clear ez q1 z1;refine zK hK (trivial) (fun hHeld=> ?_);clear hK KK
            refine wpAnyH_done kR ?_ _;clear hHeld;go_wp2_with fail;simp only[Exit.jumps];go_ret;exact⟨(Ja (some ⟨g,0,none⟩) 0 T.length),q,cap,acc,rfl,HQC.out,by rw[HS1.out],HLIT.out,HACC2.out,by rw[HS1.out];simp only;rw[HVN.out,if_neg sM,Jf,Nat.sub_self];have hcut:=zNK HAT.out hs.p1;rw[Nat.sub_self]at hcut;exact hcut.p1⟩
         · have HSL:=hQd (show T.length - at_=T.length - at_ from rfl);have HSP:=hQd (show at_<T.length→(some ⟨g,at_,none⟩:Option Addr)=some ⟨g,at_,none⟩from fun _=>rfl);have hca0:¬cv - at_=0:=by omega
           have hca1:¬cv=at_:=hca;clear hsc hkk hrec hlit hacc hat hst hf hvn hv hl ha0 hca;go_upto_region 15 with (fail);have hs:=(((H.out.rawSet 0 (I O vn)).rawSet 2 (I O 0))).drew;refine wp_region_held_drew (S:=fun _=>True) kR trivial (fun hHeld=> ?_);refine tR 0 ?_;refine tR 1 ?_;refine tR 2 ?_;refine tR 3 ?_;refine tR 5 ?_;refine tR 6 ?_;refine tR 7 ?_;refine tR 9 ?_;refine tR 10 ?_;refine tR 11 ?_;refine tR 13 ?_;refine wR [4,8,12] (rC rfl (fun KK hK=> ?_) (rC rfl (fun KK hK=> ?_) (rC rfl (fun KK hK=> ?_) rN)))
           focus
            have z1:=hs.rawCell 1;simp at z1;go_simp;refine zK hK (trivial) (fun hHeld=> ?_);clear hK KK
            clear z1;refine wR [8,12] (rC rfl (fun KK hK=> ?_) (rC rfl (fun KK hK=> ?_) rN))
            focus
             have z1:=hs.rawCell 1;simp at z1;go_simp;refine zK hK (trivial) (fun hHeld=> ?_);clear hK KK
             clear z1;refine wR [12] (rC rfl (fun KK hK=> ?_) rN);have z1:=hs.rawCell 1;simp at z1;go_simp;refine zK hK (trivial) (fun hHeld=> ?_);clear hK KK
             clear z1;refine tR 14 ?_
            rotate_left
            focus
             have z1:=hs.rawCell 1;simp at z1;go_simp;refine zK hK (trivial) (fun hHeld=> ?_);clear hK KK
             clear z1;refine tR 14 ?_;refine wR [8] (rC rfl (fun KK hK=> ?_) rN);have z1:=hs.rawCell 1;simp at z1;go_simp;refine zK hK (trivial) (fun hHeld=> ?_);clear hK KK
             clear z1
            all_goals
             refine wR [15] (rC rfl (fun KK hK=> ?_) rN);rw[if_pos (by rfl)];refine zAK (.tmp 75) (.tmp 81) rfl g cv T at_ HAT.out (by rfl) _ _ _ (by rfl) HSL.out HSP.out hs.p1 (fun w' h=> ?_);have hs:=h;clear h;refine zK hK (trivial) (fun hHeld=> ?_);clear hK KK
           rotate_left 2
           focus
            have z1:=hs.rawCell 1;simp at z1;go_simp;refine zK hK (trivial) (fun hHeld=> ?_);clear hK KK
            clear z1;refine wR [4,12] (rC rfl (fun KK hK=> ?_) (rC rfl (fun KK hK=> ?_) rN))
            focus
             have z1:=hs.rawCell 1;simp at z1;go_simp;refine zK hK (trivial) (fun hHeld=> ?_);clear hK KK
             clear z1;refine wR [12] (rC rfl (fun KK hK=> ?_) rN);have z1:=hs.rawCell 1;simp at z1;go_simp;refine zK hK (trivial) (fun hHeld=> ?_);clear hK KK
             clear z1;refine tR 14 ?_;refine wR [15] (rC rfl (fun KK hK=> ?_) rN);rw[if_pos (by rfl)];refine zAK (.tmp 75) (.tmp 81) rfl g cv T at_ HAT.out (by rfl) _ _ _ (by rfl) HSL.out HSP.out hs.p1 (fun w' h=> ?_);have hs:=h;clear h;refine zK hK (trivial) (fun hHeld=> ?_);clear hK KK
            rotate_left
            focus
             have z1:=hs.rawCell 1;simp at z1;go_simp;refine zK hK (trivial) (fun hHeld=> ?_);clear hK KK
             clear z1;refine tR 14 ?_;refine wR [4,15] (rC rfl (fun KK hK=> ?_) (rC rfl (fun KK hK=> ?_) rN))
             focus
              have z1:=hs.rawCell 1;simp at z1;go_simp;refine zK hK (trivial) (fun hHeld=> ?_);clear hK KK
              clear z1;refine wR [15] (rC rfl (fun KK hK=> ?_) rN);rw[if_pos (by rfl)];refine zAK (.tmp 75) (.tmp 81) rfl g cv T at_ HAT.out (by rfl) _ _ _ (by rfl) HSL.out HSP.out hs.p1 (fun w' h=> ?_);have hs:=h;clear h;refine zK hK (trivial) (fun hHeld=> ?_);clear hK KK
             rotate_left
             focus
              rw[if_pos (by rfl)];refine zAK (.tmp 75) (.tmp 81) rfl g cv T at_ HAT.out (by rfl) _ _ _ (by rfl) HSL.out HSP.out hs.p1 (fun w' h=> ?_);have hs:=h;clear h;refine zK hK (trivial) (fun hHeld=> ?_);clear hK KK
              refine wR [4] (rC rfl (fun KK hK=> ?_) rN);have z1:=hs.p1.rawCell 1;simp at z1;go_simp;refine zK hK (trivial) (fun hHeld=> ?_);clear hK KK
              clear z1
           rotate_left 3
           focus
            have z1:=hs.rawCell 1;simp at z1;go_simp;refine zK hK (trivial) (fun hHeld=> ?_);clear hK KK
            clear z1;refine tR 14 ?_;refine wR [4,8] (rC rfl (fun KK hK=> ?_) (rC rfl (fun KK hK=> ?_) rN))
            focus
             have z1:=hs.rawCell 1;simp at z1;go_simp;refine zK hK (trivial) (fun hHeld=> ?_);clear hK KK
             clear z1;refine wR [8] (rC rfl (fun KK hK=> ?_) rN);have z1:=hs.rawCell 1;simp at z1;go_simp;refine zK hK (trivial) (fun hHeld=> ?_);clear hK KK
             clear z1;refine wR [15] (rC rfl (fun KK hK=> ?_) rN);rw[if_pos (by rfl)];refine zAK (.tmp 75) (.tmp 81) rfl g cv T at_ HAT.out (by rfl) _ _ _ (by rfl) HSL.out HSP.out hs.p1 (fun w' h=> ?_);have hs:=h;clear h;refine zK hK (trivial) (fun hHeld=> ?_);clear hK KK
            rotate_left
            focus
             have z1:=hs.rawCell 1;simp at z1;go_simp;refine zK hK (trivial) (fun hHeld=> ?_);clear hK KK
             clear z1;refine wR [4,15] (rC rfl (fun KK hK=> ?_) (rC rfl (fun KK hK=> ?_) rN))
             focus
              have z1:=hs.rawCell 1;simp at z1;go_simp;refine zK hK (trivial) (fun hHeld=> ?_);clear hK KK
              clear z1;refine wR [15] (rC rfl (fun KK hK=> ?_) rN);rw[if_pos (by rfl)];refine zAK (.tmp 75) (.tmp 81) rfl g cv T at_ HAT.out (by rfl) _ _ _ (by rfl) HSL.out HSP.out hs.p1 (fun w' h=> ?_);have hs:=h;clear h;refine zK hK (trivial) (fun hHeld=> ?_);clear hK KK
             rotate_left
             focus
              rw[if_pos (by rfl)];refine zAK (.tmp 75) (.tmp 81) rfl g cv T at_ HAT.out (by rfl) _ _ _ (by rfl) HSL.out HSP.out hs.p1 (fun w' h=> ?_);have hs:=h;clear h;refine zK hK (trivial) (fun hHeld=> ?_);clear hK KK
              refine wR [4] (rC rfl (fun KK hK=> ?_) rN);have z1:=hs.p1.rawCell 1;simp at z1;go_simp;refine zK hK (trivial) (fun hHeld=> ?_);clear hK KK
              clear z1
           all_goals
            refine tR 16 ?_;refine tR 17 ?_;refine tR 18 ?_;refine wR [19] (rC rfl (fun KK hK=> ?_) rN);have hs:=hs.p1;have q1:=hs.rawFree 1;have z1:=hs.rawCell 1;simp at z1;rw[if_pos (by rfl)];refine zHx (w':=w'.setCell ⟨sb,1,none⟩ (Ja (some ⟨g,0,none⟩) (T.length - at_) cv)) (by go_simp) ?_;obtain⟨wz,ez,hs⟩:=hs.setEx 1 (Ja (some ⟨g,0,none⟩) (T.length - at_) cv);rw[ez];clear ez q1 z1;refine zK hK (trivial) (fun hHeld=> ?_);clear hK KK
            refine wpAnyH_done kR ?_ _;clear hHeld;go_wp2_with fail;simp only[Exit.jumps];go_ret;exact⟨(Ja (some ⟨g,0,none⟩) (T.length - at_) cv),q,cap,acc,rfl,HQC.out,by rw[HS1.out],HLIT.out,HACC2.out,by rw[HS1.out];simp only;rw[HVN.out,if_neg sM,Jf];exact(zNK HAT.out hs.p1).p1⟩
variable {W0 w:World}{K:Know}{L:List Res}
theorem zQS(l:List BatR)(i:Nat)(hi:i<l.length)(r:Nat)(hr:r<12):(l.flatMap zAL)[i*12+r]? =(zAL l[i])[r]? :=zBJ l zAL 12 (fun _ _=>rfl) i hi r hr
theorem zIZ(l:List BatR):(l.flatMap zAL).length=l.length*12:=by
 induction l with
 |nil=>rfl
 |cons x t ih=>rw[List.flatMap_cons,Je,ih,Jg];show 12+_=_;omega
theorem zOS(l:List BatR):∀u∈l.flatMap zAL,u.oneCell'=true:=by
 intro u hu;obtain⟨x,_,hx⟩:=List.mem_flatMap.1 hu;unfold zAL at hx;simp only[List.mem_cons,List.not_mem_nil,or_false]at hx
 rcases hx with rfl|rfl|rfl|rfl|rfl|rfl|rfl|rfl|rfl|rfl|rfl|rfl<;>rfl
theorem zLP{b off n cap:Nat}{l:List BatR}(hk:K.has (Know.bats (Ja (some ⟨b,off,none⟩) n cap) l))(h:St W0 w K L)(j:Nat)(u:Value)(hu:(l.flatMap zAL)[j]? =some u):w.cell? ((⟨b,off,none⟩:Addr).add j)=some u:=by
 have hj:j<(l.flatMap zAL).length:=(List.getElem?_eq_some_iff.1 hu).1;rw[zIZ]at hj;have hi:j / 12<l.length:=by omega
 have hr:j % 12<12:=Nat.mod_lt _ dD;have hjj:j / 12*12+j % 12=j:=by omega
 rw[←hjj,zQS l _ hi _ hr]at hu;obtain⟨F,hF,_⟩:=h.get;obtain⟨q2,cap2,hv,hrr⟩:=(zHY hk _ _ hF).at;obtain⟨b2,off2,hq,hc⟩:=hrr oM;rw[hq]at hv;simp at hv;obtain⟨⟨rfl,rfl⟩,_,_⟩:=hv;obtain⟨cs,_,hR,hcs⟩:=hc (j / 12) hi;unfold RBat at hR;have ha:(⟨b,off,none⟩:Addr).add j=⟨b,off+(j / 12*12+j % 12),none⟩:=by unfold Addr.add;split<;>simp_all<;>omega
 rw[ha]
 skip
 refine hcs (j % 12) u ?_;rw[hR];exact hu
theorem zGA{ops:Array Oper}{rest:List Oper}{o:Oper}{a:Act}{Q:Exit→Act→World→Prop}(hgd:o.guard=none)(sl x:Operand)
 (ho:o.op=.call {callee:=.builtin .append,args:= #[sl,x],argTypes:= #[22,22]})
 (v:Value)(n:Nat)(xs:List Value)(hs:a.eval sl=v)(hst:St W0 w K (.row v 30 12 n xs::L))(q:Option Addr)(cap:Nat)(lr:List BatR)(hx:a.eval x=Ja q lr.length cap)(hk:K.has (Know.bats (Ja q lr.length cap) lr))(hqc:q=none→cap=0)
 (hb:n+lr.length≤1000000)(h:∀v' w',St W0 w' K (.row v' 30 12 (n+lr.length) (xs++lr.flatMap zAL)::L)→wpList Jd ops Q rest (a.put o.dst v') w'):wpList Jd ops Q (o::rest) a w:=by
 by_cases h0:lr=[]
 ·subst h0
  cases q with
  |none=>
   obtain rfl:=hqc rfl;obtain⟨i0,hi,_⟩:=zEZ.1;refine wpList_append_own_none hgd sl x 22 ho 0 30 i0 12 Tryz.underlying22 hi v n xs hs hst.rowGet hx (h v w ?_)
   show St W0 w K (.row v 30 12 (n+0) (xs++[])::L)
   rw[List.append_nil];exact hst
  |some ad=>
   exact zDR hgd sl x 22 ho 30 Tryz.underlying22 zEZ v n xs hs hst ad 0 cap [] hx rfl (fun j u hj=>by simp at hj) (fun u hu=>by cases hu) (by simp only[Jl]at hb;unfold maxLen;omega) (by simp only[Jl]at hb;omega) h
 ·obtain⟨b,off,rfl⟩:=zCW hk hst (List.length_pos_iff.2 h0);exact zDR hgd sl x 22 ho 30 Tryz.underlying22 zEZ v n xs hs hst ⟨b,off,none⟩ lr.length cap (lr.flatMap zAL) hx (zIZ lr) (fun j u hj=>zLP hk hst j u hj) (zOS lr) (by unfold maxLen;omega) oM h
theorem St.raw_neS{a b:Nat}{c c':Array Value}{T T':TypeId}(h:St W0 w K (.raw a c T::.raw b c' T'::L)):¬(a=b):=by
 exact zq30
theorem zSw(sb:Nat)(chunk:Bs)(c v:Value)(e:Int)(h0:e≠0)(h:St W0 w K (.raw sb #[c,v,I O e] 187::L)):
 Calls Jd 106 #[Jc (some ⟨sb,0,none⟩),Z (bb chunk)] w fun en w'=>en=Jb (Ja none 0 0)∧St W0 w' K (.raw sb #[c,v,I O e] 187::L):=by
 have H:=hQd h;have c2:=h.rawCell 2;simp at c2;have g1e:(e==0)=false:=by rw[beq_eq_false_iff_ne];exact h0
 have g2e:(e !=0)=true:=by simp[bne,g1e]
 clear h h0;go_enter Tryz.func106,Tryz.ntmps106;go_wp2;refine wp_scope_straight ?_;go_wp2;rw[Exit.noGoto_ret];go_ret;exact⟨rfl,H.out⟩
theorem zRS(h:St W0 w K L):
 Calls Jd 105 #[] w fun en w'=>∃sb,en=Jb (Jc (some ⟨sb,0,none⟩))∧St W0 w' K (.raw sb #[I O 0,Ja none 0 0,I O 0] 187::L):=by
 have g1:=h.allocRaw #[I O 0,Ja none 0 0,I O 0] 187;have H:=hQd g1;clear h g1;go_enter Tryz.func105,Tryz.ntmps105;go_wp2;go_ret;exact⟨_,rfl,H.out⟩
theorem zLm(R:Bs):61*(finS R).1.length≤R.length:=by
 obtain⟨k,a1,_,_,_,_,_,a7⟩:=zDz _ R (Jo _)
 show 61*(zAt R).1.length≤_
 omega
theorem zSu(R:Bs):(finS R).2.2.1.length≤R.length∧(finS R).2.1≤R.length:=by
 obtain⟨k,a1,a2,_⟩:=zDz _ R (Jo _);unfold finS;simp only;refine⟨?_,oM⟩
 by_cases h:(zAt R).2.2≠0
 ·rw[if_pos h];exact Ji _
 ·rw[if_neg h,a2,Jf];omega
theorem zDJ{P:Program}{fn:Func}{p t:Tmp}{ty:TypeId}(h:fn.results= #[.tmp t,.cell p ty])(tmps:Array Value)(w:World)(b:Nat)(cs:List Value)(d:TypeDesc)
 (hp:tmps.getD p undef=Jc (some ⟨b,0,none⟩))(hc:w.rangeAt b 0 cs)(hu:P.underlying ty=some d)(hd:d.isRow=true)(hi:(P.info? ty).map (·.size)=some cs.length):
 (results fn tmps).run P w=.ok (.tuple #[tmps.getD t undef,.agg cs.toArray]) w:=by
 have hp':tmps[p]?.getD undef=Jc (some ⟨b,0,none⟩):=by simpa using hp
 simp[results,h,hp',asAddr,run_loadVar_mid w b 0 ty cs d hc hu hd hi]
theorem zSt{R:Bs}{b:BatS}{n:Nat}(h:zBT R=.ok (b,n)):zAo R=.ok (some (b,n)):=by
 obtain⟨x,hp,rfl,hn,ha⟩:=zDW h;unfold zAo;rw[if_neg oM,hp];simp only;rw[if_neg oM,ha]
theorem zT5{R M:Bs}{b:BatS}{n:Nat}(h:zBT (R++M)=.ok (b,n))(hl:R.length<n):zAo R=.ok none:=by
 obtain⟨x,hp,hnn,hn,ha⟩:=zDW h;unfold zAo
 by_cases c:R.length<61
 ·rw[if_pos c]
 ·rw[if_neg c,←zEO R M oM,hp];simp only;rw[if_pos oM]
theorem zNk(R:Bs):∀(l:List BatR),(∀x∈l,SmallOk x.b)→zAt (encB l++R)=(l.map BatR.b++(zAt R).1,(zAt R).2)
 |[],_=>rfl
 |x::t,h=>by
  have h1:=zSt ((h x sM).back (encB t++R));rw[zHO,List.append_assoc,zBY h1,List.drop_left,zNk R t (fun y hy=>h y (by simp[hy]))]
  rfl
theorem zT7(l:List BatR)(h:∀x∈l,SmallOk x.b)(k n:Nat)(hk:k≤(encB l).length)(hn:n≤l.length)(h1:(encB (l.take n)).length≤k)(h2:∀hh:n<l.length,k<(encB (l.take (n+1))).length):
 ∃rest,finS ((encB l).take k)=((l.take n).map BatR.b,(encB (l.take n)).length,rest,0)∧rest.length=k - (encB (l.take n)).length:=by
 have hs:=zO0 l n
 have ht:(encB l).take k=encB (l.take n)++(encB (l.drop n)).take (k - (encB (l.take n)).length):=by
  rw[hs,List.take_append,Jj h1]
 obtain⟨R,hR⟩:=eX ((encB (l.drop n)).take (k - (encB (l.take n)).length))
 have hRl:R.length=k - (encB (l.take n)).length:=by
  have h3:=congrArg Jh hs;rw[Je]at h3;rw[←hR,Jk]
  omega
 have hf:zAo R=.ok none:=by
  by_cases hh:n<l.length
  ·have e1:encB (l.drop n)=l[n].b.enc++encB (l.drop (n+1)):=by rw[List.drop_eq_getElem_cons hh,zHO]
   have e2:=zHN l n hh;have h4:=h2 hh;rw[e2,Je]at h4;refine zT5 (M:=(encB (l.drop n)).drop (k - (encB (l.take n)).length)) (b:=l[n].b) (n:=l[n].b.enc.length) ?_ oM;rw[←hR,List.take_append_drop,e1];exact(h l[n] (Jp hh)).back _
  ·have e1:l.drop n=[]:=List.drop_of_length_le oM;rw[e1]at hR;have:R=[]:=by rw[←hR];simp[encB]
   rw[this];unfold zAo;rw[if_pos dD]
 refine⟨R,?_,hRl⟩;have hsc:=zNk R (l.take n) (fun x hx=>h x (List.mem_of_mem_take hx));unfold finS;rw[ht,hR,hsc,zAU hf];simp only;rw[List.append_nil,Je,if_neg sM]
 congr 2
 omega
theorem zSU{l:List BatR}{s:Bs}{e:Int}(h:allB l=(s,e))(h0:errB l≠0):s=[]∧e=errB l:=by unfold allB at h;rw[if_neg h0]at h;cases h;exact⟨rfl,rfl⟩
theorem zUs{l:List BatR}{s:Bs}{e:Int}(h:allB l=(s,e))(h0:errB l=0):s=encB l∧e=0:=by unfold allB at h;rw[if_pos h0]at h;cases h;exact⟨rfl,rfl⟩
theorem zM2(l:List BatR)(q:Option Addr)(cap:Nat)(s:Bs)(e:Int)(hse:allB l=(s,e))(hf:∀x∈l,x.Fit)(hsm:∀x∈l,zBb (x.l.map (·.1))=true)(hll:l.length≤20){W0 w:World}{K:Know}{L:List Res}(hk:K.has (Know.bats (Ja q l.length cap) l))(h:St W0 w K L):
  Calls Jd 19 #[Ja q l.length cap] w fun en w'=>en=Jb (.tuple #[Z (bb s),I O e])∧St W0 w' K L:=by
 have g1:=h.allocOut;obtain⟨po,hpo⟩:=eX w.heap.size;rw[hpo]at g1;have H:=hQd g1;have HK:=hQd hk;have HFT:=hQd hf;have HSMA:=hQd hsm;have HLL:=hQd hll;have HSE:=hQd hse;clear h g1 hk hf hsm hll hse;go_enter Tryz.func19,Tryz.ntmps19;go_wp2;go_loopw [6,7,8,11] (fun _ _ _ iv wr=>∃k:Nat,k≤l.length∧iv=I O k∧errB (l.take k)=0∧St W0 wr K (.out po ⟨encB (l.take k),0⟩::L)) (fun _ _ _ iv _=>l.length - (intOf iv).toNat)
 case atStart=>exact⟨0,Ji _,rfl,rfl,H.out⟩
 case round=>
  obtain⟨k,hkl,rfl,her,hst⟩:=hrel;clear H;have H:=hQd hst;have HER:=hQd her;clear hst her
  by_cases hlt:k<l.length
  · have hl20:(l.length:Int)≤20:=by have:=HLL.out;omega
    have hstep:=zLo l k hlt HER.out;have hat:=zUb l k hlt HER.out;have het:=zHN l k hlt;obtain⟨b,off,hqq⟩:=zCW HK.out H.out oM;subst hqq;obtain⟨x,hx⟩:=eX (l[k]);have cc:=zBW HK.out H.out k hlt x hx;have hmem:x∈l:=hx ▸ Jp hlt;have XF:=hQd (HFT.out x hmem);have XR2:=hQd XF.out.2.1;have XR3:=hQd XF.out.2.2;have XK:=hQd (zBC HK.out hmem);obtain⟨c0,c1,c2,c3,c4,c5,c6,c7,c8,c9,c10,c11⟩:=cc;obtain⟨wE,hwE⟩:=eX wr.heap.size;have hki:(k:Int)<(l.length:Int):=by omega
    have h:=H.out.allocRaw #[I O x.b.base,I O x.b.leader,U x.b.app,U x.b.txn,U x.b.ctl,I O x.b.last,I O x.b.first,I O x.b.maxt,I O x.b.prod,I O x.b.epoch,I O x.b.seq,Ja x.q x.l.length x.cap] 30;rw[hwE]at h;clear H;have H:=hQd h;clear h;rw[hx]at hstep hat het;have HSX:=hQd (HSMA.out x hmem);have HSTEP:=hQd hstep;clear hstep;obtain⟨x0,x1,x2,x3,x4,x5,x6,x7,x8,x9,x10,x11,y0,y1,y2,y3,y4,y5,y6,y7,y8,y9,y10,y11⟩:=zAd (b:=wE) (H.out)
    by_cases he:zAh x.b=0
    · have HSO:=hQd (BatR.small XF.out HSX.out he);obtain⟨s0,hs0⟩:=eX x.b.enc;have HS:=hQd hs0;rw[hs0]at het
      have OK:=hQd (show(⟨encB (l.take k),0⟩:OutS).ok s0.length by
       have h1:=zQ4 (l.take k) (fun y hy=>(BatR.small (HFT.out y (List.mem_of_mem_take hy)) (HSMA.out y (List.mem_of_mem_take hy)) (zNL _ HER.out y hy)).elen);have h2:=HLL.out;have h3:=HSO.out.elen;rw[HS.out]at h3;rw[Jk]at h1;unfold OutS.ok;simp only
       omega)
      have EP:=hQd (show(⟨encB (l.take k),0⟩:OutS).put s0=⟨encB (l.take (k+1)),0⟩ by rw[het];rfl);have NE:=hQd (show errB (l.take (k+1))=0 by rw[HSTEP.out];exact he);clear het hat hs0 he hx hmem
      go_wp2_with (first
  |(go_at_call 48;clear x0 y0 x1 y1 x2 y2 x3 y3 x4 y4 x5 y5 x6 y6 x7 y7 x8 y8 x9 y9 x10 y10 x11 y11;(with_reducible refine(zH1 x.b s0 HS.out x.l _ _ XR3.out HSO.out XK.out H.out).zM ?_);clear H;intro wn H;obtain⟨x0,x1,x2,x3,x4,x5,x6,x7,x8,x9,x10,x11,y0,y1,y2,y3,y4,y5,y6,y7,y8,y9,y10,y11⟩:=zAd (b:=wE) (H.out))
  |(go_at_call 49;(with_reducible refine(zPu po _ _ H.out.p1 OK.out).mono ?_);rw[EP.out];rintro e_ wn ⟨rfl,h⟩;replace H:=hQd h;clear h))
      go_roundw
      case rel=>exact⟨k+1,hlt,by go_num,NE.out,H.out.p1.drop⟩
      case measure=>first|(simp[intOf];done)|(simp[intOf];omega)
    · have hee:=zSU HSE.out (by rw[hat he];exact he);rw[hat he]at hee;obtain⟨rfl,he0⟩:=hee;have he2:zAh x.b=e:=he0.symm;rw[he2]at he;have HE:=hQd (show zAh ⟨x.b.base,x.b.leader,x.b.app,x.b.txn,x.b.ctl,x.b.last,x.b.first,x.b.maxt,x.b.prod,x.b.epoch,x.b.seq,x.l.map (·.1)⟩=e by rw[XF.out.2.2];exact he2);have H0:=hQd he;have HMX:=hQd (show x.b.first≤9223372036854775807 by have:=XF.out.1.2.2.2.1.2;omega);have HFB:=hQd (FitW.fit XF.out.2.1 HSX.out);have HLL3:=hQd (show x.l.length≤1000 by have:=zDV HSX.out;omega);have gz:(e==0)=false:=by rw[beq_eq_false_iff_ne];exact he
      have gz3:(e !=0)=true:=by simp[bne,gz]
      clear het hat he he0 he2 hx hmem
      go_wp2_with (first
  |(go_at_call 48;clear x0 y0 x1 y1 x2 y2 x3 y3 x4 y4 x5 y5 x6 y6 x7 y7 x8 y8 x9 y9 x10 y10 x11 y11;(with_reducible refine(zIq _ _ _ _ _ _ _ _ _ _ _ x.l _ _ e HE.out H0.out HMX.out HFB.out HLL3.out XK.out H.out).zM ?_);clear H;intro wn H;obtain⟨x0,x1,x2,x3,x4,x5,x6,x7,x8,x9,x10,x11,y0,y1,y2,y3,y4,y5,y6,y7,y8,y9,y10,y11⟩:=zAd (b:=wE) (H.out)))
      go_ret2;exact⟨rfl,H.out.drop.drop⟩
  · obtain rfl:k=l.length:=by omega
    have her:=HER.out;rw[List.take_length]at her;obtain⟨hs,rfl⟩:=zUs HSE.out her;have h:=H.out;rw[List.take_length,←hs]at h;clear H her hs;have H:=hQd h;clear h;have ET:=hQd (show(⟨s,0⟩:OutS).text=(s,0)from rfl)
    go_wp2_with (first
  |(go_at_call 50;(with_reducible refine(zJi po _ H.out).mono ?_);rw[ET.out];rintro e_ wn ⟨rfl,h⟩;replace H:=hQd h;clear h))
    go_ret2;exact⟨rfl,H.out.drop⟩
variable {W0 w:World}{K:Know}{L:List Res}
theorem zRi(sb valid:Nat)(p:Option Addr)(n cap:Nat)(e:Int)(h0:e≠0)(h:St W0 w K (.raw sb #[I O valid,Ja p n cap,I O e] 187::L)):
 Calls Jd 107 #[Jc (some ⟨sb,0,none⟩)] w fun en w'=>en=Jb (.agg #[I O valid,I O 2,I O e])∧St W0 w' K (.raw sb #[I O valid,Ja p n cap,I O e] 187::L):=by
 obtain⟨rb,hrb⟩:=eX w.heap.size;have g1:=h.allocRaw #[I O 0,I O 0,I O 0] 112;rw[hrb]at g1;have H:=hQd g1;have g1e:(e==0)=false:=by rw[beq_eq_false_iff_ne];exact h0
 have g2e:(e !=0)=true:=by simp[bne,g1e]
 clear h g1 h0;go_enter Tryz.func107,Tryz.ntmps107;go_upto_region 1 with (fail);go_cut [3] (fun s3 wx=>∃tb:Nat,s3=Jc (some ⟨tb,0,none⟩)∧St W0 wx K (.raw tb #[I O valid,I O 0,I O e] 112::.raw rb #[I O 0,I O 0,I O 0] 112::.raw sb #[I O valid,Ja p n cap,I O e] 187::L))
 case first=>
  have hs:=H.out.drew;refine wp_region_held_drew (S:=fun w'=>w'.cell? ⟨sb,0,none⟩=some (I O valid)∧w'.cell? ⟨sb,2,none⟩=some (I O e)) kR ⟨hs.p1.rawCell 0,hs.p1.rawCell 2⟩ (fun hHeld=> ?_);refine tR 0 ?_;refine tR 1 ?_;refine tR 2 ?_;refine tR 3 ?_;refine tR 4 ?_;refine tR 5 ?_;refine tR 6 ?_;refine tR 7 ?_;refine tR 8 ?_;refine wR [9] (rC rfl (fun KK hK=> ?_) rN);obtain⟨wy,tb,ey,er,hs⟩:=hs.allocEx #[I O 0,I O 0,I O 0] 112;go_simp
  try rw[ey]
  try rw[er]
  clear ey er;refine zK hK (⟨hs.p2.rawCell 0,hs.p2.rawCell 2⟩) (fun hHeld=> ?_);clear hK KK
  refine wR [10] (rC rfl (fun KK hK=> ?_) rN);rw[if_pos (by rfl)];refine wp_store_mid 112 (.tmp 3) (.tmp 12) rfl tb 0 #[I O valid,I O 0,I O e] (by rfl) (by rfl) hs.there kR (by simp[Value.oneCell']) ?_;obtain⟨wz,ez,hs⟩:=hs.storeEx #[I O valid,I O 0,I O e];rw[ez];clear ez;rw[zCy]at hs;rotate_left
  ·rfl
  refine zK hK (⟨hs.p2.rawCell 0,hs.p2.rawCell 2⟩) (fun hHeld=> ?_);clear hK KK
  refine wpAnyH_done kR ?_ _;clear hHeld;go_wp2_with fail;go_meet;exact⟨tb,rfl,hs⟩
 obtain⟨tb,rfl,h⟩:=hcut;clear H;have H:=hQd h;have hne:=St.raw_neS h;have hne2:=fun hh=>hne (Eq.symm hh)
 obtain⟨a0,a1,a2⟩:=uR3 h;have r1:=h.rawFree 1;obtain⟨b0,b1,b2⟩:=uS3 h.p1;obtain⟨d0,d1,d2⟩:=uR3 h.p1;obtain⟨c0,c1,c2⟩:=uR3 h.p2;simp at a0 a1 a2 d0 d1 d2 c0 c1 c2;clear h;go_wp2_with fail;have hz:St W0 _ _ (.raw rb #[I O valid,I O 2,I O e] 112::.raw tb _ 112::_):=((((H.out.rawSet 1 (I O 2)).p1.rawSet 0 (I O valid)).rawSet 1 (I O 2)).rawSet 2 (I O e));refine bodyPost_ret (zAn rfl _ _ rb [I O valid,I O 2,I O e] _ rfl (zAp hz) Tryz.underlying112 rfl kR) rfl ?_;exact⟨rfl,hz.drop.drop⟩
theorem zq9{p:Prop}(h:p:=by
  have hs:=H.out.drew;refine wp_region_held_drew (S:=fun w'=>w'.cell? ⟨sb,0,none⟩=some (I O valid)∧w'.cell? ⟨sb,2,none⟩=some (I O 0)) kR ⟨hs.p1.rawCell 0,hs.p1.rawCell 2⟩ (fun hHeld=> ?_);refine tR 0 ?_;refine tR 1 ?_;refine tR 2 ?_;refine tR 3 ?_;refine tR 4 ?_;refine tR 5 ?_;refine tR 6 ?_;refine tR 7 ?_;refine tR 8 ?_;refine wR [9] (rC rfl (fun KK hK=> ?_) rN);obtain⟨wy,tb,ey,er,hs⟩:=hs.allocEx #[I O 0,I O 0,I O 0] 112;go_simp
  try rw[ey]
  try rw[er]
  clear ey er;refine zK hK (⟨hs.p2.rawCell 0,hs.p2.rawCell 2⟩) (fun hHeld=> ?_);clear hK KK
  refine wR [10] (rC rfl (fun KK hK=> ?_) rN);rw[if_pos (by rfl)];refine wp_store_mid 112 (.tmp 3) (.tmp 12) rfl tb 0 #[I O valid,I O 0,I O 0] (by rfl) (by rfl) hs.there kR (by simp[Value.oneCell']) ?_;obtain⟨wz,ez,hs⟩:=hs.storeEx #[I O valid,I O 0,I O 0];rw[ez];clear ez;rw[zCy]at hs;rotate_left
  · rfl
  refine zK hK (⟨hs.p2.rawCell 0,hs.p2.rawCell 2⟩) (fun hHeld=> ?_);clear hK KK
  refine wpAnyH_done kR ?_ _;clear hHeld;go_wp2_with fail;go_meet;exact⟨tb,rfl,hs⟩):p:=h
theorem zO4(sb valid:Nat)(p:Option Addr)(n cap:Nat)(hn:0<n)(h:St W0 w K (.raw sb #[I O valid,Ja p n cap,I O 0] 187::L)):
 Calls Jd 107 #[Jc (some ⟨sb,0,none⟩)] w fun en w'=>en=Jb (.agg #[I O valid,I O 1,I O 0])∧St W0 w' K (.raw sb #[I O valid,Ja p n cap,I O 0] 187::L):=by
 obtain⟨rb,hrb⟩:=eX w.heap.size;have g1:=h.allocRaw #[I O 0,I O 0,I O 0] 112;rw[hrb]at g1;have H:=hQd g1;have hni:0<(n:Int):=by omega
 clear h g1 hn;go_enter Tryz.func107,Tryz.ntmps107;go_upto_region 1 with (fail);go_cut [3] (fun s3 wx=>∃tb:Nat,s3=Jc (some ⟨tb,0,none⟩)∧St W0 wx K (.raw tb #[I O valid,I O 0,I O 0] 112::.raw rb #[I O 0,I O 0,I O 0] 112::.raw sb #[I O valid,Ja p n cap,I O 0] 187::L))
 case first=>
  exact zq9
 obtain⟨tb,rfl,h⟩:=hcut;clear H;have H:=hQd h;have hne:=St.raw_neS h;have hne2:=fun hh=>hne (Eq.symm hh)
 obtain⟨a0,a1,a2⟩:=uR3 h;have r1:=h.rawFree 1;obtain⟨b0,b1,b2⟩:=uS3 h.p1;obtain⟨d0,d1,d2⟩:=uR3 h.p1;obtain⟨c0,c1,c2⟩:=uR3 h.p2;simp at a0 a1 a2 d0 d1 d2 c0 c1 c2;clear h;go_wp2_with fail;have hz:St W0 _ _ (.raw rb #[I O valid,I O 1,I O 0] 112::.raw tb _ 112::_):=((((H.out.rawSet 1 (I O 1)).p1.rawSet 0 (I O valid)).rawSet 1 (I O 1)).rawSet 2 (I O 0));refine bodyPost_ret (zAn rfl _ _ rb [I O valid,I O 1,I O 0] _ rfl (zAp hz) Tryz.underlying112 rfl kR) rfl ?_;exact⟨rfl,hz.drop.drop⟩
theorem zMR(sb valid:Nat)(p:Option Addr)(n cap:Nat)(hn:n=0)(h:St W0 w K (.raw sb #[I O valid,Ja p n cap,I O 0] 187::L)):
 Calls Jd 107 #[Jc (some ⟨sb,0,none⟩)] w fun en w'=>en=Jb (.agg #[I O valid,I O 0,I O 0])∧St W0 w' K (.raw sb #[I O valid,Ja p n cap,I O 0] 187::L):=by
 obtain⟨rb,hrb⟩:=eX w.heap.size;have g1:=h.allocRaw #[I O 0,I O 0,I O 0] 112;rw[hrb]at g1;have H:=hQd g1;have hni:¬0<(n:Int):=by omega
 clear h g1 hn;go_enter Tryz.func107,Tryz.ntmps107;go_upto_region 1 with (fail);go_cut [3] (fun s3 wx=>∃tb:Nat,s3=Jc (some ⟨tb,0,none⟩)∧St W0 wx K (.raw tb #[I O valid,I O 0,I O 0] 112::.raw rb #[I O 0,I O 0,I O 0] 112::.raw sb #[I O valid,Ja p n cap,I O 0] 187::L))
 case first=>
  exact zq9
 obtain⟨tb,rfl,h⟩:=hcut;clear H;have H:=hQd h;have hne:=St.raw_neS h;have hne2:=fun hh=>hne (Eq.symm hh)
 obtain⟨a0,a1,a2⟩:=uR3 h;have r1:=h.rawFree 1;obtain⟨b0,b1,b2⟩:=uS3 h.p1;obtain⟨d0,d1,d2⟩:=uR3 h.p1;obtain⟨c0,c1,c2⟩:=uR3 h.p2;simp at a0 a1 a2 d0 d1 d2 c0 c1 c2;clear h;go_wp2_with fail;have hz:St W0 _ _ (.raw rb #[I O valid,I O 0,I O 0] 112::.raw tb _ 112::_):=(((H.out.p1.rawSet 0 (I O valid)).rawSet 1 (I O 0)).rawSet 2 (I O 0));refine bodyPost_ret (zAn rfl _ _ rb [I O valid,I O 0,I O 0] _ rfl (zAp hz) Tryz.underlying112 rfl kR) rfl ?_;exact⟨rfl,hz.drop.drop⟩
theorem zTd{q:Option Addr}{n cap:Nat}{l:List Bs}(hk:K.has (Know.strs (Ja q n cap) l))(h:St W0 w K L)(h0:0<l.length):∃b off,q=some ⟨b,off,none⟩:=by
 obtain⟨F,hF,_⟩:=h.get;obtain⟨q2,cap2,hv,hr⟩:=strRows.at (hk _ _ hF);obtain⟨b,off,hq,_⟩:=hr h0;simp at hv;exact⟨b,off,hv.1.trans hq⟩
theorem zPs{b off n cap:Nat}{l:List Bs}(hk:K.has (Know.strs (Ja (some ⟨b,off,none⟩) n cap) l))(h:St W0 w K L)(i:Nat)(hi:i<l.length)(x:Bs)(hx:l[i]=x):
 w.cell? ⟨b,off+i,none⟩=some (Z (bb x)):=by
 subst hx;obtain⟨F,hF,_⟩:=h.get;obtain⟨q2,cap2,hv,hr⟩:=strRows.at (hk _ _ hF);obtain⟨b2,off2,hq,hc⟩:=hr oM;rw[hq]at hv;simp at hv;obtain⟨⟨rfl,rfl⟩,_,_⟩:=hv;exact hc i hi
theorem zq24{p:Prop}(h:p:=by
  rcases hst.rowGet.2 with ⟨e1,e2⟩|⟨g2,cap2,_,e1,_,_,e4,_⟩
  · exact⟨none,0,by rw[e1,e2],.inl ⟨rfl,rfl⟩,oM⟩
  · exact⟨_,cap2,e1,.inr ⟨g2,rfl⟩,e4⟩):p:=h
theorem zPA(l:List Bs)(A:Bs)(hA:l.flatten=A)(hAl:A.length≤90000)(q:Option Addr)(cap:Nat)(hll:l.length≤1000000){W0 w:World}{K:Know}{L:List Res}(hk:K.has (Know.strs (Ja q l.length cap) l))(h:St W0 w K L):
  Calls Jd 75 #[Ja q l.length cap] w fun en w'=>∃(q2:Option Addr) (cap2:Nat) (lr:List BatR),en=Jb (.tuple #[Ja q2 lr.length cap2,.agg #[I O ((finS A).2.1:Nat),I O (zCP (finS A).2.2.1 (finS A).2.2.2),I O (finS A).2.2.2]])∧lr.map BatR.b=(finS A).1∧(∀x∈lr,zFd x)∧61*lr.length≤A.length∧(((q2=none∧cap2=0)∨∃g,q2=some ⟨g,0,none⟩)∧lr.length≤cap2)∧St W0 w' (K.and (Know.bats (Ja q2 lr.length cap2) lr)) L:=by
 obtain⟨rb,hrb⟩:=eX w.heap.size;have g1:=h.allocRaw #[I O 0,I O 0,I O 0] 112;rw[hrb]at g1;have H:=hQd g1;have HK:=hQd hk;have HAE:=hQd hA;have HAL:=hQd hAl;have hli:(l.length:Int)≤1000000:=by omega
 clear h g1 hk hA hAl hll;go_enter Tryz.func75,Tryz.ntmps75;go_wp2_with (go_at_call 105;(with_reducible refine(zRS H.out).mono ?_);rintro e_ wn ⟨sb,rfl,h⟩;replace H:=hQd h;clear h);go_loopw [5,7,11] (fun lv _ iv wr=>∃(k:Nat) (acc:List BatR) (K2:Know) (v:Value),k≤l.length∧iv=I O k∧Hid (acc.map BatR.b=(finS ((l.take k).flatten)).1)∧Hid (K2.has K)∧Hid (∀x∈acc,K2.has (Know.recs (Ja x.q x.l.length x.cap) x.l))∧Hid (∀x∈acc,zFd x)∧St W0 wr K2 (.row lv 30 12 acc.length (acc.flatMap zAL)::.raw sb #[I O ((finS ((l.take k).flatten)).2.1:Nat),v,I O (finS ((l.take k).flatten)).2.2.2] 187::.row v 5 1 (finS ((l.take k).flatten)).2.2.1.length (zAu (finS ((l.take k).flatten)).2.2.1)::.raw rb #[I O 0,I O 0,I O 0] 112::L)) (fun _ _ iv _=>l.length - (intOf iv).toNat)
 case atStart=>exact⟨0,[],K,Ja none 0 0,Ji _,rfl,hQd (by rw[List.take_zero];show _=(finS []).1;rw[zMD];rfl),hQd (Know.has_refl _),hQd (fun x hx=>by cases hx),hQd (fun x hx=>by cases hx),by
  rw[List.take_zero]
  show St W0 _ K (.row (Ja none 0 0) 30 12 0 []::.raw sb #[I O ((finS []).2.1:Nat),Ja none 0 0,I O (finS []).2.2.2] 187::.row (Ja none 0 0) 5 1 (finS []).2.2.1.length (zAu (finS []).2.2.1)::.raw rb #[I O 0,I O 0,I O 0] 112::L)
  rw[zMD]
  exact(H.out.nilRow 5 1).p1.nilRow 30 12⟩
 case round=>
  obtain⟨k,acc,K2,v,hkl,rfl,HMAP,HKK,HREC,HLIT,hst⟩:=hrel;clear H
  have hAk:((l.take k).flatten).length≤90000:=by
    have h1:l.flatten=((l.take k).flatten)++(l.drop k).flatten:=by rw[←List.flatten_append,List.take_append_drop]
    have h2:=congrArg Jh h1;rw[Je,HAE.out]at h2;have:=HAL.out
    omega
  have hcn:=zLm ((l.take k).flatten);have hfr:=zSu ((l.take k).flatten);have hac:=congrArg Jh HMAP.out;rw[Jn]at hac;have HAB:=hQd (show acc.length≤2000 by omega);obtain⟨⟨bs,vd,rs,er⟩,hfe⟩:∃r,finS ((l.take k).flatten)=r:=⟨_,rfl⟩;replace hst:St W0 wr K2 (.row u5 30 12 acc.length (acc.flatMap zAL)::.raw sb #[I O (vd:Nat),v,I O er] 187::.row v 5 1 rs.length (zAu rs)::.raw rb #[I O 0,I O 0,I O 0] 112::L):=by rw[hfe]at hst;exact hst
  rw[hfe]at hfr;simp only at hfr;have H:=hQd hst
  by_cases hlt:k<l.length
  · obtain⟨b0,off,hqq⟩:=zTd HK.out (H.out.know HKK.out) oM;subst hqq;obtain⟨c,hc⟩:=eX (l[k]);have c0:=zPs HK.out (H.out.know HKK.out) k hlt c hc;have hkn:(k:Int)<(l.length:Int):=by omega
    have hAn:(l.take (k+1)).flatten=((l.take k).flatten)++c:=by rw[List.take_succ_eq_append_getElem hlt,List.flatten_append,hc];simp
    have hAkn:((l.take (k+1)).flatten).length≤90000:=by
      have h1:l.flatten=(l.take (k+1)).flatten++(l.drop (k+1)).flatten:=by rw[←List.flatten_append,List.take_append_drop]
      have h2:=congrArg Jh h1;rw[Je,HAE.out]at h2;have:=HAL.out
      omega
    rw[hAn,Je]at hAkn;have HANX:=hQd hAn;have HFE:=hQd hfe
    by_cases he:er=0
    · subst he;obtain⟨T,hT⟩:=eX (rs++c);have hTl:=congrArg Jh hT;rw[Je]at hTl;have HT:=hQd hT;have HTL:=hQd (show T.length≤100000 by omega);have HV:=hQd (show vd≤1000000 by omega)
      have HSL:=hQd (show(zAt T).1.length≤10000 by
        have:=zLm T;have h8:(finS T).1=(zAt T).1:=rfl;rw[h8]at this
        omega)
      have HFG:=hQd (show finS ((l.take (k+1)).flatten)=(bs++(zAt T).1,vd+(T.length - (zAt T).2.1.length),(if (zAt T).2.2≠0 then[]else(zAt T).2.1),(zAt T).2.2) by
        have h7:=zSv ((l.take k).flatten) c (by rw[hfe]);rw[hAn,h7,hfe];simp only
        rw[hT])
      clear hst hc hAn hAkn hfe hfr hcn hac hAk hT hTl
      go_wp2_with (first
  |(go_at_call 106;(with_reducible refine(zPC sb vd rs c T HT.out v HTL.out HV.out H.out.p2.p2).mono ?_);rintro e_ wn ⟨v',q',cap',lr',rfl,hqc,hlr,hlit,_,h⟩;have h:=h.p2;have HQC:=hQd hqc;have HLR:=hQd hlr;have HLIT2:=hQd hlit;clear hqc hlr hlit;replace H:=hQd h;clear h)
  |(at_builtin;refine zGA rfl _ _ rfl u5 _ _ rfl H.out q' cap' lr' rfl (Know.has_right (Know.has_refl _)) HQC.out (by have:=HAB.out;have h9:=congrArg Jh HLR.out;rw[Jn]at h9;have:=HSL.out;omega) ?_;intro v2 w2 h;replace H:=hQd h;clear h))
      go_roundw
      case rel=>exact⟨k+1,acc++lr',K2.and (Know.bats (Ja q' lr'.length cap') lr'),v',hlt,by go_num,hQd (by rw[HFG.out,List.map_append,HMAP.out,HLR.out,HFE.out]),hQd (Know.has_trans (Know.has_left (Know.has_refl _)) HKK.out),hQd (fun x hx=>by
        rcases List.mem_append.1 hx with hx|hx
        · exact Know.has_left (HREC.out x hx)
        · exact zBC (Know.has_right (Know.has_refl _)) hx),hQd (fun x hx=>by
        rcases List.mem_append.1 hx with hx|hx
        · exact HLIT.out x hx
        · exact HLIT2.out x hx),by rw[HFG.out,Je,List.flatMap_append];exact H.out⟩
      case measure=>first|(simp[intOf];done)|(simp[intOf];omega)
    · have HER:=hQd he
      have HFG:=hQd (show finS ((l.take (k+1)).flatten)=(bs,vd,rs,er) by
        rw[hAn,zT8 ((l.take k).flatten) c (by rw[hfe];exact he),hfe])
      clear hst hc hAn hAkn hfe hfr hcn hac hAk he
      go_wp2_with (first
  |(go_at_call 106;(with_reducible refine(zSw sb c _ v er HER.out H.out.p1).mono ?_);rintro e_ wn ⟨rfl,h⟩;have h:=h.p1;replace H:=hQd h;clear h)
  |(at_builtin;refine zGA rfl _ _ rfl u5 _ _ rfl H.out none 0 [] rfl (zLO _) (fun _=>rfl) (by have:=HAB.out;simp only[Jl];omega) ?_;intro v2 w2 h;replace H:=hQd h;clear h))
      go_roundw
      case rel=>exact⟨k+1,acc,K2,v,hlt,by go_num,hQd (by rw[HFG.out,HMAP.out,HFE.out]),hQd HKK.out,hQd HREC.out,hQd HLIT.out,by rw[HFG.out];have h:=H.out;simp only[List.flatMap_nil,List.append_nil,Jl,Nat.add_zero]at h;exact h⟩
      case measure=>first|(simp[intOf];done)|(simp[intOf];omega)
  · obtain rfl:k=l.length:=by omega
    have HFE:=hQd (show finS A=(bs,vd,rs,er) by rw[←HAE.out,←hfe,List.take_length]);have HMAP2:=hQd (show acc.map BatR.b=bs by rw[HMAP.out,hfe]);have HCNT:=hQd (show 61*acc.length≤A.length by rw[List.take_length,HAE.out]at hcn;rw[List.take_length,HAE.out]at hac;omega)
    have hform:∃q2 cap2,u5=Ja q2 acc.length cap2∧((q2=none∧cap2=0)∨∃g,q2=some ⟨g,0,none⟩)∧acc.length≤cap2:=by
      exact zq24
    obtain⟨q2,cap2,rfl,hq2⟩:=hform;have HQ2:=hQd hq2;have hf:=hst.freezeBats HREC.out;have hf:=hf.know (K':=K.and (Know.bats _ acc)) (fun w F hh=>⟨HKK.out _ _ hh.1,hh.2⟩);obtain⟨pv,cv,hpv⟩:=hf.p1.rowAny;subst hpv;clear H HMAP;have HMAP:=HMAP2;clear HMAP2;have H:=hQd hf;clear hst hfe hfr hcn hac hAk hf hq2
    by_cases he:er=0
    · subst he
      by_cases hr:rs=[]
      · subst hr;go_wp2_with (go_at_call 107;(with_reducible refine(zMR sb vd pv _ cv rfl H.out).mono ?_);rintro e_ wn ⟨rfl,h⟩;have h:=h.p2;have d0:=h.rawCell 0;have b0:=h.rawFree 0;have d1:=h.rawCell 1;have b1:=h.rawFree 1;have d2:=h.rawCell 2;have b2:=h.rawFree 2;simp at d0 d1 d2;replace H:=hQd h;clear h);have hz:St W0 _ _ (.raw rb #[I O vd,I O 0,I O 0] 112::_):=(((H.out.rawSet 0 (I O vd)).rawSet 1 (I O 0)).rawSet 2 (I O 0));refine bodyPost_ret (zDJ rfl _ _ rb [I O vd,I O 0,I O 0] _ rfl (zAp hz) Tryz.underlying112 rfl kR) rfl ?_;exact⟨q2,cap2,acc,by rw[HFE.out];rfl,by rw[HFE.out];exact HMAP.out,HLIT.out,HCNT.out,HQ2.out,hz.drop.drop.drop⟩
      · have hrl:=List.length_pos_iff.2 hr;have HRL2:=hQd hrl;have hst2:zCP rs 0=1:=by unfold zCP;rw[if_neg sM,if_pos hr]
        have HST2:=hQd hst2;clear hr hrl hst2;go_wp2_with (go_at_call 107;(with_reducible refine(zO4 sb vd pv _ cv HRL2.out H.out).mono ?_);rintro e_ wn ⟨rfl,h⟩;have h:=h.p2;have d0:=h.rawCell 0;have b0:=h.rawFree 0;have d1:=h.rawCell 1;have b1:=h.rawFree 1;have d2:=h.rawCell 2;have b2:=h.rawFree 2;simp at d0 d1 d2;replace H:=hQd h;clear h);have hz:St W0 _ _ (.raw rb #[I O vd,I O 1,I O 0] 112::_):=(((H.out.rawSet 0 (I O vd)).rawSet 1 (I O 1)).rawSet 2 (I O 0));refine bodyPost_ret (zDJ rfl _ _ rb [I O vd,I O 1,I O 0] _ rfl (zAp hz) Tryz.underlying112 rfl kR) rfl ?_;exact⟨q2,cap2,acc,by rw[HFE.out];show _=Ending.returned (.tuple #[_,.agg #[_,I O (zCP rs 0),_]]);rw[HST2.out];rfl,by rw[HFE.out];exact HMAP.out,HLIT.out,HCNT.out,HQ2.out,hz.drop.drop.drop⟩
    · have HER:=hQd he;have hst2:zCP rs er=2:=by unfold zCP;rw[if_pos he]
      have HST2:=hQd hst2;clear he hst2;go_wp2_with (go_at_call 107;(with_reducible refine(zRi sb vd pv _ cv er HER.out H.out).mono ?_);rintro e_ wn ⟨rfl,h⟩;have h:=h.p2;have d0:=h.rawCell 0;have b0:=h.rawFree 0;have d1:=h.rawCell 1;have b1:=h.rawFree 1;have d2:=h.rawCell 2;have b2:=h.rawFree 2;simp at d0 d1 d2;replace H:=hQd h;clear h);have hz:St W0 _ _ (.raw rb #[I O vd,I O 2,I O er] 112::_):=(((H.out.rawSet 0 (I O vd)).rawSet 1 (I O 2)).rawSet 2 (I O er));refine bodyPost_ret (zDJ rfl _ _ rb [I O vd,I O 2,I O er] _ rfl (zAp hz) Tryz.underlying112 rfl kR) rfl ?_;exact⟨q2,cap2,acc,by rw[HFE.out];show _=Ending.returned (.tuple #[_,.agg #[_,I O (zCP rs er),_]]);rw[HST2.out];rfl,by rw[HFE.out];exact HMAP.out,HLIT.out,HCNT.out,HQ2.out,hz.drop.drop.drop⟩
theorem zBB:Tryz.prog.cellsOf 3=1:=by kernel_rfl
theorem zLB:Tryz.prog.cellsOf 9=1:=by kernel_rfl
theorem len2{α:Type}{l:List α}(h:l.length=2):∃a b,l=[a,b]:=by
 match l,h with
 |[a,b],_=>exact⟨a,b,rfl⟩
theorem len3{α:Type}{l:List α}(h:l.length=3):∃a b c,l=[a,b,c]:=by
 match l,h with
 |[a,b,c],_=>exact⟨a,b,c,rfl⟩
open Go.ChangeShapes Go.WideShapes Go.ChangeAt Go.Deep
def zEf {H:Type}(t:TypeId) (d:DataW H):Prop:=∀k∈d.weights Jd t,k≤reachBytes
theorem zNw:reachBytes=140737488351232:=rfl
section
variable {H:Type}{enc:TypeId×Value→H}{w:World}{spare:Nat→Bool}{held:Bool}
theorem zQB{ts:List TypeId}{ds:List (DataW H)}(h:(DataW.weightsEach Jd ts ds).all (· ≤reachBytes)=true){j:Nat}{t:TypeId}{d:DataW H}(ht:ts[j]? =some t)(hd:ds[j]? =some d):zEf t d:=by
 intro k hk;have:=List.all_eq_true.1 h k (DataW.weights_mem_each ht hd k hk)
 simpa using this
theorem zCA{t:TypeId}{fs:Array Field}{n N:Nat}{cs:List Value}{y:DataW H×List MemPlace}(ht:Tryz.prog.underlying t=some (.struct fs))(h:DataW.trod enc Jd w 0 spare held n t cs=some y)(hl:zEf t y.1)(hN:∀x∈y.2,x.block<N):
 cs.length=Tryz.prog.cellsOf t∧∃m,∀(i:Nat) (f:Field),fs[i]? =some f→∃z,DataW.trod enc Jd w 0 spare held m f.type ((cs.drop f.offset).take (Tryz.prog.cellsOf f.type))=some z∧zEf f.type z.1∧∀x∈z.2,x.block<N:=by
 obtain⟨xs,m,_,rfl,hc,hxl,hg⟩:=DataW.trod_struct ht h;refine⟨hc,m,fun i f hf=> ?_⟩;have hi:i<fs.size:=(Array.getElem?_eq_some_iff.1 hf).1;have hx:xs[i]? =some (xs[i]'(by omega)):=List.getElem?_eq_getElem (by omega);refine⟨_,(hg i f hf).trans hx,?_,fun x hxx=>hN x (List.mem_flatMap.2 ⟨_,Jp _,hxx⟩)⟩;intro k hk;refine hl k ?_;simp only[DataW.weights,ht];exact DataW.weights_mem_each (j:=i) (by rw[List.getElem?_map,Array.getElem?_toList,hf];rfl) (by rw[List.getElem?_map,hx];rfl) k hk
theorem zK6{t:TypeId}{n:Nat}{cs:List Value}{y:DataW H×List MemPlace}(ht:Tryz.prog.underlying t=some .string)(h:DataW.trod enc Jd w 0 spare held n t cs=some y)(hl:zEf t y.1):∃s:Bs,cs=[Z (bb s)]∧s.length≤140737488351232:=by
 obtain⟨s,e,e2,q⟩:=DataW.trod_string ht h;refine⟨s.data.toList,e,?_⟩;subst e2;have:=hl s.data.toList.length (by simp[DataW.weights]);rw[zNw]at this;exact this
theorem zBi{t:TypeId}{n:Nat}{cs:List Value}{y:DataW H×List MemPlace}(ht:Tryz.prog.underlying t=some (.int .i64))(h:DataW.trod enc Jd w 0 spare held n t cs=some y):∃x:Int,cs=[I O x]∧ -9223372036854775808≤x∧x<9223372036854775808:=by
 obtain⟨x,e,_,q⟩:=DataW.trod_int ht h;exact⟨x,e,wf_i64 q⟩
theorem zD0{t:TypeId}{n:Nat}{cs:List Value}{y:DataW H×List MemPlace}(ht:Tryz.prog.underlying t=some .bool)(h:DataW.trod enc Jd w 0 spare held n t cs=some y):∃x:Bool,cs=[U x]:=by
 obtain⟨x,e,_⟩:=DataW.trod_bool ht h;exact⟨x,e⟩
theorem zDx{P:Program}{e:TypeId}:∀{l:List (DataW H)}{d:DataW H},d∈l→∀k∈d.weights P e,k∈DataW.weightsAll P e l
 |a::l,d,hd,k,hk=>by
  simp only[DataW.weightsAll,List.mem_append]
  rcases List.mem_cons.1 hd with rfl|hd
  ·exact .inl hk
  ·exact .inr (zDx hd k hk)
theorem zDZ{α:Type}{R:World→List Value→α→Prop}{t e:TypeId}{sz N:Nat}(ht:Tryz.prog.underlying t=some (.slice e))(hC:Tryz.prog.cellsOf e=sz)(hsz:0<sz)
 (hR:∀n cs y,DataW.trod enc Jd w 0 spare held n e cs=some y→zEf e y.1→(∀x∈y.2,x.block<N)→∃x,R w cs x)
 {fuel:Nat}{cs:List Value}{x:DataW H×List MemPlace}(h:DataW.trod enc Jd w 0 spare held fuel t cs=some x)(hl:zEf t x.1)(hlt:∀y∈x.2,y.block<N)(hN:N≤w.heap.size):
 ∃v l,cs=[v]∧RowsOf R (· <N) w v sz l∧l.length*Tryz.prog.bytesOf e≤140737488351232∧l.length≤maxLen:=by
 rcases open_slice ht h with ⟨rfl,rfl⟩|⟨a,len,cap,m,n,D,Pl,rfl,hb,hlc,hm,hmm,hx,hi⟩
 ·exact⟨_,[],rfl,⟨none,0,rfl,fun h=>absurd h (by simp)⟩,by simp,by simp⟩
 ·have hlm:len≤m:=by rw[hmm];split<;>omega
  have hp2:x.2=MemPlace.row a (m*Tryz.prog.cellsOf e)++(List.range m).flatMap Pl:=by rw[hx]
  have hx1:x.1=.slice ((List.range len).map D) ((List.range (m - len)).map fun j=>D (len+j)):=by rw[hx]
  have hsum:len*Tryz.prog.bytesOf e≤140737488351232:=by
   have:=hl (((List.range len).map D).length*Tryz.prog.bytesOf e+((List.range (m - len)).map fun j=>D (len+j)).length*Tryz.prog.bytesOf e) (by rw[hx1];simp[DataW.weights,ht,Nat.add_mul]);rw[zNw]at this;simp only[Jn,List.length_range]at this
   omega
  have hle:∀i,i<len→zEf e (D i):=by
   intro i hil k hk;refine hl k ?_;rw[hx1];simp only[DataW.weights,ht,List.mem_cons,List.mem_append];exact .inr (.inl (zDx (List.mem_map.2 ⟨i,List.mem_range.2 hil,rfl⟩) k hk))
  have key:∀i,i<len→∃y:α,∃cs',cs'.length=sz∧R w cs' y∧(∀f u,cs'[f]? =some u→w.cell? ((a.add (i*sz)).add f)=some u):=by
   intro i hil;obtain⟨cs',hc,htr⟩:=hi i (by omega);obtain⟨_,hcl,hat⟩:=World.cells?_some hc;obtain⟨y,hy⟩:=hR n cs' _ htr (hle i hil) (fun z hz=>hlt z (by rw[hp2,List.mem_append];exact .inr (List.mem_flatMap.2 ⟨i,by simp;omega,hz⟩)));rw[hC]at hcl hat;refine⟨y,cs',hcl,hy,fun f u hu=> ?_⟩;have hf:f<sz:=by rw[←hcl];exact(List.getElem?_eq_some_iff.1 hu).1
   rw[hat f hf,hu]
  obtain⟨l,hll,hq⟩:=zTZ len _ key;refine⟨_,l,rfl,⟨some a,cap,by rw[hll],fun h0=> ?_⟩,by rw[hll];exact hsum,by omega⟩;obtain⟨cs0,h1,h2,h3⟩:=hq 0 h0
  have hc0:w.cell? a=some (cs0[0]'(by omega)):=by
   have:=h3 0 _ (List.getElem?_eq_getElem (by omega))
   simpa [Addr.add]using this
  have hsp:a.spot=none:=by
   cases hs:a.spot with
   |none=>rfl
   |some s=>
    unfold World.cell? at hc0
    split at hc0<;>simp_all
  obtain⟨ab,ao,asp⟩:=a;simp only at hsp;subst hsp
  have hlt0:ab<N:=hlt (.cell ab ao) (by
   rw[hp2,List.mem_append]
   left
   simp only[MemPlace.row,List.mem_map,List.mem_range]
   exact⟨0,by rw[hC];exact Nat.mul_pos (by omega) hsz,by simp⟩)
  refine⟨ab,ao,rfl,hlt0,Nat.lt_of_lt_of_le hlt0 hN,fun i hi=> ?_⟩;obtain⟨cs',g1,g2,g3⟩:=hq i hi;refine⟨cs',g1,g2,fun f u hu=> ?_⟩;have:=g3 f u hu;have e1:∀(o q:Nat),(⟨ab,o,none⟩:Addr).add q=⟨ab,o+q,none⟩:=by intro o q;unfold Addr.add;split<;>simp_all
  rw[e1,e1,Jm]at this;exact this
end
theorem RowsOf.part{α:Type}{R:World→List Value→α→Prop}{Q:α→Prop}{D:Nat→Prop}{w:World}{v:Value}{sz:Nat}{l:List α}(h:RowsOf (fun w cs x=>R w cs x∧Q x) D w v sz l):RowsOf R D w v sz l∧∀x∈l,Q x:=by
 refine⟨h.mono (fun _ _ h=>h) (fun _ _ h=>h.1),fun x hx=> ?_⟩;obtain⟨i,hi,rfl⟩:=List.mem_iff_getElem.1 hx;obtain⟨p,cap,rfl,h⟩:=h;obtain⟨b,off,rfl,_,_,hc⟩:=h (by omega);obtain⟨cs,_,h2,_⟩:=hc i hi;exact h2.2
end Go.Proofs.YtenojajfacacoaaGreatDoor
namespace Go.Proofs.YtenojajfacacoaaGreatDoor
open Go.RowKit
open Go.Value renaming bool→U, string→Z, slice→Ja, int→I, pointer→Jc
open Go.Ending renaming returned→Jb
open _root_.Nat renaming le_refl→Jo, zero_le→Ji, add_assoc→Jm
open Go.IntKind renaming i64→O
open _root_.Go.Proofs.Tryz renaming prog→Jd
open _root_.List renaming length_cons→Jg, take_of_length_le→Jj, length_take→Jk, length_append→Je, length→Jh, take→Jq, getElem_mem→Jp, length_drop→Jf, length_nil→Jl, length_map→Jn
theorem zLr:zEg Jd 9 (Z ⟨#[]⟩) 1 16:=zB8 kR rfl dD
section
variable {H:Type}{enc:TypeId×Value→H}{w:World}{spare:Nat→Bool}{held:Bool}
open Go.ChangeShapes Go.WideShapes Go.ChangeAt Go.Deep
end
def zN7 (s:Bs):List Value:=[Z (bb s)]
theorem St.freezeTexts{W0 w:World}{K:Know}{L:List Res}{v:Value}{T:TypeId}{l:List Bs}(h:St W0 w K (.row v T 1 l.length (l.flatMap zN7)::L)):St W0 w (K.and (Know.strs v l)) L:=by
 refine h.freeze fun F S1 _ h1=> ?_
 obtain⟨⟨g1,g2⟩,g3⟩:=h1
 rcases g2 with ⟨rfl,h0⟩|⟨g,cap,cur,rfl,_,hg,hn,hcm,hcs,htake⟩
 ·exact⟨none,0,by rw[h0],fun hh=>absurd hh oM⟩
 ·have hS:S1 g:=(g3 g).2 rfl;have hlt:=zA1 hg;refine⟨_,cap,rfl,fun _=>⟨g,0,rfl,.inr ⟨hS,hlt⟩,hlt,fun i hi=> ?_⟩⟩;refine⟨[Z (bb l[i])],rfl,rfl,fun q u hu=> ?_⟩;have hq:q<1:=(List.getElem?_eq_some_iff.1 hu).1;obtain rfl:q=0:=by omega
  rw[zAO hg,Nat.zero_add]
  have e:(l.flatMap zN7)[i*1+0]? =some u:=by
   rw[zBJ l zN7 1 (fun x hx=>rfl) i hi 0 dD];exact hu
  rw[←htake,List.getElem?_take_of_lt oM]at e
  simpa using e
end Go.Proofs.YtenojajfacacoaaGreatDoor
namespace Go.Proofs.YtenojajfacacoaaGreatDoor
open Go.RowKit
open Go.Value renaming bool→U, string→Z, slice→Ja, int→I, pointer→Jc
open Go.Ending renaming returned→Jb
open _root_.Nat renaming le_refl→Jo, zero_le→Ji, add_assoc→Jm
open Go.IntKind renaming i64→O
open _root_.Go.Proofs.Tryz renaming prog→Jd
open _root_.List renaming length_cons→Jg, take_of_length_le→Jj, length_take→Jk, length_append→Je, length→Jh, take→Jq, getElem_mem→Jp, length_drop→Jf, length_nil→Jl, length_map→Jn
theorem zRT(l:List Bs)(A:Bs)(hA:l.flatten=A)(bs:List BatS)(pv:Nat)(rest:Bs)(pe ps:Int)(hf:finS A=(bs,pv,rest,pe))(hps:zCP rest pe=ps)(hl:A.length≤90000)(q:Option Addr)(cap:Nat)(hll:l.length≤1000000){W0 w:World}{K:Know}{L:List Res}(hk:K.has (Know.strs (Ja q l.length cap) l))(h:St W0 w K L):
 Calls Jd 75 #[Ja q l.length cap] w fun en w'=>∃(q:Option Addr) (cap:Nat) (lr:List BatR),en=Jb (.tuple #[Ja q lr.length cap,.agg #[I O (pv:Nat),I O ps,I O pe]])∧lr.map BatR.b=bs∧(∀x∈lr,zFd x)∧61*lr.length≤A.length∧(((q=none∧cap=0)∨∃g,q=some ⟨g,0,none⟩)∧lr.length≤cap)∧St W0 w' (K.and (Know.bats (Ja q lr.length cap) lr)) L:=by
 refine(zPA l A hA hl q cap hll hk h).mono ?_;rintro en wn ⟨q2,cap2,lr,rfl,h1,h2,h3,h4,h5⟩;rw[hf]at h1;refine⟨q2,cap2,lr,?_,h1,h2,h3,h4,h5⟩;rw[hf,←hps]
end Go.Proofs.YtenojajfacacoaaGreatDoor
