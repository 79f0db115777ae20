/- A text. -/
import Derived.Test.YtenojajfacacoaaGreatDoorGReportRawsCard8
import Derived.Test.YtenojajfacacoaaGreatDoorGReportRawsCard7
import Derived.Test.YtenojajfacacoaaGreatDoorGReportRawsCard9
import Derived.Test.YtenojajfacacoaaGreatDoorGReportRawsCard6
import Derived.Deep.RegionHeld3
import Derived.Deep.DeepCutAuto
import Derived.IntWalk
import Derived.Test.YtenojajfacacoaaGreatDoorGReportRawsCard4
import Derived.Test.YtenojajfacacoaaGreatDoorGReportRawsCard5
import Derived.RegionTactic
import Derived.WalkMore
import Derived.Laws.ComplexArith
import Derived.Test.YtenojajfacacoaaGreatDoorGReportRawsCard1
import Derived.Laws.Cover3
import Derived.Test.YtenojajfacacoaaGreatDoorGReportRawsCard2
/- A text. -/
namespace Go.Proofs.YtenojajfacacoaaGreatDoor
open Go.RowKit
set_option maxHeartbeats 1000000
set_option maxRecDepth 100000
variable {W0 w:World}{K:Know}{L:List Res}
theorem zE9{P:Program}{o:Oper}{a:Act}{w w':World}{v:Value}{KK:Act→World→Prop}{Q:Exit→Act→World→Prop}(hr:(execOp a.eval o).run P w=.ok (.value v) w')(h:KK (a.put o.dst v) w'):o.wp P a w KK Q:=by
 unfold Oper.wp;rw[hr];exact h
theorem zNB(n0 n1 n2 n3 n4 n5 n6 n7 n8 n9 n10 n11:Int)(w:World):(Instr.buildSlice 23 12 #[(0,.int .i64 n0),(1,.int .i64 n1),(2,.int .i64 n2),(3,.int .i64 n3),(4,.int .i64 n4),(5,.int .i64 n5),(6,.int .i64 n6),(7,.int .i64 n7),(8,.int .i64 n8),(9,.int .i64 n9),(10,.int .i64 n10),(11,.int .i64 n11)]).run Tryz.prog w=.ok (.slice (some ⟨w.heap.size,0,none⟩) 12 12) (w.alloc (.cells #[.int .i64 n0,.int .i64 n1,.int .i64 n2,.int .i64 n3,.int .i64 n4,.int .i64 n5,.int .i64 n6,.int .i64 n7,.int .i64 n8,.int .i64 n9,.int .i64 n10,.int .i64 n11] 3 (0,0))):=by go_simp
theorem zOH{v:Value}{w w':World}(s:Sem Value)(hb:s.run Tryz.prog w=.ok v w'):(do pure (Next.value (←s)):Sem Next).run Tryz.prog w=.ok (.value v) w':=by go_simp
theorem zG1{o:Oper}{ρ:Operand→Value}(ps:Array (Nat×Value))(v:Value)(w w':World)(ho:execOp ρ o=(do pure (Next.value (←Instr.buildSlice 23 12 ps))))(hb:(Instr.buildSlice 23 12 ps).run Tryz.prog w=.ok v w'):(execOp ρ o).run Tryz.prog w=.ok (.value v) w':=by
 rw[ho];exact zOH _ hb
theorem zIo(bl:Nat)(b:BatS)(sm:Int)(rows:Bs)(hrw:b.rowsB=rows)(at_:Int)(hat:zAQ b.app b.txn b.ctl 3=at_)(n:Nat)(hn:b.recs.length=n)(said:Bs)(hsaid:zAi (b.pre sm).items=said)(hfit:FitsAll (b.pre sm).items)(hR:(b.pre sm).R)(h:St W0 w K (.raw bl #[.int .i64 b.base,.int .i64 (49+rows.length),.int .i64 b.leader,.int .i64 sm,.int .i64 at_,.int .i64 b.last,.int .i64 b.first,.int .i64 b.maxt,.int .i64 b.prod,.int .i64 b.epoch,.int .i64 b.seq,.int .i64 n] 3::L)):
  Calls Tryz.prog 29 #[.slice (some ⟨bl,0,none⟩) 12 12] w fun en w'=>en=.returned (.tuple #[.string (bb said),.bool true])∧St W0 w' K (.raw bl #[.int .i64 b.base,.int .i64 (49+rows.length),.int .i64 b.leader,.int .i64 sm,.int .i64 at_,.int .i64 b.last,.int .i64 b.first,.int .i64 b.maxt,.int .i64 b.prod,.int .i64 b.epoch,.int .i64 b.seq,.int .i64 n] 3::L):=by
 subst hrw hat hn hsaid;have e:zBW (b.pre sm)=(zAi (b.pre sm).items,true):=if_pos hfit;have c:=zJC bl (b.pre sm) hR h;rw[e]at c;exact c
theorem zGG(base leader:Int)(app txn ctl:Bool)(last first maxt prod epoch sq:Int)(rv:Value)(r:Int)(hr:zAQ app txn ctl 3=r)(h:St W0 w K L):
  Calls Tryz.prog 30 #[.agg #[.int .i64 base,.int .i64 leader,.bool app,.bool txn,.bool ctl,.int .i64 last,.int .i64 first,.int .i64 maxt,.int .i64 prod,.int .i64 epoch,.int .i64 sq,rv]] w fun en w'=>en=.returned (.int .i64 r)∧St W0 w' K L:=by
 obtain⟨hb,hhb⟩:∃b,w.heap.size=b:=⟨_,rfl⟩;have h1:=h.allocRaw #[.int .i64 base,.int .i64 leader,.bool app,.bool txn,.bool ctl,.int .i64 last,.int .i64 first,.int .i64 maxt,.int .i64 prod,.int .i64 epoch,.int .i64 sq,rv] 30;rw[hhb]at h1;obtain⟨x0,x1,x2,x3,x4,x5,x6,x7,x8,x9,x10,x11,y0,y1,y2,y3,y4,y5,y6,y7,y8,y9,y10,y11⟩:=zAc (b:=hb) (h1);have H:=hQd h1;subst hr;clear h h1
 cases app<;>cases txn<;>cases ctl
 all_goals
  go_enter Tryz.func30,Tryz.ntmps30;go_wp2;go_ret;exact⟨by kernel_rfl,H.out.drop⟩
theorem zEe(s:Bs)(hs:s.length≤1000000)(x:Nat)(hx:(zAq 0#32 s).toNat=x)(h:St W0 w K L):
  Calls Tryz.prog 31 #[.string (bb s)] w fun en w'=>en=.returned (.int .u32 x)∧St W0 w' K L:=by
 subst hx;exact zLm s hs h
def zAn (R:Bs):Except Int (Option (BatS×Nat)):=
  if R.length<61 then .ok none else match zAI R with
  | .error e=> .error e
  | .ok x=>if R.length<61+(x.len - 49).toNat then .ok none else match asmB x (R.take 61) ((R.drop 61).take (x.len - 49).toNat)with
    | .error e=> .error e
    | .ok b=> .ok (some (b,61+(x.len - 49).toNat))
theorem zFE(R M:Bs)(h:61≤R.length):zAI (R++M)=zAI R:=by
 rw[←zBq (R++M) (by rw[List.length_append];omega),←zBq R h,List.take_append_of_le_length h]
theorem zNd{R:Bs}(M:Bs)(h:zAn R≠.ok none):zAn (R++M)=zAn R:=by
 unfold zAn at h ⊢
 by_cases c1:R.length<61
 · rw[if_pos c1]at h;exact absurd rfl h
 rw[if_neg c1]at h ⊢;rw[if_neg (by rw[List.length_append];omega),zFE R M (by omega)]
 cases hp:zAI R with
 |error e2=>rfl
 |ok x=>
  rw[hp]at h;simp only at h ⊢
  by_cases c2:R.length<61+(x.len - 49).toNat
  · rw[if_pos c2]at h;exact absurd rfl h
  rw[if_neg c2];rw[if_neg (by rw[List.length_append];omega),List.take_append_of_le_length (by omega),List.drop_append_of_le_length (by omega),List.take_append_of_le_length (by rw[List.length_drop];omega)]
theorem zGZ{R:Bs}{e:Int}(h:zAn R=.error e):e≠0:=by
 unfold zAn at h
 by_cases c1:R.length<61
 · rw[if_pos c1]at h;cases h
 rw[if_neg c1]at h
 cases hp:zAI R with
 |error e2=>rw[hp]at h;cases h;exact zCJ hp
 |ok x=>
  rw[hp]at h;simp only at h
  by_cases c2:R.length<61+(x.len - 49).toNat
  · rw[if_pos c2]at h;cases h
  rw[if_neg c2]at h
  cases ha:asmB x (R.take 61) ((R.drop 61).take (x.len - 49).toNat)with
  |error e2=>rw[ha]at h;cases h;exact zH2 ha
  |ok b=>rw[ha]at h;cases h
def zNS (N:Nat) (b:BatS):Prop:=b.recs.length≤N∧∀x∈b.recs,x.sum≤N
theorem zCt{R:Bs}{b:BatS}{n:Nat}(h:zAn R=.ok (some (b,n))):(61≤n∧n≤R.length)∧zNS R.length b:=by
 unfold zAn at h
 by_cases c1:R.length<61
 · rw[if_pos c1]at h;cases h
 rw[if_neg c1]at h
 cases hp:zAI R with
 |error e2=>rw[hp]at h;cases h
 |ok x=>
  rw[hp]at h;simp only at h
  by_cases c2:R.length<61+(x.len - 49).toNat
  · rw[if_pos c2]at h;cases h
  rw[if_neg c2]at h
  cases ha:asmB x (R.take 61) ((R.drop 61).take (x.len - 49).toNat)with
  |error e2=>rw[ha]at h;cases h
  |ok b2=>
   rw[ha]at h
   cases h
   refine⟨⟨by omega,by omega⟩,?_⟩;obtain⟨_,_,rs,hu,_,hb⟩:=zH1 ha;obtain⟨_,h2,h3⟩:=zD1 _ _ 0 rs (Nat.zero_le _) hu;rw[List.length_take,List.length_drop]at h2;have hr:b.recs=rs:=by rw[hb]
   refine⟨by rw[hr];omega,fun y hy=> ?_⟩;have:=(h3 y (by rw[←hr];exact hy)).2.2;rw[List.length_take,List.length_drop]at this
   omega
theorem zPT{R:Bs}{b:BatS}{n k:Nat}(h:zAn R=.ok (some (b,n)))(hk:n≤k):zAn (R.take k)=.ok (some (b,n)):=by
 by_cases hkl:R.length≤k
 · rw[List.take_of_length_le hkl];exact h
 by_cases hn:zAn (R.take k)=.ok none
 · exfalso
   have hs:=h;unfold zAn at hs hn
   by_cases c1:R.length<61
   · rw[if_pos c1]at hs;cases hs
   have h61:=(zCt h).1;have hl:(R.take k).length=k:=by rw[List.length_take];omega
   rw[if_neg c1]at hs;rw[if_neg (by rw[hl];omega)]at hn;have hpp:=zFE (R.take k) (R.drop k) (by rw[hl];omega);rw[List.take_append_drop]at hpp;rw[←hpp]at hn
   cases hp:zAI R with
   |error e2=>rw[hp]at hs;cases hs
   |ok x=>
    rw[hp]at hs hn;simp only at hs hn
    by_cases c2:R.length<61+(x.len - 49).toNat
    · rw[if_pos c2]at hs;cases hs
    rw[if_neg c2]at hs
    have hm:61+(x.len - 49).toNat=n:=by
     cases ha:asmB x (R.take 61) ((R.drop 61).take (x.len - 49).toNat)with
     |error e2=>rw[ha]at hs;cases hs
     |ok b2=>rw[ha]at hs;cases hs;rfl
    rw[if_neg (by rw[hl];omega)]at hn
    cases ha:asmB x ((R.take k).take 61) (((R.take k).drop 61).take (x.len - 49).toNat)with
    |error e2=>rw[ha]at hn;cases hn
    |ok b2=>rw[ha]at hn;cases hn
 · have:=zNd (R.drop k) hn;rw[List.take_append_drop]at this;rw[←this];exact h
def zEJ:Nat→Bs→List BatS×Bs×Int
  |0,R=>([],R,0)
  |f+1,R=>match zAn R with
    | .error e=>([],R,e)
    | .ok none=>([],R,0)
    | .ok (some y)=>(y.1::(zEJ f (R.drop y.2)).1,(zEJ f (R.drop y.2)).2)
theorem zGF:∀(f g:Nat) (R:Bs),R.length≤f→R.length≤g→zEJ f R=zEJ g R:=by
 intro f
 induction f with
 |zero=>
  intro g R h1 _;have h0:zAn R=.ok none:=by unfold zAn;rw[if_pos (by omega)]
  cases g with
  |zero=>rfl
  |succ g=>unfold zEJ;rw[h0]
 |succ f ih=>
  intro g R h1 h2
  cases g with
  |zero=>
   have h0:zAn R=.ok none:=by unfold zAn;rw[if_pos (by omega)]
   unfold zEJ;rw[h0]
  |succ g=>
   unfold zEJ
   cases hf:zAn R with
   |error e=>rfl
   |ok o=>
    cases o with
    |none=>rfl
    |some y=>
     obtain⟨b,n⟩:=y;have h3:=(zCt hf).1;simp only;rw[ih g (R.drop n) (by rw[List.length_drop];omega) (by rw[List.length_drop];omega)]
def zAo (R:Bs):List BatS×Bs×Int:=zEJ R.length R
theorem zD6(R:Bs):zAo R=match zAn R with
    | .error e=>([],R,e)
    | .ok none=>([],R,0)
    | .ok (some y)=>(y.1::(zAo (R.drop y.2)).1,(zAo (R.drop y.2)).2):=by
  have h1:zAo R=zEJ (R.length+1) R:=zGF _ _ R (Nat.le_refl _) (by omega);rw[h1]
  show(match zAn R with
    | .error e=>([],R,e)
    | .ok none=>([],R,0)
    | .ok (some y)=>(y.1::(zEJ R.length (R.drop y.2)).1,(zEJ R.length (R.drop y.2)).2))=_
  cases hf:zAn R with
  |error e=>rfl
  |ok o=>
    cases o with
    |none=>rfl
    |some y=>
      have:zEJ R.length (R.drop y.2)=zAo (R.drop y.2):=zGF _ _ _ (by rw[List.length_drop];omega) (Nat.le_refl _);simp only;rw[this]
theorem zBe{R:Bs}{b:BatS}{n:Nat}(h:zAn R=.ok (some (b,n))):zAo R=(b::(zAo (R.drop n)).1,(zAo (R.drop n)).2):=by
 rw[zD6,h]
theorem zAy{R:Bs}(h:zAn R=.ok none):zAo R=([],R,0):=by rw[zD6,h]
theorem zBH{R:Bs}{e:Int}(h:zAn R=.error e):zAo R=([],R,e):=by rw[zD6,h]
theorem zKC(M:Bs):∀(f:Nat) (R:Bs),R.length≤f→zAo (R++M)=if (zAo R).2.2≠0 then((zAo R).1,(zAo R).2.1++M,(zAo R).2.2)else((zAo R).1++(zAo ((zAo R).2.1++M)).1,(zAo ((zAo R).2.1++M)).2):=by
 intro f
 induction f with
 |zero=>
  intro R h;have h0:zAn R=.ok none:=by unfold zAn;rw[if_pos (by omega)]
  rw[zAy h0]
  simp
 |succ f ih=>
  intro R h
  cases hf:zAn R with
  |error e=>
   have h1:=zNd M (by rw[hf];simp:zAn R≠.ok none);rw[hf]at h1;rw[zBH h1,zBH hf];simp only;rw[if_pos (zGZ hf)]
  |ok o=>
   cases o with
   |none=>
    rw[zAy hf]
    simp
   |some y=>
    obtain⟨b,n⟩:=y;have h1:=zNd M (by rw[hf];simp:zAn R≠.ok none);rw[hf]at h1;have h3:=(zCt hf).1;rw[zBe h1,zBe hf,List.drop_append_of_le_length h3.2,ih (R.drop n) (by rw[List.length_drop];omega)];simp only
    by_cases c:(zAo (R.drop n)).2.2≠0
    · rw[if_pos c,if_pos c]
    · rw[if_neg c,if_neg c,List.cons_append]
theorem zB3:∀(f:Nat) (R:Bs),R.length≤f→∃k,k≤R.length∧(zAo R).2.1=R.drop k∧((zAo R).2.2=0→zAn (R.drop k)=.ok none)∧((zAo R).2.2≠0→zAn (R.drop k)=.error (zAo R).2.2)∧zAo (R.take k)=((zAo R).1,[],0)∧(∀b∈(zAo R).1,zNS R.length b)∧61*(zAo R).1.length≤k:=by
 intro f
 induction f with
 |zero=>
  intro R h;have h0:zAn R=.ok none:=by unfold zAn;rw[if_pos (by omega)]
  refine⟨0,Nat.zero_le _,?_⟩;rw[zAy h0,List.drop_zero,List.take_zero];exact⟨rfl,fun _=>h0,fun hh=>absurd rfl hh,zAy (by unfold zAn;rw[if_pos (by decide)]),(fun b hb=>by cases hb),by simp⟩
 |succ f ih=>
  intro R h
  cases hf:zAn R with
  |error e=>
   refine⟨0,Nat.zero_le _,?_⟩;rw[zBH hf,List.drop_zero,List.take_zero];exact⟨rfl,fun hh=>absurd hh (zGZ hf),fun _=>hf,zAy (by unfold zAn;rw[if_pos (by decide)]),(fun b hb=>by cases hb),by simp⟩
  |ok o=>
   cases o with
   |none=>
    refine⟨0,Nat.zero_le _,?_⟩;rw[zAy hf,List.drop_zero,List.take_zero];exact⟨rfl,fun _=>hf,fun hh=>absurd rfl hh,zAy (by unfold zAn;rw[if_pos (by decide)]),(fun b hb=>by cases hb),by simp⟩
   |some y=>
    obtain⟨b,n⟩:=y;obtain⟨h3,hlb⟩:=zCt hf;obtain⟨k,a1,a2,a3,a4,a5,a6,a7⟩:=ih (R.drop n) (by rw[List.length_drop];omega);rw[List.length_drop]at a1;rw[List.drop_drop]at a2 a3 a4;refine⟨n+k,by omega,?_⟩;rw[zBe hf];refine⟨a2,a3,a4,?_,?_,by simp only[List.length_cons];omega⟩
    · have h4:zAn (R.take (n+k))=.ok (some (b,n)):=zPT hf (by omega);have h5:(R.take (n+k)).drop n=(R.drop n).take k:=by rw[List.drop_take,Nat.add_sub_cancel_left]
      rw[zBe h4,h5,a5]
    · intro x hx
      rcases List.mem_cons.1 hx with rfl|hx
      · exact hlb
      · have:=a6 x hx;rw[List.length_drop]at this;exact⟨by have:=this.1;omega,fun z hz=>by have:=this.2 z hz;omega⟩
def finS (R:Bs):List BatS×Nat×Bs×Int:=((zAo R).1,R.length - (zAo R).2.1.length,(if (zAo R).2.2≠0 then[]else(zAo R).2.1),(zAo R).2.2)
theorem zJ0:finS []=([],0,[],0):=by
 have h0:zAn []=.ok none:=by unfold zAn;rw[if_pos (by decide)]
 unfold finS;rw[zAy h0]
 rfl
theorem zPW(R c:Bs)(h:(finS R).2.2.2≠0):finS (R++c)=finS R:=by
 have h0:(zAo R).2.2≠0:=h;obtain⟨k,a1,a2,_⟩:=zB3 _ R (Nat.le_refl _);unfold finS;rw[zKC c _ R (Nat.le_refl _),if_pos h0];simp only;rw[if_pos h0,if_pos h0,List.length_append,List.length_append]
 congr 2
 rw[a2,List.length_drop]
 omega
theorem zOE(R c:Bs)(h:(finS R).2.2.2=0):finS (R++c)=((finS R).1++(zAo ((finS R).2.2.1++c)).1,(finS R).2.1+(((finS R).2.2.1++c).length - (zAo ((finS R).2.2.1++c)).2.1.length),(if (zAo ((finS R).2.2.1++c)).2.2≠0 then[]else(zAo ((finS R).2.2.1++c)).2.1),(zAo ((finS R).2.2.1++c)).2.2):=by
 have h0:¬(zAo R).2.2≠0:=by
  have:(zAo R).2.2=0:=h;rw[this];simp
 obtain⟨k,a1,a2,_⟩:=zB3 _ R (Nat.le_refl _);have hr:(finS R).2.2.1=(zAo R).2.1:=by unfold finS;simp only;rw[if_neg h0]
 have hv:(finS R).2.1=R.length - (zAo R).2.1.length:=rfl;have hb:(finS R).1=(zAo R).1:=rfl;rw[hr,hv,hb];unfold finS;rw[zKC c _ R (Nat.le_refl _),if_neg h0];simp only
 congr 2
 obtain⟨k2,b1,b2,_⟩:=zB3 _ ((zAo R).2.1++c) (Nat.le_refl _);rw[List.length_append]at b1;have l2:=congrArg List.length b2;rw[List.length_drop,List.length_append]at l2;have l1:=congrArg List.length a2;rw[List.length_drop]at l1;rw[List.length_append,List.length_append]
 omega
def zBy (rest:Bs) (e:Int):Int:=if e≠0 then 2 else if rest≠[]then 1 else 0
theorem zOT(a:Int)(h:chk a=0):zAQ (zAf a 3) (zAf a 4) (zAf a 5) 3=a∧(zAf a 5=true→zAf a 4=true):=by
 have hr:0≤a∧a≤63:=by
  unfold chk at h
  split at h
  · cases h
  · split at h
    · cases h
    · rename_i _ h2
      simp only[Bool.or_eq_true,decide_eq_true_eq,not_or]at h2
      omega
 have key:∀k:Fin 64,chk (k.val:Int)=0→zAQ (zAf k.val 3) (zAf k.val 4) (zAf k.val 5) 3=k.val∧(zAf k.val 5=true→zAf k.val 4=true):=by decide
 have:=key ⟨a.toNat,by omega⟩;simp only at this;rw[show((a.toNat:Nat):Int)=a by omega]at this;exact this h
theorem zId(v:Int)(h: -2147483648≤v∧v<2147483648):zAD (v % 4294967296)=v:=by
 unfold zAD;rw[if_neg (by omega)]
 split<;>omega
theorem zLv{s:Bs}(h:61≤s.length)(h2:(preX s).2=2):zAi (preX s).1.items=s.take 61:=by
 have e:=zG2 zAR s h;have hs:zAR.sum=61:=rfl;rw[hs]at e;rw[←e];have h4:=zBz ((s.drop 17).take 4) (by rw[List.length_take];omega);have h5:=zId _ h4
 have e2:zBx zAR s=[sInt (s.take 8),sInt ((s.drop 8).take 4),sInt ((s.drop 12).take 4),sInt ((s.drop 16).take 1),sInt ((s.drop 17).take 4),sInt ((s.drop 21).take 2),sInt ((s.drop 23).take 4),sInt ((s.drop 27).take 8),sInt ((s.drop 35).take 8),sInt ((s.drop 43).take 8),sInt ((s.drop 51).take 2),sInt ((s.drop 53).take 4),sInt ((s.drop 57).take 4)]:=by
  unfold zAR;simp only[zBx,List.drop_drop,Nat.reduceAdd]
 unfold preX at h2 ⊢;rw[e2]at h2 ⊢;have h3:sInt ((s.drop 16).take 1)=2:=h2;rw[h3]
 show zAi (PreS.items ⟨_,_,_,sInt ((s.drop 17).take 4) % 4294967296,_,_,_,_,_,_,_,_⟩)=_
 unfold PreS.items;simp only[h5]
 rfl
theorem zL5:∀(n:Nat) (rows:Bs) (pos:Nat) (rs:List RecS),pos≤rows.length→unp n ⟨rows,pos,0⟩=.ok rs→rows.drop pos=rs.flatMap encR
  |0,rows,pos,rs,hp,h=>by
    have h:(if (⟨rows,pos,0⟩:InS).left=0 then Except.ok []else Except.error (10:Int))=Except.ok rs:=h
    by_cases c1:(⟨rows,pos,0⟩:InS).left=0
    · rw[if_pos c1]at h
      cases h
      have c2:rows.length - pos=0:=c1;rw[List.drop_of_length_le (by omega)]
      rfl
    · rw[if_neg c1]at h;cases h
  |n+1,rows,pos,rs,hp,h=>by
    have h:(if (⟨rows,pos,0⟩:InS).left=0 then .error 10 else if (⟨rows,pos,0⟩:InS).record.2.err=0 then zDn (⟨rows,pos,0⟩:InS).record.1 (unp n (⟨rows,pos,0⟩:InS).record.2)else .error (⟨rows,pos,0⟩:InS).record.2.err)=.ok rs:=h
    by_cases c1:(⟨rows,pos,0⟩:InS).left=0
    · rw[if_pos c1]at h;cases h
    rw[if_neg c1]at h
    cases hr:zBU (rows.drop pos)with
    |error e=>
      obtain⟨he,q,_,hf⟩:=zCK.err rows pos e hp hr;rw[hf]at h;simp only at h;rw[if_neg he]at h
      cases h
    |ok y=>
      obtain⟨x,m⟩:=y;obtain⟨hpm,hf⟩:=zCK.ok rows pos x m hp hr;rw[hf]at h;simp only[if_true]at h
      cases hu:unp n ⟨rows,pos+m,0⟩with
      |error e=>rw[hu]at h;cases h
      |ok t=>
        rw[hu]at h;have h:Except.ok (x::t)=Except.ok rs:=h;injection h with h;subst h;have i1:=zL5 n rows (pos+m) t hpm hu;have j1:=(zDA hr).1;rw[List.flatMap_cons,←i1,j1,←List.drop_drop,List.take_append_drop]
theorem zIA{s:Bs}{b:BatS}{n:Nat}(h:zBv s=.ok (b,n)):b.enc=s.take n∧zAA b=0∧b.rowsB.length≤s.length∧b.recs.length≤s.length∧∀x∈b.recs,x.R∧zAZ x=0∧x.sum≤s.length:=by
 obtain⟨x,hp,hn,hns,ha⟩:=zEV h;obtain⟨p1,p2,p3,p4,p5⟩:=zBE hp;obtain⟨a1,a2,rs,a3,a4,a5⟩:=zH1 ha;obtain⟨k,hk⟩:∃k,(x.len - 49).toNat=k:=⟨_,rfl⟩;rw[hk]at hn a1 a3;obtain⟨rows,hrw⟩:∃r,(s.drop 61).take k=r:=⟨_,rfl⟩;rw[hrw]at a1 a3;have hrl:rows.length=k:=by rw[←hrw,List.length_take,List.length_drop];omega
 have u1:=zL5 _ _ _ _ (Nat.zero_le _) a3;obtain⟨u2,u3,u4⟩:=zD1 _ _ _ _ (Nat.zero_le _) a3;rw[List.drop_zero]at u1;have hrb:b.rowsB=rows:=by rw[u1,a5];rfl
 have hrc:b.recs=rs:=by rw[a5]
 obtain⟨at1,at2⟩:=zOT x.attr a2
 have hpre:b.pre x.sum=x:=by
   unfold BatS.pre;rw[hrb,hrc,hrl,u2];rw[a5];simp only;rw[at1,show 49+((k:Nat):Int)=x.len by omega,show((x.count.toNat:Nat):Int)=x.count by omega]
 have hby:=zLv p1 p3
 rw[p2]at hby
 have hbk:(s.take 61).drop 21=b.back:=by rw[←hby,←hpre,b.pre_drop]
 have hcr:(b.crc:Int)=x.sum:=by
   unfold BatS.crc;rw[←hbk,hrb];exact a1
 refine⟨?_,by rw[a5];exact a4,by rw[hrb,hrl];omega,by rw[hrc];omega,fun y hy=> ?_⟩
 · unfold BatS.enc;rw[hcr,hpre,hby,hrb,←hrw,hn,List.take_add]
 · rw[hrc]at hy;obtain⟨v1,v2,v3⟩:=u4 y hy;exact⟨v1,v2,by omega⟩
theorem zKL{R:Bs}{b:BatS}{n:Nat}(h:zAn R=.ok (some (b,n))):zBv R=.ok (b,n):=by
 unfold zAn at h
 by_cases c1:R.length<61
 · rw[if_pos c1]at h;cases h
 rw[if_neg c1]at h;unfold zBv
 cases hp:zAI R with
 |error e2=>rw[hp]at h;cases h
 |ok x=>
  rw[hp]at h;simp only at h ⊢
  by_cases c2:R.length<61+(x.len - 49).toNat
  · rw[if_pos c2]at h;cases h
  rw[if_neg c2]at h;rw[if_neg c2]
  cases ha:asmB x (R.take 61) ((R.drop 61).take (x.len - 49).toNat)with
  |error e2=>rw[ha]at h;cases h
  |ok b2=>rw[ha]at h;cases h;rfl
theorem zMQ{s:Bs}{x:PreS}(h:zAI s=.ok x):Rn x.base∧Rn x.leader∧Rn x.last∧Rn x.first∧Rn x.maxt∧Rn x.prod∧Rn x.epoch∧Rn x.seq:=by
 obtain⟨h1,h2,_,h3,h4⟩:=zBE h;rw[zFR]at h2;have h2:=h2.symm;subst h2;have r:∀(k m:Nat),m≤8→Rn (sInt ((s.drop k).take m)):=fun k m hm=>zCh _ (by rw[List.length_take];omega)
 exact⟨r 0 8 (by decide),r 12 4 (by decide),r 23 4 (by decide),r 27 8 (by decide),r 35 8 (by decide),r 43 8 (by decide),r 51 2 (by decide),r 53 4 (by decide)⟩
structure MidOk (b:BatS):Prop where
  fit:∀x∈b.recs,x.R∧zAZ x=0∧x.sum≤2000
  len:b.recs.length≤1000
  err:zAA b=0
  rng:b.R
  rows:b.rowsB.length≤2000
theorem zKG:∀(l:List RecS),2*l.length≤(l.flatMap encR).length
  |[]=>by simp
  |x::t=>by
    have h1:=zKG t
    have h2:2≤(encR x).length:=by
      have h3:=zHJ x.key;have h4:2≤(recF x).length:=by unfold recF;simp only[List.length_append,List.length_cons,List.length_nil];omega
      show 2≤(putU _++recF x).length
      rw[List.length_append]
      omega
    rw[List.flatMap_cons,List.length_append,List.length_cons]
    omega
theorem MidOk.of{s:Bs}{b:BatS}{n:Nat}(h:zBv s=.ok (b,n))(hl:s.length≤1500):MidOk b:=by
 obtain⟨h1,h2,h3,h4,h5⟩:=zIA h;obtain⟨x,hp,_,_,ha⟩:=zEV h;obtain⟨_,_,rs,_,_,hb⟩:=zH1 ha;have hr:=zMQ hp;have h6:=zKG b.recs;have h7:(b.recs.flatMap encR).length=b.rowsB.length:=rfl;refine⟨fun y hy=> ?_,by omega,h2,?_,by omega⟩
 · obtain⟨v1,v2,v3⟩:=h5 y hy;exact⟨v1,v2,by omega⟩
 · rw[hb];exact hr
theorem zGY:zAn []=.ok none:=by unfold zAn;rw[if_pos (by decide)]
theorem zMj:∀(f:Nat) (R:Bs),R.length≤f→(zAo R).2.1=[]→(zAo R).1.flatMap BatS.enc=R:=by
 intro f
 induction f with
 |zero=>
  intro R h _;obtain rfl:R=[]:=List.eq_nil_of_length_eq_zero (by omega);rw[zAy zGY]
  rfl
 |succ f ih=>
  intro R h hr
  cases hf:zAn R with
  |error e=>
   rw[zBH hf]at hr;have hr:R=[]:=hr;rw[hr,zGY]at hf
   cases hf
  |ok o=>
   cases o with
   |none=>rw[zAy hf]at hr ⊢;exact(show R=[]from hr).symm
   |some y=>
    obtain⟨b,n⟩:=y;have h3:=(zCt hf).1;rw[zBe hf]at hr ⊢;have h4:=ih (R.drop n) (by rw[List.length_drop];omega) hr
    show(b::(zAo (R.drop n)).1).flatMap BatS.enc=R
    rw[List.flatMap_cons,h4,(zIA (zKL hf)).1,List.take_append_drop]
theorem zN5:∀(f:Nat) (R:Bs),R.length≤f→R.length≤1500→∀b∈(zAo R).1,MidOk b:=by
 intro f
 induction f with
 |zero=>
  intro R h _ b hb;obtain rfl:R=[]:=List.eq_nil_of_length_eq_zero (by omega);rw[zAy zGY]at hb
  cases hb
 |succ f ih=>
  intro R h hl b hb
  cases hf:zAn R with
  |error e=>rw[zBH hf]at hb;cases hb
  |ok o=>
   cases o with
   |none=>rw[zAy hf]at hb;cases hb
   |some y=>
    obtain⟨c,n⟩:=y;have h3:=(zCt hf).1;rw[zBe hf]at hb
    rcases List.mem_cons.1 hb with rfl|hb
    · exact MidOk.of (zKL hf) hl
    · exact ih (R.drop n) (by rw[List.length_drop];omega) (by rw[List.length_drop];omega) b hb
theorem zKp(s:Bs)(hl:s.length≤1500):∃(bs:List BatS) (V:Nat) (rest:Bs) (e:Int),finS s=(bs,V,rest,e)∧V≤s.length∧finS (s.take V)=(bs,V,[],0)∧bs.flatMap BatS.enc=s.take V∧(zBy rest e=0↔V=s.length)∧(zBy rest e=2↔e≠0)∧∀b∈bs,MidOk b:=by
 obtain⟨k,hk,h1,h2,h3,h4,_⟩:=zB3 s.length s (Nat.le_refl _);have hm:=zN5 s.length s (Nat.le_refl _) hl;have hkl:(s.take k).length=k:=by rw[List.length_take];omega
 have hb:=zMj k (s.take k) (by omega) (by rw[h4]);rw[h4]at hb;have hV:s.length - (zAo s).2.1.length=k:=by rw[h1,List.length_drop];omega
 have h6:finS (s.take k)=((zAo s).1,k,[],0):=by unfold finS;rw[h4,hkl];simp
 by_cases he:(zAo s).2.2=0
 · refine⟨(zAo s).1,k,s.drop k,0,by unfold finS;rw[hV,he,if_neg (by simp),h1],hk,h6,hb,?_,?_,hm⟩
   · unfold zBy;rw[if_neg (by simp)]
     by_cases c:k=s.length
     · rw[if_neg (by rw[c,List.drop_length];simp)];simp[c]
     · rw[if_pos (by intro hh;have:=congrArg List.length hh;rw[List.length_drop]at this;simp at this;omega)];simp[c]
   · unfold zBy;rw[if_neg (by simp)]
     by_cases c:s.drop k=[]
     · rw[if_neg (by simp[c])];simp
     · rw[if_pos c];simp
 · refine⟨(zAo s).1,k,[],(zAo s).2.2,by unfold finS;rw[hV,if_pos he],hk,h6,hb,?_,?_,hm⟩
   · unfold zBy;rw[if_pos he];have h5:=h3 he
     constructor
     · intro hh;exact absurd hh (by decide)
     · intro hh;rw[hh,List.drop_length,zGY]at h5;cases h5
   · unfold zBy;rw[if_pos he];simp[he]
set_option maxHeartbeats 4000000
set_option maxRecDepth 1000000
structure EncOk (b:BatS):Prop where
  rows:b.rowsB.length≤400000
  len:b.recs.length≤1000
  err:zAA b=0
  rng:b.R
  recs:∀x∈b.recs,x.R∧zAZ x=0∧x.sum≤1000000
theorem EncOk.mid{b:BatS}(h:MidOk b):EncOk b:=⟨by have:=h.rows;omega,h.len,h.err,h.rng,fun x hx=>⟨(h.fit x hx).1,(h.fit x hx).2.1,by have:=(h.fit x hx).2.2;omega⟩⟩
theorem EncOk.small{b:BatS}(h:SmallOk b):EncOk b:=⟨h.rows,by have:=h.len;omega,h.err,h.rng,h.recs⟩
theorem zHj(b:BatS)(s:Bs)(hs:b.enc=s)(l:List (RecS×Value))(q:Option Addr)(cap:Nat)(hl:l.map (·.1)=b.recs)(so:EncOk b){W0 w:World}{K:Know}{L:List Res}(hk:K.has (Know.recs (.slice q l.length cap) l))(h:St W0 w K L):
  Calls Tryz.prog 10 #[.agg #[.int .i64 b.base,.int .i64 b.leader,.bool b.app,.bool b.txn,.bool b.ctl,.int .i64 b.last,.int .i64 b.first,.int .i64 b.maxt,.int .i64 b.prod,.int .i64 b.epoch,.int .i64 b.seq,.slice q l.length cap]] w fun en w'=>en=.returned (.string (bb s))∧St W0 w' K L:=by
 obtain⟨hb,hhb⟩:∃b,w.heap.size=b:=⟨_,rfl⟩;have h1:=h.allocRaw #[.int .i64 b.base,.int .i64 b.leader,.bool b.app,.bool b.txn,.bool b.ctl,.int .i64 b.last,.int .i64 b.first,.int .i64 b.maxt,.int .i64 b.prod,.int .i64 b.epoch,.int .i64 b.seq,.slice q l.length cap] 30;rw[hhb]at h1;obtain⟨x0,x1,x2,x3,x4,x5,x6,x7,x8,x9,x10,x11,y0,y1,y2,y3,y4,y5,y6,y7,y8,y9,y10,y11⟩:=zAc (b:=hb) (h1);have H:=hQd h1;have HK:=hQd hk;have hrn:=so.rows;have hre:zAX l=b.rowsB:=by rw[zCv,hl];rfl
 obtain⟨rows,hrows⟩:∃r,b.rowsB=r:=⟨_,rfl⟩;have hcr:=b.crc_lt;have hln:=so.len;obtain⟨at_,hat⟩:∃a,zAQ b.app b.txn b.ctl 3=a:=⟨_,rfl⟩;obtain⟨x,hx⟩:∃x,b.crc=x:=⟨_,rfl⟩;obtain⟨said0,hs0⟩:∃t,zAi (b.pre 0).items=t:=⟨_,rfl⟩;obtain⟨said1,hs1⟩:∃t,zAi (b.pre x).items=t:=⟨_,rfl⟩;obtain⟨all0,ha0⟩:∃t,b.back++b.rowsB=t:=⟨_,rfl⟩;have hbl:b.back.length=40:=by unfold BatS.back;rw[zBF];rfl
 obtain⟨back,hbk⟩:∃t,b.back=t:=⟨_,rfl⟩;have hl0:said0.length=61:=by rw[←hs0];exact zA0 _
 have hl1:said1.length=61:=by rw[←hs1];exact zA0 _
 have HRW:=hQd hrows;have HN:=hQd (show b.recs.length=l.length by rw[←hl,List.length_map]);have AT:=hQd hat;have HS0:=hQd hs0;have HS1:=hQd hs1;have HF0:=hQd (BatS.fitsAll so.err so.rng 0 (by omega) (by omega) (by omega));have HR0:=hQd (BatS.pre_R so.err so.rng 0 (by omega) (by omega) (by omega));have HF1:=hQd (BatS.fitsAll so.err so.rng x (by omega) (by omega) (by omega));have HR1:=hQd (BatS.pre_R so.err so.rng x (by omega) (by omega) (by omega));have HX:=hQd (show(zAq 0#32 all0).toNat=x by rw[←ha0,←hx];rfl);have HA0:=hQd (show all0.length≤1000000 by rw[←ha0,List.length_append];omega)
 have hT:List.take (said0.length - 21) (List.drop 21 said0)=back:=by
  rw[List.take_of_length_le (by rw[List.length_drop];omega),←hs0,b.pre_drop,hbk]
 have hcat0:bb back++bb rows=bb all0:=by rw[←ha0,←hbk,←hrows];exact zAg _ _
 have hcat1:bb said1++bb rows=bb s:=by
  rw[←hs,←hs1,←hrows,←hx];exact zAg _ _
 have hrl:rows.length≤400000:=by rw[←hrows];exact hrn
 have hg0:¬(9223372036854775807<back.length+rows.length):=by rw[←hbk];omega
 have hg1:¬(9223372036854775807<said1.length+rows.length):=by omega
 have l21:(21:Int)≤(said0.length:Int):=by omega
 have l21':21≤said0.length:=by omega
 have hne:¬(said0=[]):=by intro hh;rw[hh]at hl0;simp at hl0
 have w1:IntKind.i64.wrap (49+(rows.length:Int))=49+(rows.length:Int):=IntWalk.i64_in _ (by omega);have w1':wrap64 (49+(rows.length:Int))=49+(rows.length:Int):=by unfold wrap64;omega
 have w2:IntKind.i64.wrap (x:Int)=(x:Int):=IntWalk.i64_in _ (by omega);have w2':wrap64 (x:Int)=(x:Int):=by unfold wrap64;omega
 have HRE:=hQd (hre.trans hrows)
 have HXS:=hQd (show ∀y∈l,y.1.R∧y.1.sum≤1000000 from fun y hy=>by
  have hm:y.1∈b.recs:=hl ▸ List.mem_map_of_mem hy;have:=so.recs y.1 hm
  exact⟨this.1,this.2.2⟩)
 have HLN:=hQd (show l.length≤1000 by have h9:=congrArg List.length hl;rw[List.length_map]at h9;omega);have HRN:=hQd hrl;clear h h1 hk hrn hre hrows hcr hln hat hx hs0 hs1 ha0 hbl hbk hl0 hl1 hl hs so;have HG0:=hQd (And.intro hT (And.intro hcat0 (And.intro hg0 (And.intro l21 (And.intro l21' hne)))));have HG1:=hQd (And.intro hcat1 hg1);have HW:=hQd (And.intro w1 (And.intro w1' (And.intro w2 w2')));clear hT hcat0 hg0 l21 l21' hne hcat1 hg1 w1 w1' w2 w2' hrl;go_enter Tryz.func10,Tryz.ntmps10;go_wp2;go_loopw [3,4] (fun sv iv wr=>∃k:Nat,k≤l.length∧iv=.int .i64 k∧sv=.string (bb (zAX (l.take k)))∧St W0 wr K (.raw hb #[.int .i64 b.base,.int .i64 b.leader,.bool b.app,.bool b.txn,.bool b.ctl,.int .i64 b.last,.int .i64 b.first,.int .i64 b.maxt,.int .i64 b.prod,.int .i64 b.epoch,.int .i64 b.seq,.slice q l.length cap] 30::L)) (fun _ iv _=>l.length - (intOf iv).toNat)
 case atStart=>exact⟨0,Nat.zero_le _,rfl,rfl,H.out⟩
 case round=>
  obtain⟨k,hkl,rfl,rfl,hst⟩:=hrel;clear H x0 x1 x2 x3 x4 x5 x6 x7 x8 x9 x10 x11 y0 y1 y2 y3 y4 y5 y6 y7 y8 y9 y10 y11;have H:=hQd hst;clear hst
  by_cases hlt:k<l.length
  · as_aux_lemma=>
    have het:=zF6 l k hlt
    have hpl:(zAX (l.take k)).length≤rows.length:=by
     rw[←HRE.out]
     conv=>rhs;rw[←List.take_append_drop k l]
     unfold zAX;rw[List.flatMap_append,List.length_append]
     omega
    have hpl2:(zAX (l.take (k+1))).length≤rows.length:=by
     rw[←HRE.out]
     conv=>rhs;rw[←List.take_append_drop (k+1) l]
     unfold zAX;rw[List.flatMap_append,List.length_append]
     omega
    obtain⟨b0,off,hqq⟩:=zBQ HK.out H.out (by omega);subst hqq;obtain⟨⟨x,vx⟩,hx⟩:∃x,l[k]=x:=⟨_,rfl⟩;have cc:=zAY HK.out H.out k hlt (x,vx) hx;have hmem:(x,vx)∈l:=hx ▸ List.getElem_mem hlt;have XF:=HXS.out (x,vx) hmem;have XF1:=hQd XF.1;have XF2:=hQd XF.2;clear XF;have xk:K.has (Know.flat RHdr vx 3 x.hdrs):=zA5 HK.out hmem;obtain⟨qx,capx,hvx⟩:=zAu xk H.out;subst hvx;have XK:=hQd xk;simp only at cc;obtain⟨c0,c1,c2,c3,c4,c5,c6⟩:=cc;rw[←Nat.add_assoc]at c1 c2 c3 c4 c5 c6;obtain⟨sx,hsx⟩:∃t,encR x=t:=⟨_,rfl⟩;have HSX:=hQd hsx;rw[hx]at het;simp only[hsx]at het;obtain⟨pre,hpre⟩:∃t,zAX (l.take k)=t:=⟨_,rfl⟩;obtain⟨nxt,hnxt⟩:∃t,zAX (l.take (k+1))=t:=⟨_,rfl⟩;rw[hpre]at het hpl ⊢;rw[hnxt]at het hpl2;have HNXT:=hQd hnxt;have hcat:bb pre++bb sx=bb nxt:=by rw[het];exact zAg _ _
    have hg:¬(9223372036854775807<pre.length+sx.length):=by
     have h1:=HRN.out;have h2:=congrArg List.length het;rw[List.length_append]at h2
     omega
    have hki:(k:Int)<(l.length:Int):=by omega
    have hl12:(l.length:Int)≤1000:=by have:=HLN.out;omega
    obtain⟨x0,x1,x2,x3,x4,x5,x6,x7,x8,x9,x10,x11,y0,y1,y2,y3,y4,y5,y6,y7,y8,y9,y10,y11⟩:=zAc (b:=hb) (H.out);clear xk hmem hx hsx het hpl hpl2 hpre hnxt;go_wp2_with (go_at_call 28;(with_reducible refine(zJD x (.slice qx x.hdrs.length capx) sx HSX.out XF1.out XF2.out XK.out H.out).mono ?_);rintro e_ wn ⟨rfl,h⟩;replace H:=hQd h;clear h);go_roundw
    case rel=>exact⟨k+1,hlt,by go_num,by rw[HNXT.out],H.out⟩
    case measure=>first|(simp[intOf];done)|(simp[intOf];omega)
  · obtain rfl:k=l.length:=by omega
    rw[List.take_length,HRE.out];have w1:=HW.out.1;obtain⟨x0,x1,x2,x3,x4,x5,x6,x7,x8,x9,x10,x11,y0,y1,y2,y3,y4,y5,y6,y7,y8,y9,y10,y11⟩:=zAc (b:=hb) (H.out);go_upto_region 6 with (fail);clear x0 x1 x2 x3 x4 x5 x6 x7 x8 x9 x10 x11 y0 y1 y2 y3 y4 y5 y6 y7 y8 y9 y10 y11;go_cut [5] (fun s5 wx=>s5=.string (bb said0)∧St W0 wx K (.raw hb #[.int .i64 b.base,.int .i64 b.leader,.bool b.app,.bool b.txn,.bool b.ctl,.int .i64 b.last,.int .i64 b.first,.int .i64 b.maxt,.int .i64 b.prod,.int .i64 b.epoch,.int .i64 b.seq,.slice q l.length cap] 30::L))
    case first=>
     as_aux_lemma=>
     have hs:=H.out.drew;refine wp_region_held_drew (S:=fun w'=>w'.cell? ⟨hb,0,none⟩=some (.int .i64 b.base)∧w'.cell? ⟨hb,1,none⟩=some (.int .i64 b.leader)∧w'.cell? ⟨hb,2,none⟩=some (.bool b.app)∧w'.cell? ⟨hb,3,none⟩=some (.bool b.txn)∧w'.cell? ⟨hb,4,none⟩=some (.bool b.ctl)∧w'.cell? ⟨hb,5,none⟩=some (.int .i64 b.last)∧w'.cell? ⟨hb,6,none⟩=some (.int .i64 b.first)∧w'.cell? ⟨hb,7,none⟩=some (.int .i64 b.maxt)∧w'.cell? ⟨hb,8,none⟩=some (.int .i64 b.prod)∧w'.cell? ⟨hb,9,none⟩=some (.int .i64 b.epoch)∧w'.cell? ⟨hb,10,none⟩=some (.int .i64 b.seq)∧w'.cell? ⟨hb,11,none⟩=some (.slice q l.length cap)) (by kernel_rfl) (let ⟨x0,x1,x2,x3,x4,x5,x6,x7,x8,x9,x10,x11,_⟩:=zAc (b:=hb) (hs);⟨x0,x1,x2,x3,x4,x5,x6,x7,x8,x9,x10,x11⟩) (fun hHeld=> ?_);refine tQ 0 ⟨some 26,.fieldAddr 30 (.tmp 1) 0,0,_,_,none⟩ ?_;simp only[Act.put,sA,sB,sC];refine tQ 1 ⟨some 27,.load 3 (.tmp 26),3,_,_,none⟩ ?_;simp only[Act.put,sA,sB,sC];refine tQ 2 ⟨some 28,.move (.tmp 3),9,_,_,none⟩ ?_;simp only[Act.put,sA,sB,sC];refine tQ 3 ⟨some 29,.call {callee:=.builtin .len,args:= #[.tmp 28],argTypes:= #[9]},3,_,_,none⟩ ?_;simp only[Act.put,sA,sB,sC];refine tQ 4 ⟨some 30,.binOp .add 3 (.const (Value.int IntKind.i64 49)) (.tmp 29) 3,3,_,_,none⟩ ?_;simp only[Act.put,sA,sB,sC];refine tQ 5 ⟨some 31,.fieldAddr 30 (.tmp 1) 1,0,_,_,none⟩ ?_;simp only[Act.put,sA,sB,sC];refine tQ 6 ⟨some 32,.load 3 (.tmp 31),3,_,_,none⟩ ?_;simp only[Act.put,sA,sB,sC];refine tQ 7 ⟨some 33,.load 30 (.tmp 1),30,_,_,none⟩ ?_;simp only[Act.put,sA,sB,sC];refine tQ 9 ⟨some 35,.fieldAddr 30 (.tmp 1) 5,0,_,_,none⟩ ?_;simp only[Act.put,sA,sB,sC];refine tQ 10 ⟨some 36,.load 3 (.tmp 35),3,_,_,none⟩ ?_;simp only[Act.put,sA,sB,sC];refine tQ 11 ⟨some 37,.fieldAddr 30 (.tmp 1) 6,0,_,_,none⟩ ?_;simp only[Act.put,sA,sB,sC];refine tQ 12 ⟨some 38,.load 3 (.tmp 37),3,_,_,none⟩ ?_;simp only[Act.put,sA,sB,sC];refine tQ 13 ⟨some 39,.fieldAddr 30 (.tmp 1) 7,0,_,_,none⟩ ?_;simp only[Act.put,sA,sB,sC];refine tQ 14 ⟨some 40,.load 3 (.tmp 39),3,_,_,none⟩ ?_;simp only[Act.put,sA,sB,sC];refine tQ 15 ⟨some 41,.fieldAddr 30 (.tmp 1) 8,0,_,_,none⟩ ?_;simp only[Act.put,sA,sB,sC];refine tQ 16 ⟨some 42,.load 3 (.tmp 41),3,_,_,none⟩ ?_;simp only[Act.put,sA,sB,sC];refine tQ 17 ⟨some 43,.fieldAddr 30 (.tmp 1) 9,0,_,_,none⟩ ?_;simp only[Act.put,sA,sB,sC];refine tQ 18 ⟨some 44,.load 3 (.tmp 43),3,_,_,none⟩ ?_;simp only[Act.put,sA,sB,sC];refine tQ 19 ⟨some 45,.fieldAddr 30 (.tmp 1) 10,0,_,_,none⟩ ?_;simp only[Act.put,sA,sB,sC];refine tQ 20 ⟨some 46,.load 3 (.tmp 45),3,_,_,none⟩ ?_;simp only[Act.put,sA,sB,sC];refine tQ 21 ⟨some 47,.fieldAddr 30 (.tmp 1) 11,0,_,_,none⟩ ?_;simp only[Act.put,sA,sB,sC];refine tQ 22 ⟨some 48,.load 28 (.tmp 47),28,_,_,none⟩ ?_;simp only[Act.put,sA,sB,sC];refine tQ 23 ⟨some 49,.call {callee:=.builtin .len,args:= #[.tmp 48],argTypes:= #[28]},3,_,_,none⟩ ?_;simp only[Act.put,sA,sB,sC];refine wpAnyH_ready (rs:=[8]) (by kernel_rfl) (by simp) (AllReadyH.cons (o:=⟨some 34,.call {callee:=.value (.func 30),args:= #[.tmp 33],argTypes:= #[30]},3,_,_,none⟩) rfl (fun KK hK=> ?_) AllReadyH.nil);go_simp;go_at_call 30;with_reducible refine(zGG b.base b.leader b.app b.txn b.ctl b.last b.first b.maxt b.prod b.epoch b.seq (.slice q l.length cap) at_ AT.out hs).mono ?_;rintro e wq ⟨rfl,hs⟩;refine hK.out _ _ (let ⟨x0,x1,x2,x3,x4,x5,x6,x7,x8,x9,x10,x11,_⟩:=zAc (b:=hb) (hs);⟨x0,x1,x2,x3,x4,x5,x6,x7,x8,x9,x10,x11⟩) (fun hHeld=> ?_);clear hK KK
     try simp only[Act.put,sA,sB,sC]
     refine wpAnyH_ready (rs:=[24]) (by kernel_rfl) (by simp) (AllReadyH.cons (o:=⟨some 50,.buildSlice 23 12 #[(0,.tmp 27),(1,.tmp 30),(2,.tmp 32),(3,.const (Value.int IntKind.i64 0)),(4,.tmp 34),(5,.tmp 36),(6,.tmp 38),(7,.tmp 40),(8,.tmp 42),(9,.tmp 44),(10,.tmp 46),(11,.tmp 49)],23,_,_,none⟩) rfl (fun KK hK=> ?_) AllReadyH.nil);rw[if_pos (by rfl)];refine zE9 (v:=.slice (some ⟨wq.heap.size,0,none⟩) 12 12) (w':=wq.alloc (.cells #[.int .i64 b.base,.int .i64 (49+rows.length),.int .i64 b.leader,.int .i64 0,.int .i64 at_,.int .i64 b.last,.int .i64 b.first,.int .i64 b.maxt,.int .i64 b.prod,.int .i64 b.epoch,.int .i64 b.seq,.int .i64 l.length] 3 (0,0))) (zG1 #[(0,.int .i64 b.base),(1,.int .i64 (49+rows.length)),(2,.int .i64 b.leader),(3,.int .i64 0),(4,.int .i64 at_),(5,.int .i64 b.last),(6,.int .i64 b.first),(7,.int .i64 b.maxt),(8,.int .i64 b.prod),(9,.int .i64 b.epoch),(10,.int .i64 b.seq),(11,.int .i64 l.length)] _ _ _ (by kernel_rfl) (zNB (b.base) ((49+rows.length)) (b.leader) (0) (at_) (b.last) (b.first) (b.maxt) (b.prod) (b.epoch) (b.seq) (l.length) wq)) ?_;obtain⟨wy,bS,ey,eb,hs⟩:=hs.allocEx #[.int .i64 b.base,.int .i64 (49+rows.length),.int .i64 b.leader,.int .i64 0,.int .i64 at_,.int .i64 b.last,.int .i64 b.first,.int .i64 b.maxt,.int .i64 b.prod,.int .i64 b.epoch,.int .i64 b.seq,.int .i64 l.length] 3;rw[ey,eb];clear ey eb;refine hK.out _ _ (let ⟨x0,x1,x2,x3,x4,x5,x6,x7,x8,x9,x10,x11,_⟩:=zAc (b:=hb) (hs.p1);⟨x0,x1,x2,x3,x4,x5,x6,x7,x8,x9,x10,x11⟩) (fun hHeld=> ?_);clear hK KK
     try simp only[Act.put,sA,sB,sC]
     refine wpAnyH_ready (rs:=[25]) (by kernel_rfl) (by simp) (AllReadyH.cons (o:=⟨some 51,.call {callee:=.value (.func 29),args:= #[.tmp 50],argTypes:= #[23]},41,_,_,none⟩) rfl (fun KK hK=> ?_) AllReadyH.nil);go_simp;go_at_call 29;with_reducible refine(zIo bS b 0 rows HRW.out at_ AT.out l.length HN.out said0 HS0.out HF0.out HR0.out hs).mono ?_;rintro e wq ⟨rfl,hs⟩;refine hK.out _ _ (let ⟨x0,x1,x2,x3,x4,x5,x6,x7,x8,x9,x10,x11,_⟩:=zAc (b:=hb) (hs.p1);⟨x0,x1,x2,x3,x4,x5,x6,x7,x8,x9,x10,x11⟩) (fun hHeld=> ?_);clear hK KK
     try simp only[Act.put,sA,sB,sC]
     have hs:=hs.drop;refine tQ 26 ⟨some 25,.move (.tmp 51),41,_,_,none⟩ ?_;simp only[Act.put,sA,sB,sC];refine tQ 27 ⟨some 52,.extract (.tmp 25) 0,9,_,_,none⟩ ?_;simp only[Act.put,sA,sB,sC];refine tQ 28 ⟨some 53,.extract (.tmp 25) 1,4,_,_,none⟩ ?_;simp only[Act.put,sA,sB,sC];refine tQ 29 ⟨some 5,.assign (.tmp 52),9,_,_,none⟩ ?_;simp only[Act.put,sA,sB,sC];refine tQ 30 ⟨some 6,.assign (.tmp 53),4,_,_,none⟩ ?_;simp only[Act.put,sA,sB,sC];refine wpAnyH_done (by kernel_rfl) ?_ _;clear hHeld;go_wp2_with fail;go_meet;exact⟨rfl,hs⟩
    case rest=>
     obtain⟨rfl,h⟩:=hcut;clear H;have H:=hQd h;clear h;obtain⟨hT,hcat0,hg0,l21,l21',hne⟩:=HG0.out;have w2:=HW.out.2.2.1;go_upto_region 8 with (go_at_call 31;(with_reducible refine(zEe all0 HA0.out x HX.out H.out).mono ?_);rintro e_ wn ⟨rfl,h⟩;replace H:=hQd h;clear h);clear w2 hT hcat0 hg0 l21 l21' hne;go_cut [8] (fun s8 wx=>s8=.string (bb said1)∧St W0 wx K (.raw hb #[.int .i64 b.base,.int .i64 b.leader,.bool b.app,.bool b.txn,.bool b.ctl,.int .i64 b.last,.int .i64 b.first,.int .i64 b.maxt,.int .i64 b.prod,.int .i64 b.epoch,.int .i64 b.seq,.slice q l.length cap] 30::L))
     case first=>
      have hs:=H.out.drew;refine wp_region_held_drew (S:=fun w'=>w'.cell? ⟨hb,0,none⟩=some (.int .i64 b.base)∧w'.cell? ⟨hb,1,none⟩=some (.int .i64 b.leader)∧w'.cell? ⟨hb,2,none⟩=some (.bool b.app)∧w'.cell? ⟨hb,3,none⟩=some (.bool b.txn)∧w'.cell? ⟨hb,4,none⟩=some (.bool b.ctl)∧w'.cell? ⟨hb,5,none⟩=some (.int .i64 b.last)∧w'.cell? ⟨hb,6,none⟩=some (.int .i64 b.first)∧w'.cell? ⟨hb,7,none⟩=some (.int .i64 b.maxt)∧w'.cell? ⟨hb,8,none⟩=some (.int .i64 b.prod)∧w'.cell? ⟨hb,9,none⟩=some (.int .i64 b.epoch)∧w'.cell? ⟨hb,10,none⟩=some (.int .i64 b.seq)∧w'.cell? ⟨hb,11,none⟩=some (.slice q l.length cap)) (by kernel_rfl) (let ⟨x0,x1,x2,x3,x4,x5,x6,x7,x8,x9,x10,x11,_⟩:=zAc (b:=hb) (hs);⟨x0,x1,x2,x3,x4,x5,x6,x7,x8,x9,x10,x11⟩) (fun hHeld=> ?_);refine tQ 0 ⟨some 61,.fieldAddr 30 (.tmp 1) 0,0,_,_,none⟩ ?_;simp only[Act.put,sA,sB,sC];refine tQ 1 ⟨some 62,.load 3 (.tmp 61),3,_,_,none⟩ ?_;simp only[Act.put,sA,sB,sC];refine tQ 2 ⟨some 63,.move (.tmp 3),9,_,_,none⟩ ?_;simp only[Act.put,sA,sB,sC];refine tQ 3 ⟨some 64,.call {callee:=.builtin .len,args:= #[.tmp 63],argTypes:= #[9]},3,_,_,none⟩ ?_;simp only[Act.put,sA,sB,sC];refine tQ 4 ⟨some 65,.binOp .add 3 (.const (Value.int IntKind.i64 49)) (.tmp 64) 3,3,_,_,none⟩ ?_;simp only[Act.put,sA,sB,sC];refine tQ 5 ⟨some 66,.fieldAddr 30 (.tmp 1) 1,0,_,_,none⟩ ?_;simp only[Act.put,sA,sB,sC];refine tQ 6 ⟨some 67,.load 3 (.tmp 66),3,_,_,none⟩ ?_;simp only[Act.put,sA,sB,sC];refine tQ 7 ⟨some 68,.move (.tmp 7),3,_,_,none⟩ ?_;simp only[Act.put,sA,sB,sC];refine tQ 8 ⟨some 69,.load 30 (.tmp 1),30,_,_,none⟩ ?_;simp only[Act.put,sA,sB,sC];refine tQ 10 ⟨some 71,.fieldAddr 30 (.tmp 1) 5,0,_,_,none⟩ ?_;simp only[Act.put,sA,sB,sC];refine tQ 11 ⟨some 72,.load 3 (.tmp 71),3,_,_,none⟩ ?_;simp only[Act.put,sA,sB,sC];refine tQ 12 ⟨some 73,.fieldAddr 30 (.tmp 1) 6,0,_,_,none⟩ ?_;simp only[Act.put,sA,sB,sC];refine tQ 13 ⟨some 74,.load 3 (.tmp 73),3,_,_,none⟩ ?_;simp only[Act.put,sA,sB,sC];refine tQ 14 ⟨some 75,.fieldAddr 30 (.tmp 1) 7,0,_,_,none⟩ ?_;simp only[Act.put,sA,sB,sC];refine tQ 15 ⟨some 76,.load 3 (.tmp 75),3,_,_,none⟩ ?_;simp only[Act.put,sA,sB,sC];refine tQ 16 ⟨some 77,.fieldAddr 30 (.tmp 1) 8,0,_,_,none⟩ ?_;simp only[Act.put,sA,sB,sC];refine tQ 17 ⟨some 78,.load 3 (.tmp 77),3,_,_,none⟩ ?_;simp only[Act.put,sA,sB,sC];refine tQ 18 ⟨some 79,.fieldAddr 30 (.tmp 1) 9,0,_,_,none⟩ ?_;simp only[Act.put,sA,sB,sC];refine tQ 19 ⟨some 80,.load 3 (.tmp 79),3,_,_,none⟩ ?_;simp only[Act.put,sA,sB,sC];refine tQ 20 ⟨some 81,.fieldAddr 30 (.tmp 1) 10,0,_,_,none⟩ ?_;simp only[Act.put,sA,sB,sC];refine tQ 21 ⟨some 82,.load 3 (.tmp 81),3,_,_,none⟩ ?_;simp only[Act.put,sA,sB,sC];refine tQ 22 ⟨some 83,.fieldAddr 30 (.tmp 1) 11,0,_,_,none⟩ ?_;simp only[Act.put,sA,sB,sC];refine tQ 23 ⟨some 84,.load 28 (.tmp 83),28,_,_,none⟩ ?_;simp only[Act.put,sA,sB,sC];refine tQ 24 ⟨some 85,.call {callee:=.builtin .len,args:= #[.tmp 84],argTypes:= #[28]},3,_,_,none⟩ ?_;simp only[Act.put,sA,sB,sC];refine wpAnyH_ready (rs:=[9]) (by kernel_rfl) (by simp) (AllReadyH.cons (o:=⟨some 70,.call {callee:=.value (.func 30),args:= #[.tmp 69],argTypes:= #[30]},3,_,_,none⟩) rfl (fun KK hK=> ?_) AllReadyH.nil);go_simp;go_at_call 30;with_reducible refine(zGG b.base b.leader b.app b.txn b.ctl b.last b.first b.maxt b.prod b.epoch b.seq (.slice q l.length cap) at_ AT.out hs).mono ?_;rintro e wq ⟨rfl,hs⟩;refine hK.out _ _ (let ⟨x0,x1,x2,x3,x4,x5,x6,x7,x8,x9,x10,x11,_⟩:=zAc (b:=hb) (hs);⟨x0,x1,x2,x3,x4,x5,x6,x7,x8,x9,x10,x11⟩) (fun hHeld=> ?_);clear hK KK
      try simp only[Act.put,sA,sB,sC]
      refine wpAnyH_ready (rs:=[25]) (by kernel_rfl) (by simp) (AllReadyH.cons (o:=⟨some 86,.buildSlice 23 12 #[(0,.tmp 62),(1,.tmp 65),(2,.tmp 67),(3,.tmp 68),(4,.tmp 70),(5,.tmp 72),(6,.tmp 74),(7,.tmp 76),(8,.tmp 78),(9,.tmp 80),(10,.tmp 82),(11,.tmp 85)],23,_,_,none⟩) rfl (fun KK hK=> ?_) AllReadyH.nil);rw[if_pos (by rfl)];refine zE9 (v:=.slice (some ⟨wq.heap.size,0,none⟩) 12 12) (w':=wq.alloc (.cells #[.int .i64 b.base,.int .i64 (49+rows.length),.int .i64 b.leader,.int .i64 (x:Int),.int .i64 at_,.int .i64 b.last,.int .i64 b.first,.int .i64 b.maxt,.int .i64 b.prod,.int .i64 b.epoch,.int .i64 b.seq,.int .i64 l.length] 3 (0,0))) (zG1 #[(0,.int .i64 b.base),(1,.int .i64 (49+rows.length)),(2,.int .i64 b.leader),(3,.int .i64 (x:Int)),(4,.int .i64 at_),(5,.int .i64 b.last),(6,.int .i64 b.first),(7,.int .i64 b.maxt),(8,.int .i64 b.prod),(9,.int .i64 b.epoch),(10,.int .i64 b.seq),(11,.int .i64 l.length)] _ _ _ (by kernel_rfl) (zNB (b.base) ((49+rows.length)) (b.leader) ((x:Int)) (at_) (b.last) (b.first) (b.maxt) (b.prod) (b.epoch) (b.seq) (l.length) wq)) ?_;obtain⟨wy,bS,ey,eb,hs⟩:=hs.allocEx #[.int .i64 b.base,.int .i64 (49+rows.length),.int .i64 b.leader,.int .i64 (x:Int),.int .i64 at_,.int .i64 b.last,.int .i64 b.first,.int .i64 b.maxt,.int .i64 b.prod,.int .i64 b.epoch,.int .i64 b.seq,.int .i64 l.length] 3;rw[ey,eb];clear ey eb;refine hK.out _ _ (let ⟨x0,x1,x2,x3,x4,x5,x6,x7,x8,x9,x10,x11,_⟩:=zAc (b:=hb) (hs.p1);⟨x0,x1,x2,x3,x4,x5,x6,x7,x8,x9,x10,x11⟩) (fun hHeld=> ?_);clear hK KK
      try simp only[Act.put,sA,sB,sC]
      refine wpAnyH_ready (rs:=[26]) (by kernel_rfl) (by simp) (AllReadyH.cons (o:=⟨some 87,.call {callee:=.value (.func 29),args:= #[.tmp 86],argTypes:= #[23]},41,_,_,none⟩) rfl (fun KK hK=> ?_) AllReadyH.nil);go_simp;go_at_call 29;with_reducible refine(zIo bS b (x:Int) rows HRW.out at_ AT.out l.length HN.out said1 HS1.out HF1.out HR1.out hs).mono ?_;rintro e wq ⟨rfl,hs⟩;refine hK.out _ _ (let ⟨x0,x1,x2,x3,x4,x5,x6,x7,x8,x9,x10,x11,_⟩:=zAc (b:=hb) (hs.p1);⟨x0,x1,x2,x3,x4,x5,x6,x7,x8,x9,x10,x11⟩) (fun hHeld=> ?_);clear hK KK
      try simp only[Act.put,sA,sB,sC]
      have hs:=hs.drop;refine tQ 27 ⟨some 60,.move (.tmp 87),41,_,_,none⟩ ?_;simp only[Act.put,sA,sB,sC];refine tQ 28 ⟨some 88,.extract (.tmp 60) 0,9,_,_,none⟩ ?_;simp only[Act.put,sA,sB,sC];refine tQ 29 ⟨some 89,.extract (.tmp 60) 1,4,_,_,none⟩ ?_;simp only[Act.put,sA,sB,sC];refine tQ 30 ⟨some 8,.assign (.tmp 88),9,_,_,none⟩ ?_;simp only[Act.put,sA,sB,sC];refine tQ 31 ⟨some 9,.assign (.tmp 89),4,_,_,none⟩ ?_;simp only[Act.put,sA,sB,sC];refine wpAnyH_done (by kernel_rfl) ?_ _;clear hHeld;go_wp2_with fail;go_meet;exact⟨rfl,hs⟩
     case rest=>
      obtain⟨rfl,h⟩:=hcut;clear H;have H:=hQd h;clear h;obtain⟨hcat1,hg1⟩:=HG1.out;go_wp2_with (fail);go_ret;exact⟨rfl,H.out.drop⟩
theorem zOw(base leader:Int)(app txn ctl:Bool)(last first maxt prod epoch sq:Int)(l:List (RecS×Value))(q:Option Addr)(cap:Nat)(n1 n2 n3 n4 n5:Int)(ok:Bool)(he:zB5 ⟨base,leader,app,txn,ctl,last,first,maxt,prod,epoch,sq,l.map (·.1)⟩=(n1,n2,n3,n4,n5,ok))(hmx:first≤9223372036854775807)(hfit:FitB l)(hll:l.length≤1000000){W0 w:World}{K:Know}{L:List Res}(hk:K.has (Know.recs (.slice q l.length cap) l))(h:St W0 w K L):
  Calls Tryz.prog 108 #[.agg #[.int .i64 base,.int .i64 leader,.bool app,.bool txn,.bool ctl,.int .i64 last,.int .i64 first,.int .i64 maxt,.int .i64 prod,.int .i64 epoch,.int .i64 sq,.slice q l.length cap]] w fun en w'=>en=.returned (.tuple #[.agg #[.int .i64 n1,.int .i64 n2,.int .i64 n3,.int .i64 n4,.int .i64 n5],.bool ok])∧St W0 w' K L:=by
 have HK:=hQd hk;have HFT:=hQd hfit;have HLL:=hQd hll;have HMX:=hQd hmx;have g1:=h.allocRaw #[.int .i64 base,.int .i64 leader,.bool app,.bool txn,.bool ctl,.int .i64 last,.int .i64 first,.int .i64 maxt,.int .i64 prod,.int .i64 epoch,.int .i64 sq,.slice q l.length cap] 30;have g2:=g1.allocRaw #[.int .i64 0,.int .i64 0,.int .i64 0,.int .i64 0,.int .i64 0] 161;obtain⟨hb,hhb⟩:∃b,w.heap.size=b:=⟨_,rfl⟩;obtain⟨rb,hrb⟩:∃b,hb+1=b:=⟨_,rfl⟩;simp only[World.size_alloc,hhb,hrb]at g2;have H:=hQd g2;clear h g1 g2 hk hfit hll hmx;obtain⟨⟨p0,p1,p2,p3,p4⟩,u0,u1,u2,u3,u4⟩:=zOj (b:=rb) (H.out);obtain⟨x0,x1,x2,x3,x4,x5,x6,x7,x8,x9,x10,x11,y0,y1,y2,y3,y4,y5,y6,y7,y8,y9,y10,y11⟩:=zAc (b:=hb) (H.out.p1);unfold zB5 at he;simp only at he
 by_cases c0:ctl=true
 case neg=>
  have c1:ctl=false:=by cases ctl with
   |false=>rfl
   |true=>exact absurd rfl c0
  rw[if_neg (fun h=>c0 h.1)]at he;simp only[Prod.mk.injEq]at he;obtain⟨rfl,rfl,rfl,rfl,rfl,rfl⟩:=he;subst c1;clear c0;go_enter Tryz.func108,Tryz.ntmps108;go_wp2;have hz:St W0 _ K (.raw rb #[.int .i64 0,.int .i64 0,.int .i64 0,.int .i64 0,.int .i64 0] 161::_):=H.out;refine bodyPost_ret (zBa rfl _ _ rb [.int .i64 0,.int .i64 0,.int .i64 0,.int .i64 0,.int .i64 0] _ rfl (zAp hz) Tryz.underlying161 rfl (by kernel_rfl)) rfl ?_;exact⟨rfl,hz.drop.drop⟩
 subst c0;obtain⟨e,hee⟩:∃e,zAA ⟨base,leader,app,txn,true,last,first,maxt,prod,epoch,sq,l.map (·.1)⟩=e:=⟨_,rfl⟩;have HE:=hQd hee
 by_cases c1:e=0
 case neg=>
  rw[if_neg (fun h=>c1 (hee ▸ h.2))]at he;simp only[Prod.mk.injEq]at he;obtain⟨rfl,rfl,rfl,rfl,rfl,rfl⟩:=he;have gz:(e==0)=false:=by rw[beq_eq_false_iff_ne];exact c1
  clear c1 hee;go_enter Tryz.func108,Tryz.ntmps108;go_wp2_with (go_at_call 35;(with_reducible refine(zCR _ _ _ _ _ _ _ _ _ _ _ l _ _ _ HE.out HMX.out HFT.out HLL.out HK.out H.out).mono ?_);rintro e_ wn ⟨rfl,h⟩;replace H:=hQd h;clear h;obtain⟨⟨p0,p1,p2,p3,p4⟩,u0,u1,u2,u3,u4⟩:=zOj (b:=rb) (H.out);obtain⟨x0,x1,x2,x3,x4,x5,x6,x7,x8,x9,x10,x11,y0,y1,y2,y3,y4,y5,y6,y7,y8,y9,y10,y11⟩:=zAc (b:=hb) (H.out.p1));have hz:St W0 _ K (.raw rb #[.int .i64 0,.int .i64 0,.int .i64 0,.int .i64 0,.int .i64 0] 161::_):=(((((H.out.rawSet 0 _).rawSet 1 _).rawSet 2 _).rawSet 3 _).rawSet 4 _);refine bodyPost_ret (zBa rfl _ _ rb [.int .i64 0,.int .i64 0,.int .i64 0,.int .i64 0,.int .i64 0] _ rfl (zAp hz) Tryz.underlying161 rfl (by kernel_rfl)) rfl ?_;exact⟨rfl,hz.drop.drop⟩
 subst c1;rw[if_pos ⟨rfl,hee⟩]at he;obtain⟨z,hz,hz2,hz3,hz4⟩:=zC6 _ hee rfl;simp only at hz hz3 hz4;rw[hz]at he;simp only[Prod.mk.injEq]at he;have hlen:l.length=1:=by have:=congrArg List.length hz;simpa using this
 obtain⟨b,off,hqq⟩:=zBQ HK.out H.out (by omega);subst hqq;have h00:0<l.length:=by omega
 obtain⟨⟨x,vx⟩,hx⟩:∃x,l[0]'h00=x:=⟨_,rfl⟩;have hmem:(x,vx)∈l:=hx ▸ List.getElem_mem _
 obtain rfl:x=z:=by
  have h1:=List.getElem_map (·.1) (l:=l) (i:=0) (h:=by rw[List.length_map];omega);have h2:(l.map (·.1))[0]'(by rw[List.length_map];omega)=z:=by simp only[hz];rfl
  rw[h2,hx]at h1;exact h1.symm
 have xf:x.R∧HFit x.hdrs∧x.sum≤1000000:=HFT.out (x,vx) hmem;have xk:K.has (Know.flat RHdr vx 3 x.hdrs):=zA5 HK.out hmem;obtain⟨qx,capx,hvx⟩:=zAu xk H.out;subst hvx;have XD:=hQd (zHc xf.2.2);have hl0:(0:Int)<(l.length:Int):=by omega
 obtain⟨⟨i1,i2,i3⟩,hi⟩:∃r,zBM x=r:=⟨_,rfl⟩;rw[hi]at hz2 he;simp only at hz2 he;subst hz2;obtain⟨rfl,rfl,rfl,hft,rfl,rfl⟩:=he;have EC:=hQd (show zBC x.key.null x.val.null x.key.data x.val.data x.hdrs.length x.off=(i1,i2,0)from hi);have f1:wrap64 (first+x.time)=n4:=by rw[←hft];unfold wrap64;omega
 have f2:IntKind.i64.wrap (first+x.time)=n4:=by rw[←hft];exact IntWalk.i64_in _ (by omega)
 have HX:=hQd hx;clear hz hz3 hz4 hmem xf xk hi hft hee hlen hx;go_enter Tryz.func108,Tryz.ntmps108
 go_wp2_with (first
  |(go_at_call 35;(with_reducible refine(zCR _ _ _ _ _ _ _ _ _ _ _ l _ _ _ HE.out HMX.out HFT.out HLL.out HK.out H.out).mono ?_);rintro e_ wn ⟨rfl,h⟩;obtain⟨⟨p0,p1,p2,p3,p4⟩,u0,u1,u2,u3,u4⟩:=zOj (b:=rb) (h);obtain⟨x0,x1,x2,x3,x4,x5,x6,x7,x8,x9,x10,x11,y0,y1,y2,y3,y4,y5,y6,y7,y8,y9,y10,y11⟩:=zAc (b:=hb) (h.p1);have cc:=zAY HK.out h 0 h00 (x,.slice qx x.hdrs.length capx) HX.out;simp only[Nat.zero_mul,Nat.zero_add,Nat.add_zero]at cc;obtain⟨c0,c1,c2,c3,c4,c5,c6⟩:=cc;have h:=h.allocRaw #[.int .i64 x.time,.int .i64 x.off,.bool x.key.null,.string (bb x.key.data),.bool x.val.null,.string (bb x.val.data),.slice qx x.hdrs.length capx] 54;obtain⟨wE,hwE⟩:∃b,wn.heap.size=b:=⟨_,rfl⟩;rw[hwE]at h;obtain⟨ec0,ec1,ec2,ec3,ec4,ec5,ec6,ef0,ef1,ef2,ef3,ef4,ef5,ef6⟩:=raw7 (b:=wE) (h);replace H:=hQd h;clear h)
  |(go_at_call 71;(with_reducible refine(zHP x.time x.off x.key.null x.val.null x.key.data x.val.data qx x.hdrs.length capx (i1,i2,0) EC.out XD.out.1 XD.out.2 H.out).mono ?_);rintro e_ wn ⟨rfl,h⟩;replace H:=hQd h;clear h;obtain⟨ec0,ec1,ec2,ec3,ec4,ec5,ec6,ef0,ef1,ef2,ef3,ef4,ef5,ef6⟩:=raw7 (b:=wE) (H.out);obtain⟨⟨p0,p1,p2,p3,p4⟩,u0,u1,u2,u3,u4⟩:=zOj (b:=rb) (H.out.p1);obtain⟨x0,x1,x2,x3,x4,x5,x6,x7,x8,x9,x10,x11,y0,y1,y2,y3,y4,y5,y6,y7,y8,y9,y10,y11⟩:=zAc (b:=hb) (H.out.p2)))
 have hz:St W0 _ K (.raw rb #[.int .i64 prod,.int .i64 epoch,.int .i64 i1,.int .i64 n4,.int .i64 i2] 161::_):=(((((H.out.p1.rawSet 0 _).rawSet 1 _).rawSet 2 _).rawSet 3 _).rawSet 4 _);refine bodyPost_ret (zBa rfl _ _ rb [.int .i64 prod,.int .i64 epoch,.int .i64 i1,.int .i64 n4,.int .i64 i2] _ rfl (zAp hz) Tryz.underlying161 rfl (by kernel_rfl)) rfl ?_;exact⟨rfl,hz.drop.drop.drop⟩
def ptP (b:BatS):Int:=if zAA b=0 then(b.enc.length:Int)else 0
def ptQ (b:BatS):Int:=if zAA b=0 then(b.recs.length:Int)else 0
def sP (l:List BatR):Int:=(l.map fun x=>ptP x.b).sum
def sQ (l:List BatR):Int:=(l.map fun x=>ptQ x.b).sum
theorem zPk(l:List BatR)(k:Nat)(hk:k<l.length)(x:BatR)(hx:l[k]=x):sP (l.take (k+1))=sP (l.take k)+ptP x.b∧sQ (l.take (k+1))=sQ (l.take k)+ptQ x.b∧l.take (k+1)=l.take k++[x]:=by
 have e:l.take (k+1)=l.take k++[x]:=by rw[List.take_succ_eq_append_getElem hk,hx]
 refine⟨?_,?_,e⟩
 · rw[e];unfold sP;rw[List.map_append,List.sum_append];simp
 · rw[e];unfold sQ;rw[List.map_append,List.sum_append];simp
theorem zKK{l:List (RecS×Value)}{b:BatS}(h:l.map (·.1)=b.recs):(b.recs.length:Int)=l.length:=by rw[←h,List.length_map]
end Go.Proofs.YtenojajfacacoaaGreatDoor
namespace Go.Proofs.YtenojajfacacoaaGreatDoor
open Go Ieee
def FV (d:Datum) (n:Int):Prop:=∃(s:Bool) (m:Nat) (p:Int),d=.number s m p∧p≤0∧(if s then -(m:Int)else(m:Int))=n*2 ^ (-p).toNat
def FI (x:Nat) (n:Int):Prop:=FV (double.read x) n
def Wh (n:Int):Prop:= -9007199254740992<n∧n<9007199254740992
theorem zFh(s:Bool)(m up:Nat):signed s m up=(if s then -(m:Int)else(m:Int))*2 ^ up:=by
 unfold signed;rw[Nat.shiftLeft_eq]
 cases s<;>simp[Int.neg_mul]
theorem zIH{i b:Int}(hb:b≤i)(hi:i≤0):(2:Int) ^ (-i).toNat*2 ^ (i - b).toNat=2 ^ (-b).toNat:=by
 rw[←Int.pow_add]
 congr 1
 omega
theorem FV.sum{c d:Datum}{a b:Int}(ha:FV c a)(hb:FV d b):∃e,c.sum d=some e∧FV e (a+b):=by
 obtain⟨s,m,i,rfl,hi,va⟩:=ha;obtain⟨t,n,j,rfl,hj,vb⟩:=hb;refine⟨_,rfl,?_⟩;have hmi:min i j≤i:=Int.min_le_left _ _;have hmj:min i j≤j:=Int.min_le_right _ _;have e1:signed s m (i - min i j).toNat=a*2 ^ (-(min i j)).toNat:=by rw[zFh,va,Int.mul_assoc,zIH hmi hi]
 have e2:signed t n (j - min i j).toNat=b*2 ^ (-(min i j)).toNat:=by rw[zFh,vb,Int.mul_assoc,zIH hmj hj]
 have e3:signed s m (i - min i j).toNat+signed t n (j - min i j).toNat=(a+b)*2 ^ (-(min i j)).toNat:=by rw[e1,e2,Int.add_mul]
 refine⟨_,_,_,rfl,by omega,?_⟩;rw[e3];generalize (a+b)*2 ^ (-(min i j)).toNat=T
 by_cases h0:T=0
 · subst h0;cases s<;>cases t<;>simp
 · rw[if_neg h0]
   by_cases h1:T<0
   · rw[if_pos (by simpa using h1)];omega
   · rw[if_neg (by simpa using h1)];omega
theorem FV.opposite{c:Datum}{a:Int}(ha:FV c a):FV c.opposite (-a):=by
 obtain⟨s,m,i,rfl,hi,va⟩:=ha;refine⟨!s,m,i,rfl,hi,?_⟩;rw[Int.neg_mul,←va]
 cases s<;>simp
theorem zON(way:Toward)(neg:Bool)(n:Nat):way.cut neg n 0=n:=by
 unfold Toward.cut
 cases way<;>simp[Nat.mod_one]
theorem zEF(N k:Nat)(h:N≠0):(N*2 ^ k).log2=N.log2+k:=by
 induction k with
 |zero=>simp
 |succ k ih=>
  rw[Nat.pow_succ,←Nat.mul_assoc,Nat.mul_comm _ 2,Nat.log2_two_mul (Nat.mul_ne_zero h (Nat.ne_of_gt (Nat.two_pow_pos k))),ih]
  rfl
theorem zNs(way:Toward)(neg:Bool)(N k:Nat)(h:N≠0):way.cut neg (N*2 ^ k) k=N:=by
 have hl:=zEF N k h;unfold Toward.cut;have hm:min k ((N*2 ^ k).log2+2)=k:=by rw[hl];omega
 have hp:0<2 ^ k:=Nat.two_pow_pos k;simp only[hm,Nat.one_shiftLeft,Nat.mul_div_cancel _ hp,Nat.mul_mod_left]
 cases way<;>simp<;>omega
theorem zMC(s:Bool)(e K:Nat)(he:e≤52)(h1:4503599627370496≤K)(h2:K<9007199254740992):double.read (double.word s ((e+1022)*4503599627370496+K))=.number s K ((e:Int) - 52):=by
 have hR:(e+1022)*4503599627370496+K<9223372036854775808:=by omega
 have hs:double.signWeight=9223372036854775808:=by decide
 have hb:double.binade=4503599627370496:=by decide
 have hi:double.infRung=9218868437227405312:=by decide
 have hl:double.leastPlace= -1074:=by decide
 have hm:double.word s ((e+1022)*4503599627370496+K) % 9223372036854775808=(e+1022)*4503599627370496+K:=by
  unfold Format.word;rw[hs]
  cases s<;>simp<;>omega
 have hd:(double.word s ((e+1022)*4503599627370496+K) / 9223372036854775808 % 2==1)=s:=by
  unfold Format.word;rw[hs]
  cases s
  · simp only[Bool.false_eq_true,if_false];rw[Nat.div_eq_of_lt hR]
    rfl
  · simp only[if_true];rw[show(9223372036854775808+((e+1022)*4503599627370496+K)) / 9223372036854775808=1 by omega]
    rfl
 unfold Format.read;simp only[hs,hb,hi,hl,hm,hd];rw[if_neg (by omega),if_pos (by omega)];have e1:4503599627370496+((e+1022)*4503599627370496+K) % 4503599627370496=K:=by omega
 have e3:(-1074:Int)+((((e+1022)*4503599627370496+K) / 4503599627370496 - 1:Nat):Int)=(e:Int) - 52:=by omega
 exact congr (congrArg (Datum.number s) e1) e3
theorem zOx(e K:Nat)(he:e≤52)(hK:K<9007199254740992):min ((((e:Int) - 52) - double.leastPlace).toNat*double.binade+K) double.infRung=(e+1022)*4503599627370496+K:=by
 have hb:double.binade=4503599627370496:=by decide
 have hi:double.infRung=9218868437227405312:=by decide
 have hl:double.leastPlace= -1074:=by decide
 rw[hb,hi,hl,show(((e:Int) - 52) - (-1074)).toNat=e+1022 by omega]
 omega
theorem zMX(e:Nat)(he:e≤52):(e:Int) - 52≤0:=by omega
theorem zLB(e:Nat)(he:e≤52):(-((e:Int) - 52)).toNat=52 - e:=by omega
theorem zIx(s:Bool):FI (double.word s 0) 0:=by
 cases s
 · exact⟨false,0,-1074,by decide+kernel,by decide,by rw[Int.zero_mul];rfl⟩
 · exact⟨true,0,-1074,by decide+kernel,by decide,by rw[Int.zero_mul];rfl⟩
theorem FV.write{d:Datum}{n:Int}(h:FV d n)(hn:Wh n):FI (double.write d) n:=by
 obtain⟨s,m,p,rfl,hp,hv⟩:=h
 show FI (double.nearest s m p) n
 unfold Format.nearest;obtain⟨k,hk⟩:∃k,(-p).toNat=k:=⟨_,rfl⟩;have hpk:p= -(k:Int):=by omega
 rw[hk]at hv
 by_cases hm:m=0
 · rw[if_pos hm];subst hm
   have h0:n=0:=by
    have hz:n*2 ^ k=0:=by rw[←hv];cases s<;>simp
    rcases Int.mul_eq_zero.1 hz with h|h
    · exact h
    · exact absurd h (Int.ne_of_gt (Int.pow_pos (by decide)))
   subst h0;exact zIx s
 · rw[if_neg hm];obtain⟨N,hN⟩:∃N,n.natAbs=N:=⟨_,rfl⟩
   have hmN:m=N*2 ^ k:=by
    have h1:(m:Int).natAbs=(n*2 ^ k).natAbs:=by rw[←hv];cases s<;>simp
    rw[Int.natAbs_mul,Int.natAbs_pow,hN]at h1
    simpa using h1
   have hN0:N≠0:=by rintro rfl;simp at hmN;exact hm hmN
   have hNl:N<9007199254740992:=by unfold Wh at hn;omega
   have hL:=zEF N k hN0;obtain⟨e,he⟩:∃e,N.log2=e:=⟨_,rfl⟩
   have he52:e≤52:=by
    have h53:N<2 ^ 53:=hNl;have:=(Nat.log2_lt hN0).2 h53
    omega
   have hb1:2 ^ e≤N:=by rw[←he];exact Nat.log2_self_le hN0
   have hb2:N<2 ^ (e+1):=by rw[←he];exact Nat.lt_log2_self
   rw[hmN,hL,he]
   have hlast:max (p+((e+k:Nat):Int) - (double.fractionBits:Int)) double.leastPlace=(e:Int) - 52:=by
    show max (p+((e+k:Nat):Int) - 52) (-1074)=_
    omega
   simp only[hlast]
   have hkept:Toward.even.cut s ((N*2 ^ k)<<<(p - ((e:Int) - 52)).toNat) (((e:Int) - 52) - p).toNat=N*2 ^ (52 - e):=by
    rw[Nat.shiftLeft_eq]
    by_cases hc:k≤52 - e
    · rw[show(((e:Int) - 52) - p).toNat=0 by omega,zON,Nat.mul_assoc,←Nat.pow_add]
      congr 2
      omega
    · rw[show(p - ((e:Int) - 52)).toNat=0 by omega,Nat.pow_zero,Nat.mul_one,show N*2 ^ k=(N*2 ^ (52 - e))*2 ^ (((e:Int) - 52) - p).toNat by rw[Nat.mul_assoc,←Nat.pow_add];congr 2;omega];exact zNs _ _ _ _ (Nat.mul_ne_zero hN0 (Nat.ne_of_gt (Nat.two_pow_pos _)))
   rw[hkept]
   have hK1:4503599627370496≤N*2 ^ (52 - e):=by
    have h1:=Nat.mul_le_mul_right (2 ^ (52 - e)) hb1;rw[←Nat.pow_add,show e+(52 - e)=52 by omega]at h1
    simpa using h1
   have hK2:N*2 ^ (52 - e)<9007199254740992:=by
    have h1:=Nat.mul_lt_mul_of_pos_right hb2 (Nat.two_pow_pos (52 - e));rw[←Nat.pow_add,show e+1+(52 - e)=53 by omega]at h1
    simpa using h1
   obtain⟨K,hKK⟩:∃K,N*2 ^ (52 - e)=K:=⟨_,rfl⟩;rw[hKK]at hK1 hK2 ⊢;have hmin:=zOx e K he52 hK2;rw[hmin];refine⟨s,K,(e:Int) - 52,zMC s e _ he52 hK1 hK2,zMX e he52,?_⟩;rw[zLB e he52,←hKK]
   have hsg:(if s then -(N:Int)else(N:Int))=n:=by
    have hpp:(0:Int)<2 ^ k:=Int.pow_pos (by decide)
    have h2:(if s then -(N:Int)else(N:Int))*2 ^ k=n*2 ^ k:=by
      rw[←hv,hmN]
      cases s<;>simp[Int.neg_mul]
    exact Int.eq_of_mul_eq_mul_right (Int.ne_of_gt hpp) h2
   rw[←hsg]
   cases s<;>simp[Int.neg_mul]
theorem FI.add{x y:Nat}{a b:Int}(ha:FI x a)(hb:FI y b)(h:Wh (a+b)):∃r,double.add x y=some r∧FI r (a+b):=by
 obtain⟨e,he,hv⟩:=FV.sum ha hb;exact⟨double.write e,by unfold Format.add;rw[he];rfl,hv.write h⟩
theorem FI.ofInt(n:Int)(h:Wh n):FI (double.write (.number (n<0) n.natAbs 0)) n:=by
 refine FV.write ⟨_,_,_,rfl,by decide,?_⟩ h
 by_cases h0:n<0
 · simp[h0];omega
 · simp[h0];omega
end Go.Proofs.YtenojajfacacoaaGreatDoor
namespace Go.Proofs.YtenojajfacacoaaGreatDoor
open Go Ieee
theorem zPI(x:Nat):(x ^^^ 9223372036854775808) % 9223372036854775808=x % 9223372036854775808:=by
 have h:=Nat.xor_mod_two_pow (a:=x) (b:=9223372036854775808) (n:=63);have e:(2:Nat) ^ 63=9223372036854775808:=by decide
 rw[e]at h;rw[h]
 simp
theorem zPJ(x:Nat):((x ^^^ 9223372036854775808) / 9223372036854775808 % 2==1)= !(x / 9223372036854775808 % 2==1):=by
 have e:(2:Nat) ^ 63=9223372036854775808:=by decide
 have h:=Nat.shiftRight_xor_distrib (a:=x) (b:=9223372036854775808) (i:=63);simp only[Nat.shiftRight_eq_div_pow,e]at h;have h2:(9223372036854775808:Nat) / 9223372036854775808=1:=by decide
 have h4:=Nat.xor_mod_two_pow (a:=x / 9223372036854775808) (b:=1) (n:=1);rw[Nat.pow_one]at h4;rw[h,h2,h4]
 rcases(by omega:x / 9223372036854775808 % 2=0∨x / 9223372036854775808 % 2=1)with h3|h3<;>rw[h3]<;>decide
theorem zOd(x:Nat):double.read (Op.negFloat .f64 x)=(double.read x).opposite:=by
 show double.read (x ^^^ 9223372036854775808)=_
 unfold Format.read;have hs:double.signWeight=9223372036854775808:=by decide
 simp only[hs,zPI,zPJ]
 split
 · rfl
 · split
   · rfl
   · split<;>rfl
theorem FI.neg{x:Nat}{a:Int}(h:FI x a):FI (Op.negFloat .f64 x) (-a):=by
 unfold FI;rw[zOd];exact FV.opposite h
theorem FI.zero:FI 0 0:=zIx false
theorem FI.toInt{x:Nat}{a:Int}(ha:FI x a):(FloatKind.f64.decode x).toInt .zero=some a:=by
 obtain⟨s,m,p,hd,hp,hv⟩:=ha
 show(double.read x).toInt .zero=_
 rw[hd];obtain⟨k,hk⟩:∃k,(-p).toNat=k:=⟨_,rfl⟩;rw[hk]at hv;unfold Datum.toInt Datum.integral;have e1:p.toNat=0:=by omega
 simp only[e1,Nat.shiftLeft_zero,hk];rw[zFh];simp only[Int.pow_zero,Int.mul_one];obtain⟨N,hN⟩:∃N,a.natAbs=N:=⟨_,rfl⟩
 have hmN:m=N*2 ^ k:=by
  have h1:(m:Int).natAbs=(a*2 ^ k).natAbs:=by rw[←hv];cases s<;>simp
  rw[Int.natAbs_mul,Int.natAbs_pow,hN]at h1
  simpa using h1
 have hc:Toward.zero.cut s m k=N:=by
  by_cases h0:N=0
  · subst h0;rw[hmN];unfold Toward.cut
    simp
  · rw[hmN];exact zNs _ _ _ _ h0
 rw[hc];have hpp:(0:Int)<2 ^ k:=Int.pow_pos (by decide)
 have h2:(if s then -(N:Int)else(N:Int))*2 ^ k=a*2 ^ k:=by
  rw[←hv,hmN]
  cases s<;>simp[Int.neg_mul]
 rw[Int.eq_of_mul_eq_mul_right (Int.ne_of_gt hpp) h2]
end Go.Proofs.YtenojajfacacoaaGreatDoor
namespace Go.Proofs.YtenojajfacacoaaGreatDoor
open Go.RowKit
def turnI (r a b:Int):Int×Int:=if r=1 then(-b,a)else if r=2 then(-a,-b)else if r=3 then(b,-a)else(a,b)
def qa (k:Int) (l:List Int):Nat→Int×Int
  |0=>(0,0)
  |i+1=>((qa k l i).1+(turnI ((k*i) % 4) (l.getD i 0) 0).1,(qa k l i).2+(turnI ((k*i) % 4) (l.getD i 0) 0).2)
theorem cadd{a b c d re im:Nat}(h1:Ieee.double.add a c=some re)(h2:Ieee.double.add b d=some im):cSumBits .add .f64 a b c d=some (re,im):=by
 unfold cSumBits floatBits
 show(Ieee.double.add a c).bind _=_
 rw[h1]
 show(Ieee.double.add b d).bind _=_
 rw[h2]
 rfl
theorem zN8{a b c d re im:Nat}(T:TypeId)(h1:Ieee.double.add a c=some re)(h2:Ieee.double.add b d=some im)(w:World):(binOp .add T (.complex .f64 a b) (.complex .f64 c d)).run Tryz.prog w=.ok (.complex .f64 re im) w:=
 run_complex_sum w .add (.inl rfl) T .f64 a b c d re im (cadd h1 h2)
theorem FI.conv(n:Int)(h:Wh n):FI (floatOfInt .f64 n) n:=FI.ofInt n h
set_option maxHeartbeats 1000000
set_option maxRecDepth 100000
variable {W0 w:World}{K:Know}{L:List Res}
theorem zBj{b:Nat}{T:TypeId}{v0 v1 v2 v3 v4 v5 v6 v7 v8 v9 v10 v11 v12 v13:Value}(h:St W0 w K (.raw b #[v0,v1,v2,v3,v4,v5,v6,v7,v8,v9,v10,v11,v12,v13] T::L)):
  w.cell? ⟨b,0,none⟩=some v0∧w.cell? ⟨b,1,none⟩=some v1∧w.cell? ⟨b,2,none⟩=some v2∧w.cell? ⟨b,3,none⟩=some v3∧w.cell? ⟨b,4,none⟩=some v4∧w.cell? ⟨b,5,none⟩=some v5∧w.cell? ⟨b,6,none⟩=some v6∧w.cell? ⟨b,7,none⟩=some v7∧w.cell? ⟨b,8,none⟩=some v8∧w.cell? ⟨b,9,none⟩=some v9∧w.cell? ⟨b,10,none⟩=some v10∧w.cell? ⟨b,11,none⟩=some v11∧w.cell? ⟨b,12,none⟩=some v12∧w.cell? ⟨b,13,none⟩=some v13∧
  w.frozen? ⟨b,0,none⟩=false∧w.frozen? ⟨b,1,none⟩=false∧w.frozen? ⟨b,2,none⟩=false∧w.frozen? ⟨b,3,none⟩=false∧w.frozen? ⟨b,4,none⟩=false∧w.frozen? ⟨b,5,none⟩=false∧w.frozen? ⟨b,6,none⟩=false∧w.frozen? ⟨b,7,none⟩=false∧w.frozen? ⟨b,8,none⟩=false∧w.frozen? ⟨b,9,none⟩=false∧w.frozen? ⟨b,10,none⟩=false∧w.frozen? ⟨b,11,none⟩=false∧w.frozen? ⟨b,12,none⟩=false∧w.frozen? ⟨b,13,none⟩=false:=
 ⟨h.rawCell 0,h.rawCell 1,h.rawCell 2,h.rawCell 3,h.rawCell 4,h.rawCell 5,h.rawCell 6,h.rawCell 7,h.rawCell 8,h.rawCell 9,h.rawCell 10,h.rawCell 11,h.rawCell 12,h.rawCell 13,h.rawFree 0,h.rawFree 1,h.rawFree 2,h.rawFree 3,h.rawFree 4,h.rawFree 5,h.rawFree 6,h.rawFree 7,h.rawFree 8,h.rawFree 9,h.rawFree 10,h.rawFree 11,h.rawFree 12,h.rawFree 13⟩
theorem St.sets14{b:Nat}{T:TypeId}{a0 a1 a2 a3 a4 a5 a6 a7 a8 a9 a10 a11 a12 a13:Value}(v0 v1 v2 v3 v4 v5 v6 v7 v8 v9 v10 v11 v12 v13:Value)(h:St W0 w K (.raw b #[a0,a1,a2,a3,a4,a5,a6,a7,a8,a9,a10,a11,a12,a13] T::L)):St W0 ((((((((((((((w.setCell ⟨b,0,none⟩ v0).setCell ⟨b,1,none⟩ v1).setCell ⟨b,2,none⟩ v2).setCell ⟨b,3,none⟩ v3).setCell ⟨b,4,none⟩ v4).setCell ⟨b,5,none⟩ v5).setCell ⟨b,6,none⟩ v6).setCell ⟨b,7,none⟩ v7).setCell ⟨b,8,none⟩ v8).setCell ⟨b,9,none⟩ v9).setCell ⟨b,10,none⟩ v10).setCell ⟨b,11,none⟩ v11).setCell ⟨b,12,none⟩ v12).setCell ⟨b,13,none⟩ v13) K (.raw b #[v0,v1,v2,v3,v4,v5,v6,v7,v8,v9,v10,v11,v12,v13] T::L):=by
 have h:St W0 _ K (.raw b #[v0,a1,a2,a3,a4,a5,a6,a7,a8,a9,a10,a11,a12,a13] T::L):=h.rawSet 0 v0;have h:St W0 _ K (.raw b #[v0,v1,a2,a3,a4,a5,a6,a7,a8,a9,a10,a11,a12,a13] T::L):=h.rawSet 1 v1;have h:St W0 _ K (.raw b #[v0,v1,v2,a3,a4,a5,a6,a7,a8,a9,a10,a11,a12,a13] T::L):=h.rawSet 2 v2;have h:St W0 _ K (.raw b #[v0,v1,v2,v3,a4,a5,a6,a7,a8,a9,a10,a11,a12,a13] T::L):=h.rawSet 3 v3;have h:St W0 _ K (.raw b #[v0,v1,v2,v3,v4,a5,a6,a7,a8,a9,a10,a11,a12,a13] T::L):=h.rawSet 4 v4;have h:St W0 _ K (.raw b #[v0,v1,v2,v3,v4,v5,a6,a7,a8,a9,a10,a11,a12,a13] T::L):=h.rawSet 5 v5;have h:St W0 _ K (.raw b #[v0,v1,v2,v3,v4,v5,v6,a7,a8,a9,a10,a11,a12,a13] T::L):=h.rawSet 6 v6;have h:St W0 _ K (.raw b #[v0,v1,v2,v3,v4,v5,v6,v7,a8,a9,a10,a11,a12,a13] T::L):=h.rawSet 7 v7;have h:St W0 _ K (.raw b #[v0,v1,v2,v3,v4,v5,v6,v7,v8,a9,a10,a11,a12,a13] T::L):=h.rawSet 8 v8;have h:St W0 _ K (.raw b #[v0,v1,v2,v3,v4,v5,v6,v7,v8,v9,a10,a11,a12,a13] T::L):=h.rawSet 9 v9;have h:St W0 _ K (.raw b #[v0,v1,v2,v3,v4,v5,v6,v7,v8,v9,v10,a11,a12,a13] T::L):=h.rawSet 10 v10;have h:St W0 _ K (.raw b #[v0,v1,v2,v3,v4,v5,v6,v7,v8,v9,v10,v11,a12,a13] T::L):=h.rawSet 11 v11;have h:St W0 _ K (.raw b #[v0,v1,v2,v3,v4,v5,v6,v7,v8,v9,v10,v11,v12,a13] T::L):=h.rawSet 12 v12;have h:St W0 _ K (.raw b #[v0,v1,v2,v3,v4,v5,v6,v7,v8,v9,v10,v11,v12,v13] T::L):=h.rawSet 13 v13;exact h
def unpT:Nat→Bs→Except Int (List RecS)
  |0,s=>if s=[]then .ok []else .error 10
  |n+1,s=>if s=[]then .error 10 else match zBU s with
    | .error e=> .error e
    | .ok y=>zDn y.1 (unpT n (s.drop y.2))
theorem zDp:∀(n:Nat) (rows:Bs) (pos:Nat),pos≤rows.length→unp n ⟨rows,pos,0⟩=unpT n (rows.drop pos)
  |0,rows,pos,hp=>by
    show(if (⟨rows,pos,0⟩:InS).left=0 then Except.ok []else Except.error (10:Int))=if rows.drop pos=[]then Except.ok []else Except.error (10:Int)
    have e:(⟨rows,pos,0⟩:InS).left=rows.length - pos:=rfl
    by_cases c:rows.length - pos=0
    · rw[if_pos (by rw[e];exact c),if_pos (List.drop_of_length_le (by omega))]
    · have hne:rows.drop pos≠[]:=by
        intro hh;have:=congrArg List.length hh;rw[List.length_drop,List.length_nil]at this;exact c this
      rw[if_neg (by rw[e];exact c),if_neg hne]
  |n+1,rows,pos,hp=>by
    show(if (⟨rows,pos,0⟩:InS).left=0 then Except.error (10:Int)else if (⟨rows,pos,0⟩:InS).record.2.err=0 then zDn (⟨rows,pos,0⟩:InS).record.1 (unp n (⟨rows,pos,0⟩:InS).record.2)else .error (⟨rows,pos,0⟩:InS).record.2.err)=if rows.drop pos=[]then Except.error (10:Int)else match zBU (rows.drop pos)with
      | .error e=>Except.error e
      | .ok y=>zDn y.1 (unpT n ((rows.drop pos).drop y.2))
    have e:(⟨rows,pos,0⟩:InS).left=rows.length - pos:=rfl
    by_cases c:rows.length - pos=0
    · rw[if_pos (by rw[e];exact c),if_pos (List.drop_of_length_le (by omega))]
    have hne:rows.drop pos≠[]:=by
      intro hh;have:=congrArg List.length hh;rw[List.length_drop,List.length_nil]at this;exact c this
    rw[if_neg (by rw[e];exact c),if_neg hne]
    cases hr:zBU (rows.drop pos)with
    |error e=>
      obtain⟨he,q,_,hf⟩:=zCK.err rows pos e hp hr;rw[hf];simp only;rw[if_neg he]
    |ok y=>
      obtain⟨x,m⟩:=y;obtain⟨hpm,hf⟩:=zCK.ok rows pos x m hp hr;rw[hf];simp only[if_true];rw[zDp n rows (pos+m) hpm,List.drop_drop]
theorem zNV(n:Nat):unpT (n+1) []=.error 10:=rfl
theorem zq26{p:Prop}(h:p:=by
  show(if s=[]then Except.error (10:Int)else match zBU s with
   | .error e=>Except.error e
   | .ok y=>zDn y.1 (unpT n (s.drop y.2)))=_
  rw[if_neg h0,h]):p:=h
theorem zNW{n:Nat}{s:Bs}{e:Int}(h0:s≠[])(h:zBU s=.error e):unpT (n+1) s=.error e:=by
 exact zq26
theorem zO9{n:Nat}{s:Bs}{x:RecS}{m:Nat}(h0:s≠[])(h:zBU s=.ok (x,m)):unpT (n+1) s=zDn x (unpT n (s.drop m)):=by
 exact zq26
theorem zL6(s:Bs):unpT 0 s=if s=[]then .ok []else .error 10:=rfl
theorem zKY(n:Int):chk n=9↔¬n % 8=0:=by
 unfold chk zAf
 constructor
 · intro h hh;rw[if_neg (by simp;omega)]at h
   split at h<;>cases h
 · intro h;rw[if_pos (by simp;omega)]
theorem zHT(n:Int)(h8:n % 8=0):chk n=if n<0∨63<n∨(32≤n∧n % 32<16)then 8 else 0:=by
 unfold chk;rw[if_neg (by unfold zAf;simp;omega)]
 by_cases c:n<0∨63<n
 · rw[if_pos (by simp only[Bool.or_eq_true,decide_eq_true_eq];exact .inl c),if_pos (by omega)]
 · have h1:(decide (n<0)||decide (63<n))=false:=by simp;omega
   rw[h1,Bool.false_or]
   by_cases d:32≤n∧n % 32<16
   · rw[if_pos (by unfold zAf;simp;omega),if_pos (by omega)]
   · rw[if_neg (by unfold zAf;simp;omega),if_neg (by omega)]
theorem zH6(n:Int):∃c0 c1:UInt8,zAk n 2=[c0,c1]∧(c1.toNat:Int)=n % 256:=by
 have hl:=zAr n 2;have h1:=zGa n 2 1 (by decide)
 rcases hb:zAk n 2 with _|⟨c0,_|⟨c1,t⟩⟩
 · rw[hb]at hl;cases hl
 · rw[hb]at hl;cases hl
 · rw[hb]at hl;obtain rfl:t=[]:=by simp at hl;exact hl
   refine⟨c0,c1,rfl,?_⟩;simp only[hb]at h1
   simpa using h1.symm
theorem zG8{ops:Array Oper}{rest:List Oper}{o:Oper}{a:Act}{Q:Exit→Act→World→Prop}(hgd:o.guard=none)(sl x:Operand)
    (ho:o.op=.call {callee:=.builtin .append,args:= #[sl,x],argTypes:= #[57,9]})
    (v:Value)(n:Nat)(r s:Bs)(hn:n=r.length)(hs:a.eval sl=v)(hst:St W0 w K (.row v 5 1 n (zAt r)::L))(hx:a.eval x=.string (bb s))(hbytes:n+s.length≤140737488355328)
    (h:∀v' w',St W0 w' K (.row v' 5 1 (r++s).length (zAt (r++s))::L)→wpList Tryz.prog ops Q rest (a.put o.dst v') w'):wpList Tryz.prog ops Q (o::rest) a w:=by
  obtain⟨i0,hi,hz0,hz1,hz2⟩:=info_parts zHD;subst hn;refine zDc hgd sl x 57 9 ho 5 i0 Tryz.underlying57 Tryz.underlying9 hi hz0 hz1 hz2 v _ _ hs hst.rowGet (bb s) hx hbytes ?_;intro v' w1 h1 h2 h3;rw[zFg,←zCb]at h1;have e:r.length+(bb s).size=(r++s).length:=by rw[List.length_append];rfl
  rw[e]at h1;exact h v' w1 (hst.rowGrown h1 h2 h3)
theorem St.rowCut{g cap n m:Nat}{T:TypeId}{xs:List Value}(h:St W0 w K (.row (.slice (some ⟨g,0,none⟩) n cap) T 1 n xs::L))(hm:m≤n):St W0 w K (.row (.slice (some ⟨g,0,none⟩) m cap) T 1 m (xs.take m)::L):=by
 refine h.map fun S hS=> ?_
 obtain⟨S1,S2,⟨⟨a1,a2⟩,h2⟩,r⟩:=hS;refine⟨S1,S2,⟨⟨?_,?_⟩,h2⟩,r⟩
 · rw[List.length_take];omega
 · rcases a2 with ⟨a3,_⟩|⟨g2,cap2,cur,e1,e2,e3,e4,e5,e6,e7⟩
   · cases a3
   · simp at e1;obtain⟨rfl,rfl⟩:=e1;refine .inr ⟨g,cap,cur,rfl,e2,e3,by omega,e5,e6,?_⟩;rw[←e7,List.take_take]
     congr 1
     omega
theorem St.rowTextAt{g cap n:Nat}{s:Bs}(h:St W0 w K (.row (.slice (some ⟨g,0,none⟩) n cap) 5 1 n (zAt s)::L))(pos k c:Nat)(hn:n=s.length)(hk:pos+k≤s.length):
   (convert 57 9 (.slice (some ⟨g,pos,none⟩) k c)).run Tryz.prog w=.ok (.string (bb ((s.drop pos).take k))) w:=by
 have hl:((s.drop pos).take k).length=k:=by rw[List.length_take,List.length_drop];omega
 have:=run_convert_bytes_back (P:=Tryz.prog) w 57 9 5 ⟨g,pos,none⟩ c ((s.drop pos).take k) Tryz.underlying57 Tryz.underlying5 Tryz.underlying9 (fun j hj=> ?_)
 · rw[hl]at this;exact this
 · rw[hl]at hj;have ha:(⟨g,pos,none⟩:Addr).add j=⟨g,pos+j,none⟩:=by unfold Addr.add;split<;>simp_all
   rw[ha,h.rowCell (pos+j) (by omega)];have hb:pos+j<s.length:=by omega
   unfold zAt;rw[List.getElem?_map,List.getElem?_eq_getElem hb]
   simp
theorem zNw(w:World):(convert 57 9 (.slice none 0 0)).run Tryz.prog w=.ok (.string ⟨#[]⟩) w:=zFV (s:=[]) (World.ownsRow_nil _ _ _ _)
theorem zLM(w:World)(a:Addr)(c:Nat):(convert 57 9 (.slice (some a) 0 c)).run Tryz.prog w=.ok (.string ⟨#[]⟩) w:=
 run_convert_bytes_back (P:=Tryz.prog) w 57 9 5 a c [] Tryz.underlying57 Tryz.underlying5 Tryz.underlying9 (fun j hj=>by simp at hj)
theorem zAU{P:Program}{fn:Func}{p t u:Tmp}{ty:TypeId}(h:fn.results= #[.cell p ty,.tmp t,.tmp u])(tmps:Array Value)(w:World)(b:Nat)(cs:List Value)(d:TypeDesc)
    (hp:tmps.getD p undef=.pointer (some ⟨b,0,none⟩))(hc:w.rangeAt b 0 cs)(hu:P.underlying ty=some d)(hd:d.isRow=true)(hi:(P.info? ty).map (·.size)=some cs.length):
    (results fn tmps).run P w=.ok (.tuple #[.agg cs.toArray,tmps.getD t undef,tmps.getD u undef]) w:=by
  have hp':tmps[p]?.getD undef=.pointer (some ⟨b,0,none⟩):=by simpa using hp
  simp[results,h,hp',asAddr,run_loadVar_mid w b 0 ty cs d hc hu hd hi]
theorem zO3(p:Nat)(i:InS)(e:Int)(hx:i.err=e)(h:St W0 w K (.inp p i::L)):
  Calls Tryz.prog 168 #[zAC p] w fun en w'=>en=.returned (.int .i64 e)∧St W0 w' K (.inp p i::L):=by
 subst hx;exact zGg p i h
set_option maxHeartbeats 2000000
variable {W0 w:World}{K:Know}{L:List Res}
theorem zQc(said rows:Bs)(base ln leader sm at_ last first maxt prod epoch sq:Int)(cnt:Nat)(x:Nat)(hx:(zAq 0#32 (said.drop 21++rows)).toNat=x)(hs1:21≤said.length)(hs2:said.length≤140737488355328)(hs3:rows.length≤140737488355328)(h0:(x:Int)≠sm)(h:St W0 w K L):
  Calls Tryz.prog 189 #[.agg #[.int .i64 base,.int .i64 ln,.int .i64 leader,.int .i64 sm,.int .i64 at_,.int .i64 last,.int .i64 first,.int .i64 maxt,.int .i64 prod,.int .i64 epoch,.int .i64 sq,.int .i64 cnt],.string (bb said),.string (bb rows)] w fun en w'=>en=.returned (.tuple #[.agg #[.int .i64 0,.int .i64 0,.bool false,.bool false,.bool false,.int .i64 0,.int .i64 0,.int .i64 0,.int .i64 0,.int .i64 0,.int .i64 0,.slice none 0 0],.int .i64 5])∧St W0 w' K L:=by
 have gz:((x:Int)==sm)=false:=by rw[beq_eq_false_iff_ne];exact h0
 have gz2:((x:Int) !=sm)=true:=by simp[bne,gz]
 clear h0;have g1:=h.allocRaw #[.int .i64 base,.int .i64 ln,.int .i64 leader,.int .i64 sm,.int .i64 at_,.int .i64 last,.int .i64 first,.int .i64 maxt,.int .i64 prod,.int .i64 epoch,.int .i64 sq,.int .i64 cnt] 130;have g2:=g1.allocRaw #[.int .i64 0,.int .i64 0,.bool false,.bool false,.bool false,.int .i64 0,.int .i64 0,.int .i64 0,.int .i64 0,.int .i64 0,.int .i64 0,.slice none 0 0] 30;obtain⟨pb,hpb⟩:∃b,w.heap.size=b:=⟨_,rfl⟩;obtain⟨rb,hrb⟩:∃b,pb+1=b:=⟨_,rfl⟩;simp only[World.size_alloc,hpb,hrb]at g2;have H:=hQd g2;have HX:=hQd hx;have HS1:=hQd hs1;have HS2:=hQd hs2;have HS3:=hQd hs3;clear h g1 g2 hx hs1 hs2 hs3;go_enter Tryz.func189,Tryz.ntmps189;go_upto_region 1 with (fail);have hs:=H.out.drew;refine wp_region_held_drew (S:=fun w'=>w'.cell? ⟨pb,0,none⟩=some (.int .i64 base)∧w'.cell? ⟨pb,1,none⟩=some (.int .i64 ln)∧w'.cell? ⟨pb,2,none⟩=some (.int .i64 leader)∧w'.cell? ⟨pb,3,none⟩=some (.int .i64 sm)∧w'.cell? ⟨pb,4,none⟩=some (.int .i64 at_)∧w'.cell? ⟨pb,5,none⟩=some (.int .i64 last)∧w'.cell? ⟨pb,6,none⟩=some (.int .i64 first)∧w'.cell? ⟨pb,7,none⟩=some (.int .i64 maxt)∧w'.cell? ⟨pb,8,none⟩=some (.int .i64 prod)∧w'.cell? ⟨pb,9,none⟩=some (.int .i64 epoch)∧w'.cell? ⟨pb,10,none⟩=some (.int .i64 sq)∧w'.cell? ⟨pb,11,none⟩=some (.int .i64 cnt)) (by kernel_rfl) (let ⟨x0,x1,x2,x3,x4,x5,x6,x7,x8,x9,x10,x11,_⟩:=zAc (b:=pb) (hs.p1);⟨x0,x1,x2,x3,x4,x5,x6,x7,x8,x9,x10,x11⟩) (fun hHeld=> ?_);refine tQ 0 ⟨some 12,.move (.tmp 1),9,_,_,none⟩ ?_;simp only[Act.put,sA,sB,sC];refine tQ 1 ⟨some 13,.move (.tmp 2),9,_,_,none⟩ ?_;simp only[Act.put,sA,sB,sC];refine tQ 3 ⟨some 15,.fieldAddr 130 (.tmp 3) 3,0,_,_,none⟩ ?_;simp only[Act.put,sA,sB,sC];refine tQ 4 ⟨some 16,.load 3 (.tmp 15),3,_,_,none⟩ ?_;simp only[Act.put,sA,sB,sC];refine wpAnyH_ready (rs:=[2]) (by kernel_rfl) (by simp) (AllReadyH.cons (o:=⟨some 14,.call {callee:=.value (.func 88),args:= #[.tmp 12,.tmp 13],argTypes:= #[9,9]},3,_,_,none⟩) rfl (fun KK hK=> ?_) AllReadyH.nil);go_simp;go_at_call 88;with_reducible refine(zEw said rows x HX.out HS1.out HS2.out HS3.out hs).mono ?_;rintro e wq ⟨rfl,hs⟩;refine hK.out _ _ (let ⟨x0,x1,x2,x3,x4,x5,x6,x7,x8,x9,x10,x11,_⟩:=zAc (b:=pb) (hs.p1);⟨x0,x1,x2,x3,x4,x5,x6,x7,x8,x9,x10,x11⟩) (fun hHeld=> ?_);clear hK KK
 try simp only[Act.put,sA,sB,sC]
 refine tQ 5 ⟨some 17,.binOp .neq 3 (.tmp 14) (.tmp 16) 3,4,_,_,none⟩ ?_;simp only[Act.put,sA,sB,sC];refine wpAnyH_done (by kernel_rfl) ?_ _;clear hHeld;have H:=hQd hs;clear hs;obtain⟨p0,p1,p2,p3,p4,p5,p6,p7,p8,p9,p10,p11,u0,u1,u2,u3,u4,u5,u6,u7,u8,u9,u10,u11⟩:=zAc (b:=rb) (H.out);obtain⟨x0,x1,x2,x3,x4,x5,x6,x7,x8,x9,x10,x11,y0,y1,y2,y3,y4,y5,y6,y7,y8,y9,y10,y11⟩:=zAc (b:=pb) ((H.out).p1);go_wp2_with fail;have hz:St W0 _ _ (.raw rb #[.int .i64 0,.int .i64 0,.bool false,.bool false,.bool false,.int .i64 0,.int .i64 0,.int .i64 0,.int .i64 0,.int .i64 0,.int .i64 0,.slice none 0 0] 30::_):=St.sets12 _ _ _ _ _ _ _ _ _ _ _ _ (H.out);refine bodyPost_ret (zBa rfl _ _ rb [.int .i64 0,.int .i64 0,.bool false,.bool false,.bool false,.int .i64 0,.int .i64 0,.int .i64 0,.int .i64 0,.int .i64 0,.int .i64 0,.slice none 0 0] _ rfl (zAp hz) Tryz.underlying30 rfl (by kernel_rfl)) rfl ?_;exact⟨rfl,hz.drop.drop⟩
theorem zOX(said rows:Bs)(base ln leader sm at_ last first maxt prod epoch sq:Int)(cnt:Nat)(x:Nat)(hx:(zAq 0#32 (said.drop 21++rows)).toNat=x)(hs1:21≤said.length)(hs2:said.length≤140737488355328)(hs3:rows.length≤140737488355328)(h0:(x:Int)=sm)(e:Int)(hat:chk at_=e)(har:R64 at_)(he:e≠0)(h:St W0 w K L):
  Calls Tryz.prog 189 #[.agg #[.int .i64 base,.int .i64 ln,.int .i64 leader,.int .i64 sm,.int .i64 at_,.int .i64 last,.int .i64 first,.int .i64 maxt,.int .i64 prod,.int .i64 epoch,.int .i64 sq,.int .i64 cnt],.string (bb said),.string (bb rows)] w fun en w'=>en=.returned (.tuple #[.agg #[.int .i64 0,.int .i64 0,.bool false,.bool false,.bool false,.int .i64 0,.int .i64 0,.int .i64 0,.int .i64 0,.int .i64 0,.int .i64 0,.slice none 0 0],.int .i64 e])∧St W0 w' K L:=by
 have gs:((x:Int)==sm)=true:=by rw[h0];exact beq_self_eq_true _
 have gs2:((x:Int) !=sm)=false:=by simp[bne,gs]
 clear h0;have gz:(e==0)=false:=by rw[beq_eq_false_iff_ne];exact he
 have HAT:=hQd hat;have HAR:=hQd har;clear he hat har;have g1:=h.allocRaw #[.int .i64 base,.int .i64 ln,.int .i64 leader,.int .i64 sm,.int .i64 at_,.int .i64 last,.int .i64 first,.int .i64 maxt,.int .i64 prod,.int .i64 epoch,.int .i64 sq,.int .i64 cnt] 130;have g2:=g1.allocRaw #[.int .i64 0,.int .i64 0,.bool false,.bool false,.bool false,.int .i64 0,.int .i64 0,.int .i64 0,.int .i64 0,.int .i64 0,.int .i64 0,.slice none 0 0] 30;obtain⟨pb,hpb⟩:∃b,w.heap.size=b:=⟨_,rfl⟩;obtain⟨rb,hrb⟩:∃b,pb+1=b:=⟨_,rfl⟩;simp only[World.size_alloc,hpb,hrb]at g2;have H:=hQd g2;have HX:=hQd hx;have HS1:=hQd hs1;have HS2:=hQd hs2;have HS3:=hQd hs3;clear h g1 g2 hx hs1 hs2 hs3;go_enter Tryz.func189,Tryz.ntmps189;go_upto_region 1 with (fail);have hs:=H.out.drew;refine wp_region_held_drew (S:=fun w'=>w'.cell? ⟨pb,0,none⟩=some (.int .i64 base)∧w'.cell? ⟨pb,1,none⟩=some (.int .i64 ln)∧w'.cell? ⟨pb,2,none⟩=some (.int .i64 leader)∧w'.cell? ⟨pb,3,none⟩=some (.int .i64 sm)∧w'.cell? ⟨pb,4,none⟩=some (.int .i64 at_)∧w'.cell? ⟨pb,5,none⟩=some (.int .i64 last)∧w'.cell? ⟨pb,6,none⟩=some (.int .i64 first)∧w'.cell? ⟨pb,7,none⟩=some (.int .i64 maxt)∧w'.cell? ⟨pb,8,none⟩=some (.int .i64 prod)∧w'.cell? ⟨pb,9,none⟩=some (.int .i64 epoch)∧w'.cell? ⟨pb,10,none⟩=some (.int .i64 sq)∧w'.cell? ⟨pb,11,none⟩=some (.int .i64 cnt)) (by kernel_rfl) (let ⟨x0,x1,x2,x3,x4,x5,x6,x7,x8,x9,x10,x11,_⟩:=zAc (b:=pb) (hs.p1);⟨x0,x1,x2,x3,x4,x5,x6,x7,x8,x9,x10,x11⟩) (fun hHeld=> ?_);refine tQ 0 ⟨some 12,.move (.tmp 1),9,_,_,none⟩ ?_;simp only[Act.put,sA,sB,sC];refine tQ 1 ⟨some 13,.move (.tmp 2),9,_,_,none⟩ ?_;simp only[Act.put,sA,sB,sC];refine tQ 3 ⟨some 15,.fieldAddr 130 (.tmp 3) 3,0,_,_,none⟩ ?_;simp only[Act.put,sA,sB,sC];refine tQ 4 ⟨some 16,.load 3 (.tmp 15),3,_,_,none⟩ ?_;simp only[Act.put,sA,sB,sC];refine wpAnyH_ready (rs:=[2]) (by kernel_rfl) (by simp) (AllReadyH.cons (o:=⟨some 14,.call {callee:=.value (.func 88),args:= #[.tmp 12,.tmp 13],argTypes:= #[9,9]},3,_,_,none⟩) rfl (fun KK hK=> ?_) AllReadyH.nil);go_simp;go_at_call 88;with_reducible refine(zEw said rows x HX.out HS1.out HS2.out HS3.out hs).mono ?_;rintro e wq ⟨rfl,hs⟩;refine hK.out _ _ (let ⟨x0,x1,x2,x3,x4,x5,x6,x7,x8,x9,x10,x11,_⟩:=zAc (b:=pb) (hs.p1);⟨x0,x1,x2,x3,x4,x5,x6,x7,x8,x9,x10,x11⟩) (fun hHeld=> ?_);clear hK KK
 try simp only[Act.put,sA,sB,sC]
 refine tQ 5 ⟨some 17,.binOp .neq 3 (.tmp 14) (.tmp 16) 3,4,_,_,none⟩ ?_;simp only[Act.put,sA,sB,sC];refine wpAnyH_done (by kernel_rfl) ?_ _;clear hHeld;have H:=hQd hs;clear hs;obtain⟨p0,p1,p2,p3,p4,p5,p6,p7,p8,p9,p10,p11,u0,u1,u2,u3,u4,u5,u6,u7,u8,u9,u10,u11⟩:=zAc (b:=rb) (H.out);obtain⟨x0,x1,x2,x3,x4,x5,x6,x7,x8,x9,x10,x11,y0,y1,y2,y3,y4,y5,y6,y7,y8,y9,y10,y11⟩:=zAc (b:=pb) ((H.out).p1);go_wp2_with (go_at_call 199;(with_reducible refine(zCz at_ e HAT.out HAR.out H.out).mono ?_);rintro e_ wn ⟨rfl,h⟩;replace H:=hQd h;clear h;obtain⟨p0,p1,p2,p3,p4,p5,p6,p7,p8,p9,p10,p11,u0,u1,u2,u3,u4,u5,u6,u7,u8,u9,u10,u11⟩:=zAc (b:=rb) (H.out);obtain⟨x0,x1,x2,x3,x4,x5,x6,x7,x8,x9,x10,x11,y0,y1,y2,y3,y4,y5,y6,y7,y8,y9,y10,y11⟩:=zAc (b:=pb) ((H.out).p1));have hz:St W0 _ _ (.raw rb #[.int .i64 0,.int .i64 0,.bool false,.bool false,.bool false,.int .i64 0,.int .i64 0,.int .i64 0,.int .i64 0,.int .i64 0,.int .i64 0,.slice none 0 0] 30::_):=St.sets12 _ _ _ _ _ _ _ _ _ _ _ _ (H.out);refine bodyPost_ret (zBa rfl _ _ rb [.int .i64 0,.int .i64 0,.bool false,.bool false,.bool false,.int .i64 0,.int .i64 0,.int .i64 0,.int .i64 0,.int .i64 0,.int .i64 0,.slice none 0 0] _ rfl (zAp hz) Tryz.underlying30 rfl (by kernel_rfl)) rfl ?_;exact⟨rfl,hz.drop.drop⟩
theorem zOV(said rows:Bs)(base ln leader sm at_ last first maxt prod epoch sq:Int)(cnt:Nat)(x:Nat)(hx:(zAq 0#32 (said.drop 21++rows)).toNat=x)(hs1:21≤said.length)(hs2:said.length≤140737488355328)(hs3:rows.length≤140737488355328)(h0:(x:Int)=sm)(hat:chk at_=0)(har:R64 at_)(hcn:cnt≤2147483647)(e:Int)(hu:unp cnt ⟨rows,0,0⟩=.error e)(he:e≠0)(h:St W0 w K L):
  Calls Tryz.prog 189 #[.agg #[.int .i64 base,.int .i64 ln,.int .i64 leader,.int .i64 sm,.int .i64 at_,.int .i64 last,.int .i64 first,.int .i64 maxt,.int .i64 prod,.int .i64 epoch,.int .i64 sq,.int .i64 cnt],.string (bb said),.string (bb rows)] w fun en w'=>en=.returned (.tuple #[.agg #[.int .i64 0,.int .i64 0,.bool false,.bool false,.bool false,.int .i64 0,.int .i64 0,.int .i64 0,.int .i64 0,.int .i64 0,.int .i64 0,.slice none 0 0],.int .i64 e])∧St W0 w' K L:=by
 have gs:((x:Int)==sm)=true:=by rw[h0];exact beq_self_eq_true _
 have gs2:((x:Int) !=sm)=false:=by simp[bne,gs]
 clear h0;have gz:(e==0)=false:=by rw[beq_eq_false_iff_ne];exact he
 have HAT:=hQd hat;have HAR:=hQd har;have HCN:=hQd hcn;have HU:=hQd hu;have HEZ:=hQd he;clear he hat har hcn hu;have g1:=h.allocRaw #[.int .i64 base,.int .i64 ln,.int .i64 leader,.int .i64 sm,.int .i64 at_,.int .i64 last,.int .i64 first,.int .i64 maxt,.int .i64 prod,.int .i64 epoch,.int .i64 sq,.int .i64 cnt] 130;have g2:=g1.allocRaw #[.int .i64 0,.int .i64 0,.bool false,.bool false,.bool false,.int .i64 0,.int .i64 0,.int .i64 0,.int .i64 0,.int .i64 0,.int .i64 0,.slice none 0 0] 30;obtain⟨pb,hpb⟩:∃b,w.heap.size=b:=⟨_,rfl⟩;obtain⟨rb,hrb⟩:∃b,pb+1=b:=⟨_,rfl⟩;simp only[World.size_alloc,hpb,hrb]at g2;have H:=hQd g2;have HX:=hQd hx;have HS1:=hQd hs1;have HS2:=hQd hs2;have HS3:=hQd hs3;clear h g1 g2 hx hs1 hs2 hs3;go_enter Tryz.func189,Tryz.ntmps189;go_upto_region 1 with (fail);have hs:=H.out.drew;refine wp_region_held_drew (S:=fun w'=>w'.cell? ⟨pb,0,none⟩=some (.int .i64 base)∧w'.cell? ⟨pb,1,none⟩=some (.int .i64 ln)∧w'.cell? ⟨pb,2,none⟩=some (.int .i64 leader)∧w'.cell? ⟨pb,3,none⟩=some (.int .i64 sm)∧w'.cell? ⟨pb,4,none⟩=some (.int .i64 at_)∧w'.cell? ⟨pb,5,none⟩=some (.int .i64 last)∧w'.cell? ⟨pb,6,none⟩=some (.int .i64 first)∧w'.cell? ⟨pb,7,none⟩=some (.int .i64 maxt)∧w'.cell? ⟨pb,8,none⟩=some (.int .i64 prod)∧w'.cell? ⟨pb,9,none⟩=some (.int .i64 epoch)∧w'.cell? ⟨pb,10,none⟩=some (.int .i64 sq)∧w'.cell? ⟨pb,11,none⟩=some (.int .i64 cnt)) (by kernel_rfl) (let ⟨x0,x1,x2,x3,x4,x5,x6,x7,x8,x9,x10,x11,_⟩:=zAc (b:=pb) (hs.p1);⟨x0,x1,x2,x3,x4,x5,x6,x7,x8,x9,x10,x11⟩) (fun hHeld=> ?_);refine tQ 0 ⟨some 12,.move (.tmp 1),9,_,_,none⟩ ?_;simp only[Act.put,sA,sB,sC];refine tQ 1 ⟨some 13,.move (.tmp 2),9,_,_,none⟩ ?_;simp only[Act.put,sA,sB,sC];refine tQ 3 ⟨some 15,.fieldAddr 130 (.tmp 3) 3,0,_,_,none⟩ ?_;simp only[Act.put,sA,sB,sC];refine tQ 4 ⟨some 16,.load 3 (.tmp 15),3,_,_,none⟩ ?_;simp only[Act.put,sA,sB,sC];refine wpAnyH_ready (rs:=[2]) (by kernel_rfl) (by simp) (AllReadyH.cons (o:=⟨some 14,.call {callee:=.value (.func 88),args:= #[.tmp 12,.tmp 13],argTypes:= #[9,9]},3,_,_,none⟩) rfl (fun KK hK=> ?_) AllReadyH.nil);go_simp;go_at_call 88;with_reducible refine(zEw said rows x HX.out HS1.out HS2.out HS3.out hs).mono ?_;rintro e wq ⟨rfl,hs⟩;refine hK.out _ _ (let ⟨x0,x1,x2,x3,x4,x5,x6,x7,x8,x9,x10,x11,_⟩:=zAc (b:=pb) (hs.p1);⟨x0,x1,x2,x3,x4,x5,x6,x7,x8,x9,x10,x11⟩) (fun hHeld=> ?_);clear hK KK
 try simp only[Act.put,sA,sB,sC]
 refine tQ 5 ⟨some 17,.binOp .neq 3 (.tmp 14) (.tmp 16) 3,4,_,_,none⟩ ?_;simp only[Act.put,sA,sB,sC];refine wpAnyH_done (by kernel_rfl) ?_ _;clear hHeld;have H:=hQd hs;clear hs;obtain⟨p0,p1,p2,p3,p4,p5,p6,p7,p8,p9,p10,p11,u0,u1,u2,u3,u4,u5,u6,u7,u8,u9,u10,u11⟩:=zAc (b:=rb) (H.out);obtain⟨x0,x1,x2,x3,x4,x5,x6,x7,x8,x9,x10,x11,y0,y1,y2,y3,y4,y5,y6,y7,y8,y9,y10,y11⟩:=zAc (b:=pb) ((H.out).p1)
 go_wp2_with (first
 |(go_at_call 199;(with_reducible refine(zCz at_ 0 HAT.out HAR.out H.out).mono ?_);rintro e_ wn ⟨rfl,h⟩;replace H:=hQd h;clear h;obtain⟨p0,p1,p2,p3,p4,p5,p6,p7,p8,p9,p10,p11,u0,u1,u2,u3,u4,u5,u6,u7,u8,u9,u10,u11⟩:=zAc (b:=rb) (H.out);obtain⟨x0,x1,x2,x3,x4,x5,x6,x7,x8,x9,x10,x11,y0,y1,y2,y3,y4,y5,y6,y7,y8,y9,y10,y11⟩:=zAc (b:=pb) ((H.out).p1))
 |(go_at_call 200;(with_reducible refine(zGw rows cnt HCN.out HS3.out e HEZ.out HU.out H.out).mono ?_);rintro e_ wn ⟨rfl,h⟩;replace H:=hQd h;clear h;obtain⟨p0,p1,p2,p3,p4,p5,p6,p7,p8,p9,p10,p11,u0,u1,u2,u3,u4,u5,u6,u7,u8,u9,u10,u11⟩:=zAc (b:=rb) (H.out);obtain⟨x0,x1,x2,x3,x4,x5,x6,x7,x8,x9,x10,x11,y0,y1,y2,y3,y4,y5,y6,y7,y8,y9,y10,y11⟩:=zAc (b:=pb) ((H.out).p1)))
 have hz:St W0 _ _ (.raw rb #[.int .i64 0,.int .i64 0,.bool false,.bool false,.bool false,.int .i64 0,.int .i64 0,.int .i64 0,.int .i64 0,.int .i64 0,.int .i64 0,.slice none 0 0] 30::_):=St.sets12 _ _ _ _ _ _ _ _ _ _ _ _ (H.out);refine bodyPost_ret (zBa rfl _ _ rb [.int .i64 0,.int .i64 0,.bool false,.bool false,.bool false,.int .i64 0,.int .i64 0,.int .i64 0,.int .i64 0,.int .i64 0,.int .i64 0,.slice none 0 0] _ rfl (zAp hz) Tryz.underlying30 rfl (by kernel_rfl)) rfl ?_;exact⟨rfl,hz.drop.drop⟩
end Go.Proofs.YtenojajfacacoaaGreatDoor
