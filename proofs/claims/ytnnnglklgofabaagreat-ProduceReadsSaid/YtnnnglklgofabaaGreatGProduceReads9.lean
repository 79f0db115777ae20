/- A text. -/
import Derived.Test.YtnnnglklgofabaaGreatGProduceReads8
import Derived.Test.YtnnnglklgofabaaGreatGProduceReads6
import Derived.Test.YtnnnglklgofabaaGreatGProduceReads4
import Derived.Test.YtnnnglklgofabaaGreatGProduceReads3
import Derived.Test.YtnnnglklgofabaaGreatGProduceReads5
import Derived.Test.YtnnnglklgofabaaGreatGProduceReads2
import Derived.Test.YtnnnglklgofabaaGreatGProduceReads7
/- A text. -/
namespace Go.Proofs.YtnnnglklgofabaaGreat
open Go.RowKit
def AgreeB (a b:Bs) (first n:Nat):Prop:=b.take 21=a.take 21∧∀i,(i<first∨first+n≤i)→(zBx (a.drop 21)).getD i false=(zBx (b.drop 21)).getD i false
theorem AgreeB.refl(a:Bs)(f:Nat):AgreeB a a f 0:=⟨rfl,fun _ _=>rfl⟩
theorem AgreeB.step{a b:Bs}{f n:Nat}(h:AgreeB a b f n):AgreeB a b f (n+1):=⟨h.1,fun i hi=>h.2 i oM⟩
theorem zHt(b:BatS)(s:Bs)(hs:b.enc=s)(l:List (RecS×Value))(q:Option Addr)(cap:Nat)(hl:l.map (·.1)=b.recs)(so:SmallOk b){W0 w:World}{K:Know}{L:List Res}(hk:K.has (Know.recs (.slice q l.length cap) l))(h:St W0 w K L):
 Calls Tryz.prog 57 #[.agg #[.int .i64 b.base,.int .i64 b.leader,.bool b.app,.bool b.txn,.bool b.ctl,.int .i64 b.last,.int .i64 b.first,.int .i64 b.maxt,.int .i64 b.prod,.int .i64 b.epoch,.int .i64 b.seq,.slice q l.length cap]] w fun en w'=>en=.returned (.tuple #[.string (bb s),.int .i64 0])∧St W0 w' K L:=by
 subst hs;exact zHI b l q cap hl so hk h
variable {W0 w:World}{K:Know}{L:List Res}
structure BatR where
 b:BatS
 l:List (RecS×Value)
 q:Option Addr
 cap:Nat
def RBat (cs:List Value) (x:BatR):Prop:=cs=[.int .i64 x.b.base,.int .i64 x.b.leader,.bool x.b.app,.bool x.b.txn,.bool x.b.ctl,.int .i64 x.b.last,.int .i64 x.b.first,.int .i64 x.b.maxt,.int .i64 x.b.prod,.int .i64 x.b.epoch,.int .i64 x.b.seq,.slice x.q x.l.length x.cap]
def BatR.Fit (x:BatR):Prop:=x.b.R∧FitW x.l∧x.l.map (·.1)=x.b.recs
def Know.bats (v:Value) (l:List BatR):Know:=(Know.flat RBat v 12 l).and (Know.all l fun x=>Know.recs (.slice x.q x.l.length x.cap) x.l)
theorem zK4{K:Know}{v:Value}{l:List BatR}(h:K.has (Know.bats v l)):K.has (Know.flat RBat v 12 l):=fun w F x=>(h w F x).1
theorem zC6{K:Know}{v:Value}{l:List BatR}(h:K.has (Know.bats v l)){x:BatR}(hx:x∈l):K.has (Know.recs (.slice x.q x.l.length x.cap) x.l):=fun w F y=>(h w F y).2 x hx
theorem zFn{q:Option Addr}{n cap:Nat}{l:List BatR}(hk:K.has (Know.bats (.slice q n cap) l))(h:St W0 w K L)(h0:0<l.length):∃b off,q=some ⟨b,off,none⟩:=by
 obtain⟨F,hF,_⟩:=h.get;obtain⟨q2,cap2,hv,hr⟩:=(zK4 hk _ _ hF).at;obtain⟨b,off,hq,_⟩:=hr h0;simp at hv;exact⟨b,off,hv.1.trans hq⟩
theorem zBF{b off n cap:Nat}{l:List BatR}(hk:K.has (Know.bats (.slice (some ⟨b,off,none⟩) n cap) l))(h:St W0 w K L)(i:Nat)(hi:i<l.length)(x:BatR)(hx:l[i]=x):
 w.cell? ⟨b,off+i*12,none⟩=some (.int .i64 x.b.base)∧w.cell? ⟨b,off+i*12+1,none⟩=some (.int .i64 x.b.leader)∧w.cell? ⟨b,off+i*12+2,none⟩=some (.bool x.b.app)∧w.cell? ⟨b,off+i*12+3,none⟩=some (.bool x.b.txn)∧w.cell? ⟨b,off+i*12+4,none⟩=some (.bool x.b.ctl)∧w.cell? ⟨b,off+i*12+5,none⟩=some (.int .i64 x.b.last)∧w.cell? ⟨b,off+i*12+6,none⟩=some (.int .i64 x.b.first)∧w.cell? ⟨b,off+i*12+7,none⟩=some (.int .i64 x.b.maxt)∧w.cell? ⟨b,off+i*12+8,none⟩=some (.int .i64 x.b.prod)∧w.cell? ⟨b,off+i*12+9,none⟩=some (.int .i64 x.b.epoch)∧w.cell? ⟨b,off+i*12+10,none⟩=some (.int .i64 x.b.seq)∧w.cell? ⟨b,off+i*12+11,none⟩=some (.slice x.q x.l.length x.cap):=by
 subst hx;obtain⟨F,hF,_⟩:=h.get;obtain⟨q2,cap2,hv,hr⟩:=(zK4 hk _ _ hF).at;obtain⟨b2,off2,hq,hc⟩:=hr oM;rw[hq]at hv;simp at hv;obtain⟨⟨rfl,rfl⟩,_,_⟩:=hv;obtain⟨cs,_,hR,hcs⟩:=hc i hi;unfold RBat at hR;subst hR;refine⟨?_,?_,?_,?_,?_,?_,?_,?_,?_,?_,?_,?_⟩
 ·exact hcs 0 _ rfl
 ·rw[Nat.add_assoc];exact hcs 1 _ rfl
 ·rw[Nat.add_assoc];exact hcs 2 _ rfl
 ·rw[Nat.add_assoc];exact hcs 3 _ rfl
 ·rw[Nat.add_assoc];exact hcs 4 _ rfl
 ·rw[Nat.add_assoc];exact hcs 5 _ rfl
 ·rw[Nat.add_assoc];exact hcs 6 _ rfl
 ·rw[Nat.add_assoc];exact hcs 7 _ rfl
 ·rw[Nat.add_assoc];exact hcs 8 _ rfl
 ·rw[Nat.add_assoc];exact hcs 9 _ rfl
 ·rw[Nat.add_assoc];exact hcs 10 _ rfl
 ·rw[Nat.add_assoc];exact hcs 11 _ rfl
def errB:List BatR→Int
 |[]=>0
 |x::t=>if zAl x.b=0 then errB t else zAl x.b
def encB (l:List BatR):Bs:=l.flatMap fun x=>x.b.enc
def allB (l:List BatR):Bs×Int:=if errB l=0 then(encB l,0)else([],errB l)
theorem zL1(l m:List BatR):encB (l++m)=encB l++encB m:=List.flatMap_append
theorem zQz(x:BatR):encB [x]=x.b.enc:=by unfold encB;rw[List.flatMap_cons,List.flatMap_nil,List.append_nil]
theorem zEz(x:BatR)(t:List BatR):encB (x::t)=x.b.enc++encB t:=rfl
theorem zPn(l:List BatR)(k:Nat)(h:k<l.length):encB (l.take (k+1))=encB (l.take k)++l[k].b.enc:=by
 rw[List.take_succ_eq_append_getElem h,zL1,zQz]
theorem zLX(l m:List BatR)(h:errB l=0):errB (l++m)=errB m:=by
 induction l with
 |nil=>rfl
 |cons x t ih=>
  have hx:(if zAl x.b=0 then errB t else zAl x.b)=0:=h
  show(if zAl x.b=0 then errB (t++m)else zAl x.b)=_
  by_cases h1:zAl x.b=0
  ·rw[if_pos h1]at hx ⊢;exact ih hx
  ·rw[if_neg h1]at hx;exact absurd hx h1
theorem zHF(l m:List BatR)(h:errB l≠0):errB (l++m)=errB l:=by
 induction l with
 |nil=>exact absurd rfl h
 |cons x t ih=>
  have hx:(if zAl x.b=0 then errB t else zAl x.b)≠0:=h
  show(if zAl x.b=0 then errB (t++m)else zAl x.b)=if zAl x.b=0 then errB t else zAl x.b
  by_cases h1:zAl x.b=0
  ·rw[if_pos h1]at hx;rw[if_pos h1,if_pos h1];exact ih hx
  ·rw[if_neg h1,if_neg h1]
theorem zKG(l:List BatR)(k:Nat)(h:k<l.length)(h0:errB (l.take k)=0):errB (l.take (k+1))=zAl l[k].b:=by
 rw[List.take_succ_eq_append_getElem h,zLX _ _ h0]
 show(if zAl l[k].b=0 then 0 else zAl l[k].b)=_
 by_cases h1:zAl l[k].b=0
 ·rw[if_pos h1,h1]
 ·rw[if_neg h1]
theorem zRL(l:List BatR)(k:Nat)(h:k<l.length)(h0:errB (l.take k)=0)(h1:zAl l[k].b≠0):errB l=zAl l[k].b:=by
 have e:errB l=errB (l.take (k+1)++l.drop (k+1)):=by rw[List.take_append_drop]
 have h2:=zKG l k h h0;rw[e,zHF _ _ (by rw[h2];exact h1),h2]
theorem zMT:∀(l:List BatR),errB l=0→∀x∈l,zAl x.b=0
 |[],_,_,h=>by cases h
 |y::t,hh,x,hx=>by
  have hh:(if zAl y.b=0 then errB t else zAl y.b)=0:=hh
  by_cases h1:zAl y.b=0
  ·rw[if_pos h1]at hh
   rcases List.mem_cons.1 hx with rfl|hx
   ·exact h1
   ·exact zMT t hh x hx
  ·rw[if_neg h1]at hh;exact absurd hh h1
theorem zPo:∀(l:List BatR),(∀x∈l,x.b.enc.length≤401000)→(encB l).length≤401000*l.length
 |[],_=>by simp[encB]
 |x::t,h=>by
  have h1:=zPo t (fun y hy=>h y (by simp[hy]));have h2:=h x (by simp);have e:encB (x::t)=x.b.enc++encB t:=rfl;rw[e,List.length_append,List.length_cons]
  omega
theorem BatR.small{x:BatR}(hf:x.Fit)(hs:zCy (x.l.map (·.1))=true)(he:zAl x.b=0):SmallOk x.b:=SmallOk.of hf.2.2.symm hf.2.1 hs he hf.1
theorem zLZ(x:RecS)(hx:x.R)(hs:zDJ x=true):(encR x).length≤1100:=by
 unfold zDJ at hs;simp only[Bool.and_eq_true,decide_eq_true_eq]at hs;obtain⟨s1,s2,s3⟩:=hs;have hm:=zI0 _ s3;have h0:=zCQ x.hdrs;have h1:=zD9 x.time hx.1;have h2:=zD9 x.off hx.2;have h3:=zCS x.key oM;have h4:=zCS x.val oM;have h5:=zF1 x.hdrs oM;have h8:=zD9 x.hdrs.length oM
 have h6:(recF x).length≤1060:=by
  unfold recF zDo;simp only[List.length_append,List.length_cons,List.length_nil]
  omega
 have h7:=zCS ⟨false,recF x⟩ (by simp only;omega);simp only at h7;unfold encR
 omega
theorem BatR.elen{x:BatR}(hf:x.Fit)(hs:zCy (x.l.map (·.1))=true):x.b.enc.length≤14000:=by
 rw[x.b.enc_len];unfold zCy at hs;simp only[Bool.and_eq_true,decide_eq_true_eq]at hs;rw[hf.2.2]at hs
 have h1:=zE0 x.b.recs 1100 (fun y hy=>zLZ y (by
  have hy2:y∈x.l.map (·.1):=hf.2.2 ▸ hy;obtain⟨z,hz,rfl⟩:=List.mem_map.1 hy2
  exact(hf.2.1 z hz).1) (zFW _ hs.2 y hy))
 unfold BatS.rowsB
 omega
theorem zMU:∀(l:List BatR),(∀x∈l,x.Fit)→(∀x∈l,zCy (x.l.map (·.1))=true)→(encB l).length≤14000*l.length
 |[],_,_=>by simp[encB]
 |x::t,hf,hs=>by
  have h1:=zMU t (fun y hy=>hf y (by simp[hy])) (fun y hy=>hs y (by simp[hy]));have h2:=BatR.elen (hf x (by simp)) (hs x (by simp));have e:encB (x::t)=x.b.enc++encB t:=rfl;rw[e,List.length_append,List.length_cons]
  omega
set_option maxHeartbeats 1000000
set_option maxRecDepth 100000
theorem zO5(s:Bs)(hs:s.length≤140737488355328){W0 w:World}{K:Know}{L:List Res}(h:St W0 w K L):
 Calls Tryz.prog 38 #[.string (bb s)] w fun en w'=>en=.returned (.bool (zAv s))∧St W0 w' K L:=by
 have H:=hQd h;clear h
 cases s with
 |nil=>
  go_enter Tryz.func38,Tryz.ntmps38;go_wp2;go_ret;exact⟨rfl,H.out⟩
 |cons c t=>
  have HS:=hQd hs;clear hs;go_enter Tryz.func38,Tryz.ntmps38;go_wp2;go_ret;refine⟨zAB ?_,H.out⟩;unfold zAv;rw[Bool.eq_iff_iff]
  simp
  omega
structure PartR where
 idx:Int
 l:List BatR
 q:Option Addr
 cap:Nat
def zOa (cs:List Value) (x:PartR):Prop:=cs=[.int .i64 x.idx,.slice x.q x.l.length x.cap]
def zG4 (x:PartR):List Value:=[.int .i64 x.idx,.slice x.q x.l.length x.cap]
def Know.pparts (v:Value) (l:List PartR):Know:=(Know.flat zOa v 2 l).and (Know.all l fun x=>Know.bats (.slice x.q x.l.length x.cap) x.l)
structure PTop where
 name:Bs
 l:List PartR
 q:Option Addr
 cap:Nat
def zOb (cs:List Value) (x:PTop):Prop:=cs=[.string (bb x.name),.slice x.q x.l.length x.cap]
def zCE (x:PTop):List Value:=[.string (bb x.name),.slice x.q x.l.length x.cap]
def Know.ptops (v:Value) (l:List PTop):Know:=(Know.flat zOb v 2 l).and (Know.all l fun x=>Know.pparts (.slice x.q x.l.length x.cap) x.l)
theorem zG1{K:Know}{v:Value}{l:List PartR}(h:K.has (Know.pparts v l)):K.has (Know.flat zOa v 2 l):=fun w F x=>(h w F x).1
theorem zBp{K:Know}{v:Value}{l:List PartR}(h:K.has (Know.pparts v l)){x:PartR}(hx:x∈l):K.has (Know.bats (.slice x.q x.l.length x.cap) x.l):=fun w F y=>(h w F y).2 x hx
theorem zHW{K:Know}{v:Value}{l:List PTop}(h:K.has (Know.ptops v l)):K.has (Know.flat zOb v 2 l):=fun w F x=>(h w F x).1
theorem zA5{K:Know}{v:Value}{l:List PTop}(h:K.has (Know.ptops v l)){x:PTop}(hx:x∈l):K.has (Know.pparts (.slice x.q x.l.length x.cap) x.l):=fun w F y=>(h w F y).2 x hx
theorem zBB{q:Option Addr}{n cap:Nat}{l:List PartR}(hk:K.has (Know.pparts (.slice q n cap) l))(h:St W0 w K L)(h0:0<l.length):∃b off,q=some ⟨b,off,none⟩:=by
 obtain⟨F,hF,_⟩:=h.get;obtain⟨q2,cap2,hv,hr⟩:=(zG1 hk _ _ hF).at;obtain⟨b,off,hq,_⟩:=hr h0;simp at hv;exact⟨b,off,hv.1.trans hq⟩
theorem zB9{q:Option Addr}{n cap:Nat}{l:List PTop}(hk:K.has (Know.ptops (.slice q n cap) l))(h:St W0 w K L)(h0:0<l.length):∃b off,q=some ⟨b,off,none⟩:=by
 obtain⟨F,hF,_⟩:=h.get;obtain⟨q2,cap2,hv,hr⟩:=(zHW hk _ _ hF).at;obtain⟨b,off,hq,_⟩:=hr h0;simp at hv;exact⟨b,off,hv.1.trans hq⟩
theorem zAW{b off n cap:Nat}{l:List PartR}(hk:K.has (Know.pparts (.slice (some ⟨b,off,none⟩) n cap) l))(h:St W0 w K L)(i:Nat)(hi:i<l.length)(x:PartR)(hx:l[i]=x):
 w.cell? ⟨b,off+i*2,none⟩=some (.int .i64 x.idx)∧w.cell? ⟨b,off+i*2+1,none⟩=some (.slice x.q x.l.length x.cap):=by
 subst hx;obtain⟨F,hF,_⟩:=h.get;obtain⟨q2,cap2,hv,hr⟩:=(zG1 hk _ _ hF).at;obtain⟨b2,off2,hq,hc⟩:=hr oM;rw[hq]at hv;simp at hv;obtain⟨⟨rfl,rfl⟩,_,_⟩:=hv;obtain⟨cs,_,hR,hcs⟩:=hc i hi;unfold zOa at hR;subst hR;exact⟨hcs 0 _ rfl,by rw[Nat.add_assoc];exact hcs 1 _ rfl⟩
theorem zAZ{b off n cap:Nat}{l:List PTop}(hk:K.has (Know.ptops (.slice (some ⟨b,off,none⟩) n cap) l))(h:St W0 w K L)(i:Nat)(hi:i<l.length)(x:PTop)(hx:l[i]=x):
 w.cell? ⟨b,off+i*2,none⟩=some (.string (bb x.name))∧w.cell? ⟨b,off+i*2+1,none⟩=some (.slice x.q x.l.length x.cap):=by
 subst hx;obtain⟨F,hF,_⟩:=h.get;obtain⟨q2,cap2,hv,hr⟩:=(zHW hk _ _ hF).at;obtain⟨b2,off2,hq,hc⟩:=hr oM;rw[hq]at hv;simp at hv;obtain⟨⟨rfl,rfl⟩,_,_⟩:=hv;obtain⟨cs,_,hR,hcs⟩:=hc i hi;unfold zOb at hR;subst hR;exact⟨hcs 0 _ rfl,by rw[Nat.add_assoc];exact hcs 1 _ rfl⟩
def zBL:Int→List PartR→Bool
 | _,[]=>true
 |a,x::t=>decide (a<x.idx) && decide (x.idx≤2147483647) && zBL x.idx t
def errT:Bs→List PTop→Int
 | _,[]=>0
 |a,x::t=>if x.l.length=0 then 10 else if (zAv x.name && Op.bytesLess a x.name && zBL (-1) x.l)=true then errT x.name t else 13
def zAP (l:List PTop):Int:=if l.length=0 then 10 else errT [] l
def zB5 (txn:Bool):List BatR→Int
 |[]=>0
 |x::t=>if zAl x.b≠0 then zAl x.b else if x.b.ctl=true then 12 else if x.b.txn≠txn then 8 else zB5 txn t
def zBz (txn:Bool) (v:Int):List PartR→Int
 |[]=>0
 |x::t=>if x.l.length=0∨(v=3∧1<x.l.length)then 10 else if zB5 txn x.l≠0 then zB5 txn x.l else zBz txn v t
def zBO (txn:Bool) (v:Int):List PTop→Int
 |[]=>0
 |x::t=>if zBz txn v x.l≠0 then zBz txn v x.l else zBO txn v t
def zAC (id:BlobS) (acks tmo:Int) (v:Int) (l:List PTop):Int:=
 if id.right=false∨(id.null=false∧zAv id.data=false)then 4
 else if acks< -1∨1<acks∨tmo<0∨2147483647<tmo then 11
 else if zAP l≠0 then zAP l else zBO (!id.null) v l
theorem zDK(a:Int)(x:PartR)(t:List PartR):zBL a (x::t)=(decide (a<x.idx) && decide (x.idx≤2147483647) && zBL x.idx t):=rfl
structure CkR (x:BatR):Prop where
 recs:x.l.map (·.1)=x.b.recs
 first:x.b.first≤9223372036854775807
 fit:FitB x.l
 len:x.l.length≤1000000
theorem zC1(txn:Bool)(x:BatR)(t:List BatR):zB5 txn (x::t)=if zAl x.b≠0 then zAl x.b else if x.b.ctl=true then 12 else if x.b.txn≠txn then 8 else zB5 txn t:=rfl
theorem zIV:∀x y:Bs,(Op.bytesLess x y||x==y)= !Op.bytesLess y x
 |[],[]=>rfl
 |[],_::_=>rfl
 | _::_,[]=>rfl
 |a::x,b::y=>by
  have ih:=zIV x y
  show((decide (a<b)||(a==b && Op.bytesLess x y))||(a==b && x==y))= !(decide (b<a)||(b==a && Op.bytesLess y x))
  by_cases h1:a=b
  ·subst h1;have h2:¬a<a:=by rw[UInt8.lt_iff_toNat_lt];omega
   simp only[h2,decide_false,Bool.false_or,beq_self_eq_true,Bool.true_and];exact ih
  ·have e1:(a==b)=false:=by simpa using h1
   have e2:(b==a)=false:=by simpa using fun h=>h1 h.symm
   rw[e1,e2];simp only[Bool.false_and,Bool.or_false];have h3:a.toNat≠b.toNat:=fun h=>h1 (UInt8.toNat_inj.1 h)
   by_cases h4:a<b
   ·have h5:¬b<a:=by rw[UInt8.lt_iff_toNat_lt]at h4 ⊢;omega
    simp[h4,h5]
   ·have h5:b<a:=by rw[UInt8.lt_iff_toNat_lt]at h4 ⊢;omega
    simp[h4,h5]
theorem zDD(a:Bs)(x:PTop)(t:List PTop):errT a (x::t)=if x.l.length=0 then 10 else if (zAv x.name && Op.bytesLess a x.name && zBL (-1) x.l)=true then errT x.name t else 13:=rfl
theorem zA0(s:Bs)(r:Bool)(hr:zAv s=r)(hs:s.length≤140737488355328){W0 w:World}{K:Know}{L:List Res}(h:St W0 w K L):
 Calls Tryz.prog 38 #[.string (bb s)] w fun en w'=>en=.returned (.bool r)∧St W0 w' K L:=by
 subst hr;exact zO5 s hs h
theorem zO3(x y:Bs)(h:Op.bytesLess y x=true):Op.bytesLess x y=false∧(x==y)=false:=by
 have:=zIV x y;rw[h]at this
 simpa using this
theorem zO4(x y:Bs)(h:Op.bytesLess y x=false):Op.bytesLess x y=true∨(Op.bytesLess x y=false∧(x==y)=true):=by
 have:=zIV x y;rw[h]at this
 cases c:Op.bytesLess x y with
 |true=>exact .inl rfl
 |false=>rw[c]at this;exact .inr ⟨rfl,by simpa using this⟩
theorem zB4(txn:Bool)(v:Int)(x:PartR)(t:List PartR):zBz txn v (x::t)=if x.l.length=0∨(v=3∧1<x.l.length)then 10 else if zB5 txn x.l≠0 then zB5 txn x.l else zBz txn v t:=rfl
theorem zCt(txn:Bool)(v:Int)(x:PTop)(t:List PTop):zBO txn v (x::t)=if zBz txn v x.l≠0 then zBz txn v x.l else zBO txn v t:=rfl
structure CkP (x:PartR):Prop where
 len:x.l.length≤4398046511104
 bats:∀y∈x.l,CkR y
structure CkT (x:PTop):Prop where
 name:x.name.length≤140737488355328
 len:x.l.length≤4398046511104
 parts:∀y∈x.l,CkP y
theorem zAA(nl:Bool)(dd:Bs)(r:Bool)(hr:(⟨nl,dd⟩:BlobS).right=r){W0 w:World}{K:Know}{L:List Res}(h:St W0 w K L):
 Calls Tryz.prog 37 #[.agg #[.bool nl,.string (bb dd)]] w fun en w'=>en=.returned (.bool r)∧St W0 w' K L:=by
 subst hr;exact zFl ⟨nl,dd⟩ h
theorem zBU{l:List PTop}(h:∀x∈l,CkT x):∀x∈l,x.name.length≤140737488355328∧x.l.length≤4398046511104:=fun x hx=>⟨(h x hx).name,(h x hx).len⟩
set_option maxHeartbeats 8000000
theorem zQR{l:List BatR}{s:Bs}{e:Int}(h:allB l=(s,e))(h0:errB l≠0):s=[]∧e=errB l:=by unfold allB at h;rw[if_neg h0]at h;cases h;exact⟨rfl,rfl⟩
theorem zR3{l:List BatR}{s:Bs}{e:Int}(h:allB l=(s,e))(h0:errB l=0):s=encB l∧e=0:=by unfold allB at h;rw[if_pos h0]at h;cases h;exact⟨rfl,rfl⟩
theorem zRW(l:List BatR)(q:Option Addr)(cap:Nat)(s:Bs)(e:Int)(hse:allB l=(s,e))(hf:∀x∈l,x.Fit)(hsm:∀x∈l,zCy (x.l.map (·.1))=true)(hll:l.length≤20){W0 w:World}{K:Know}{L:List Res}(hk:K.has (Know.bats (.slice q l.length cap) l))(h:St W0 w K L):
  Calls Tryz.prog 25 #[.slice q l.length cap] w fun en w'=>en=.returned (.tuple #[.string (bb s),.int .i64 e])∧St W0 w' K L:=by
 have g1:=h.allocOut;obtain⟨po,hpo⟩:∃b,w.heap.size=b:=⟨_,rfl⟩;rw[hpo]at g1;have H:=hQd g1;have HK:=hQd hk;have HFT:=hQd hf;have HSMA:=hQd hsm;have HLL:=hQd hll;have HSE:=hQd hse;clear h g1 hk hf hsm hll hse;go_enter Tryz.func25,Tryz.ntmps25;go_wp2;go_loopw [6,7,8,11] (fun _ _ _ iv wr=>∃k:Nat,k≤l.length∧iv=.int .i64 k∧errB (l.take k)=0∧St W0 wr K (.out po ⟨encB (l.take k),0⟩::L)) (fun _ _ _ iv _=>l.length - (intOf iv).toNat)
 case atStart=>exact⟨0,Nat.zero_le _,rfl,rfl,H.out⟩
 case round=>
  obtain⟨k,hkl,rfl,her,hst⟩:=hrel;clear H;have H:=hQd hst;have HER:=hQd her;clear hst her
  by_cases hlt:k<l.length
  · have hl20:(l.length:Int)≤20:=by have:=HLL.out;omega
    have hstep:=zKG l k hlt HER.out;have hat:=zRL l k hlt HER.out;have het:=zPn l k hlt;obtain⟨b,off,hqq⟩:=zFn HK.out H.out oM;subst hqq;obtain⟨x,hx⟩:∃x,l[k]=x:=⟨_,rfl⟩;have cc:=zBF HK.out H.out k hlt x hx;have hmem:x∈l:=hx ▸ List.getElem_mem hlt;have XF:=hQd (HFT.out x hmem);have XR2:=hQd XF.out.2.1;have XR3:=hQd XF.out.2.2;have XK:=hQd (zC6 HK.out hmem);obtain⟨c0,c1,c2,c3,c4,c5,c6,c7,c8,c9,c10,c11⟩:=cc;obtain⟨wE,hwE⟩:∃b,wr.heap.size=b:=⟨_,rfl⟩;have hki:(k:Int)<(l.length:Int):=by omega
    have h:=H.out.allocRaw #[.int .i64 x.b.base,.int .i64 x.b.leader,.bool x.b.app,.bool x.b.txn,.bool x.b.ctl,.int .i64 x.b.last,.int .i64 x.b.first,.int .i64 x.b.maxt,.int .i64 x.b.prod,.int .i64 x.b.epoch,.int .i64 x.b.seq,.slice x.q x.l.length x.cap] 58;rw[hwE]at h;clear H;have H:=hQd h;clear h;rw[hx]at hstep hat het;have HSX:=hQd (HSMA.out x hmem);have HSTEP:=hQd hstep;clear hstep;obtain⟨x0,x1,x2,x3,x4,x5,x6,x7,x8,x9,x10,x11,y0,y1,y2,y3,y4,y5,y6,y7,y8,y9,y10,y11⟩:=zAe (b:=wE) (H.out)
    by_cases he:zAl x.b=0
    · have HSO:=hQd (BatR.small XF.out HSX.out he);obtain⟨s0,hs0⟩:∃s,x.b.enc=s:=⟨_,rfl⟩;have HS:=hQd hs0;rw[hs0]at het
      have OK:=hQd (show(⟨encB (l.take k),0⟩:OutS).ok s0.length by
       have h1:=zPo (l.take k) (fun y hy=>(BatR.small (HFT.out y (List.mem_of_mem_take hy)) (HSMA.out y (List.mem_of_mem_take hy)) (zMT _ HER.out y hy)).elen);have h2:=HLL.out;have h3:=HSO.out.elen;rw[HS.out]at h3;rw[List.length_take]at h1;unfold OutS.ok;simp only
       omega)
      have EP:=hQd (show(⟨encB (l.take k),0⟩:OutS).put s0=⟨encB (l.take (k+1)),0⟩ by rw[het];rfl);have NE:=hQd (show errB (l.take (k+1))=0 by rw[HSTEP.out];exact he);clear het hat hs0 he hx hmem
      go_wp2_with (first
  |(go_at_call 57;clear x0 y0 x1 y1 x2 y2 x3 y3 x4 y4 x5 y5 x6 y6 x7 y7 x8 y8 x9 y9 x10 y10 x11 y11;(with_reducible refine(zHt x.b s0 HS.out x.l _ _ XR3.out HSO.out XK.out H.out).zM ?_);clear H;intro wn H;obtain⟨x0,x1,x2,x3,x4,x5,x6,x7,x8,x9,x10,x11,y0,y1,y2,y3,y4,y5,y6,y7,y8,y9,y10,y11⟩:=zAe (b:=wE) (H.out))
  |(go_at_call 60;(with_reducible refine(zQS po _ _ H.out.p1 OK.out).mono ?_);rw[EP.out];rintro e_ wn ⟨rfl,h⟩;replace H:=hQd h;clear h))
      go_roundw
      case rel=>exact⟨k+1,hlt,by go_num,NE.out,H.out.p1.drop⟩
      case measure=>first|(simp[intOf];done)|(simp[intOf];omega)
    · have hee:=zQR HSE.out (by rw[hat he];exact he);rw[hat he]at hee;obtain⟨rfl,he0⟩:=hee;have he2:zAl x.b=e:=he0.symm;rw[he2]at he;have HE:=hQd (show zAl ⟨x.b.base,x.b.leader,x.b.app,x.b.txn,x.b.ctl,x.b.last,x.b.first,x.b.maxt,x.b.prod,x.b.epoch,x.b.seq,x.l.map (·.1)⟩=e by rw[XF.out.2.2];exact he2);have H0:=hQd he;have HMX:=hQd (show x.b.first≤9223372036854775807 by have:=XF.out.1.2.2.2.1.2;omega);have HFB:=hQd (FitW.fit XF.out.2.1 HSX.out);have HLL3:=hQd (show x.l.length≤1000 by have:=zEW HSX.out;omega);have gz:(e==0)=false:=by rw[beq_eq_false_iff_ne];exact he
      have gz3:(e !=0)=true:=by simp[bne,gz]
      clear het hat he he0 he2 hx hmem
      go_wp2_with (first
  |(go_at_call 57;clear x0 y0 x1 y1 x2 y2 x3 y3 x4 y4 x5 y5 x6 y6 x7 y7 x8 y8 x9 y9 x10 y10 x11 y11;(with_reducible refine(zHJ _ _ _ _ _ _ _ _ _ _ _ x.l _ _ e HE.out H0.out HMX.out HFB.out HLL3.out XK.out H.out).zM ?_);clear H;intro wn H;obtain⟨x0,x1,x2,x3,x4,x5,x6,x7,x8,x9,x10,x11,y0,y1,y2,y3,y4,y5,y6,y7,y8,y9,y10,y11⟩:=zAe (b:=wE) (H.out)))
      go_ret2;exact⟨rfl,H.out.drop.drop⟩
  · obtain rfl:k=l.length:=by omega
    have her:=HER.out;rw[List.take_length]at her;obtain⟨hs,rfl⟩:=zR3 HSE.out her;have h:=H.out;rw[List.take_length,←hs]at h;clear H her hs;have H:=hQd h;clear h;have ET:=hQd (show(⟨s,0⟩:OutS).text=(s,0)from rfl)
    go_wp2_with (first
  |(go_at_call 9;(with_reducible refine(zIp po _ H.out).mono ?_);rw[ET.out];rintro e_ wn ⟨rfl,h⟩;replace H:=hQd h;clear h))
    go_ret2;exact⟨rfl,H.out.drop⟩
def zAL (x:PartR):Bs:=zAd x.idx (4:Int).toNat++encF 4 ⟨false,encB x.l⟩
def zAJ (x:PTop):Bs:=(encF 2 ⟨false,x.name⟩++zAd (x.l.length:Int) (4:Int).toNat)++x.l.flatMap zAL
def zCi (nl:Bool) (dd:Bs) (ac tm:Int) (l:List PTop):Bs:=(((encF 2 ⟨nl,dd⟩++zAd ac (2:Int).toNat)++zAd tm (4:Int).toNat)++zAd (l.length:Int) (4:Int).toNat)++l.flatMap zAJ
theorem zMK(n:Int)(h: -32768≤n∧n<32768):fits n 2:=by
 refine⟨dD,dD,?_,?_⟩
 ·show -(128*256 ^ 1:Int)≤n;omega
 ·show n<128*256 ^ 1;omega
theorem zKk(n:Int)(h: -2147483648≤n∧n<2147483648):fits n 4:=by
 refine⟨dD,dD,?_,?_⟩
 ·show -(128*256 ^ 3:Int)≤n;omega
 ·show n<128*256 ^ 3;omega
theorem zGO(p:Nat)(e e2:Bs)(n size:Int)(he:e++zAd n size.toNat=e2)(hf:fits n size)(hn: -9223372036854775808≤n∧n<9223372036854775808)(hl:e.length≤100000000000000)(h:St W0 w K (.out p ⟨e,0⟩::L)):
 Calls Tryz.prog 32 #[zAO p,.int .i64 n,.int .i64 size] w fun en w'=>en=.returned (.tuple #[])∧St W0 w' K (.out p ⟨e2,0⟩::L):=by
 have h2:=zMv p ⟨e,0⟩ n size hn h (by unfold OutS.ok;simp only;omega);have e3:(⟨e,0⟩:OutS).int n size=⟨e2,0⟩:=by unfold OutS.int;rw[if_pos hf,←he];rfl
 rw[e3]at h2;exact h2
theorem zNL(p:Nat)(e e2 s:Bs)(he:e++encF 2 ⟨false,s⟩=e2)(hs:s.length≤32767)(hl:e.length≤100000000000000)(h:St W0 w K (.out p ⟨e,0⟩::L)):
 Calls Tryz.prog 33 #[zAO p,.string (bb s)] w fun en w'=>en=.returned (.tuple #[])∧St W0 w' K (.out p ⟨e2,0⟩::L):=by
 have h2:=zKX p ⟨e,0⟩ s h (by unfold OutS.ok;simp only;omega);have hf:fits (⟨false,s⟩:BlobS).len 2:=zMK _ (by show -32768≤(s.length:Int)∧(s.length:Int)<32768;omega)
 have e3:(⟨e,0⟩:OutS).putText s=⟨e2,0⟩:=by
  show((⟨e,0⟩:OutS).int (⟨false,s⟩:BlobS).len 2).putData ⟨false,s⟩=_
  unfold OutS.int;rw[if_pos hf,←he]
  show(⟨(e++zAd (⟨false,s⟩:BlobS).len 2)++s,0⟩:OutS)=_
  rw[List.append_assoc]
  rfl
 rw[e3]at h2;exact h2
theorem zKm(p:Nat)(e e2:Bs)(u:Bool)(s:Bs)(he:e++encF 2 ⟨u,s⟩=e2)(hr:(⟨u,s⟩:BlobS).right=true)(hs:s.length≤32767)(hl:e.length≤100000000000000)(h:St W0 w K (.out p ⟨e,0⟩::L)):
 Calls Tryz.prog 31 #[zAO p,.agg #[.bool u,.string (bb s)],.int .i64 2] w fun en w'=>en=.returned (.tuple #[])∧St W0 w' K (.out p ⟨e2,0⟩::L):=by
 have h2:=zDk p ⟨e,0⟩ ⟨u,s⟩ 2 h (by unfold OutS.ok;simp only;omega)
 have e3:(⟨e,0⟩:OutS).putFixed ⟨u,s⟩ 2=⟨e2,0⟩:=by
  unfold OutS.putFixed OutS.int
  cases u with
  |true=>
   have h3:s=[]:=by cases s with|nil=>rfl|cons _ _=>cases hr
   subst h3;rw[if_pos (zMK _ dD),←he]
   show(⟨(e++zAd (⟨true,[]⟩:BlobS).len 2)++[],0⟩:OutS)=_
   rw[List.append_assoc]
   rfl
  |false=>
   rw[if_pos (zMK _ (by show -32768≤(s.length:Int)∧(s.length:Int)<32768;omega)),←he]
   show(⟨(e++zAd (⟨false,s⟩:BlobS).len 2)++s,0⟩:OutS)=_
   rw[List.append_assoc]
   rfl
 rw[e3]at h2;exact h2
theorem zKl(p:Nat)(e e2 s:Bs)(he:e++encF 4 ⟨false,s⟩=e2)(hs:s.length≤100000000)(hl:e.length≤100000000000000)(h:St W0 w K (.out p ⟨e,0⟩::L)):
 Calls Tryz.prog 31 #[zAO p,.agg #[.bool false,.string (bb s)],.int .i64 4] w fun en w'=>en=.returned (.tuple #[])∧St W0 w' K (.out p ⟨e2,0⟩::L):=by
 have h2:=zDk p ⟨e,0⟩ ⟨false,s⟩ 4 h (by unfold OutS.ok;simp only;omega)
 have e3:(⟨e,0⟩:OutS).putFixed ⟨false,s⟩ 4=⟨e2,0⟩:=by
  unfold OutS.putFixed OutS.int;rw[if_pos (zKk _ (by show -2147483648≤(s.length:Int)∧(s.length:Int)<2147483648;omega)),←he]
  show(⟨(e++zAd (⟨false,s⟩:BlobS).len 4)++s,0⟩:OutS)=_
  rw[List.append_assoc]
  rfl
 rw[e3]at h2;exact h2
theorem zQe(s:Bs)(h:St W0 w K L):Calls Tryz.prog 68 #[.string (bb s)] w fun en w'=>en=.returned (.agg #[.bool false,.string (bb s)])∧St W0 w' K L:=zJg s h
structure PutP (x:PartR):Prop where
 few:x.l.length≤20
 fit:∀y∈x.l,y.Fit
 small:∀y∈x.l,zCy (y.l.map (·.1))=true
 err:errB x.l=0
 idx:0≤x.idx∧x.idx≤2147483647
theorem PutP.len{x:PartR}(h:PutP x):(encB x.l).length≤280000:=by
 have h1:=zMU x.l h.fit h.small;have:=h.few
 omega
theorem zPL{l:List BatR}(h:errB l=0):allB l=(encB l,0):=by unfold allB;rw[if_pos h]
structure PutT (x:PTop):Prop where
 name:x.name.length≤32767
 few:x.l.length≤100000
 parts:∀y∈x.l,PutP y
theorem zF0{α:Type}(f:α→Bs)(l:List α)(k:Nat)(hk:k<l.length)(x:α)(hx:l[k]=x):(l.drop k).flatMap f=f x++(l.drop (k+1)).flatMap f:=by
 rw[List.drop_eq_getElem_cons hk,hx,List.flatMap_cons]
theorem zA8{a b c:Bs}{n:Nat}(h:a++b=c)(hc:c.length≤n):a.length≤n:=by
 have:=congrArg List.length h;rw[List.length_append]at this
 omega
theorem St.lend{W0 w:World}{K Kr:Know}{L:List Res}{r:Res}(h:St W0 w K (r::L))(hr:∀S1:Nat→Prop,r.holds w S1→(∀k,S1 k→k<w.heap.size)→Kr.p w S1)(hp:r.plain:=by trivial):
 ∃Kp:Know,Kp.has K∧Kp.has Kr∧St W0 w Kp L∧∀(w':World) (L':List Res) (Kq:Know),Kq.has Kp→St W0 w' Kq L'→St W0 w' K (r::L'):=by
 obtain⟨hb,S,F,⟨S1,S2,h1,h2,h3,h4⟩,hc,hk,he⟩:=h;have hF:∀k,F k→k<w.heap.size:=fun k hk=>(he k hk).1
 have hS:∀k,S1 k→k<w.heap.size:=fun k hk=>(hc k ((h4 k).2 (.inl hk))).2
 refine⟨⟨fun w' F'=>(∀k,F k∨S1 k→F' k)∧w.heap.size≤w'.heap.size∧∀k,F k∨S1 k→w'.heap[k]? =w.heap[k]?,?_,?_⟩,?_,?_,?_,?_⟩
 ·intro w1 w2 F' ⟨a,b,c⟩ hs hh;refine⟨a,Nat.le_trans b hs,fun k hk=> ?_⟩;have hl:k<w.heap.size:=by rcases hk with hk|hk;exact hF k hk;exact hS k hk
  rw[hh k (Nat.lt_of_lt_of_le hl b) (a k hk),c k hk]
 ·intro w1 F1 F2 ⟨a,b,c⟩ hs;exact⟨fun k hk=>hs k (a k hk),b,c⟩
 ·intro w' F' ⟨a,b,c⟩;exact K.mono w' F F' (K.keep w w' F hk b (fun k _ hk=>c k (.inl hk))) (fun k hk=>a k (.inl hk))
 ·intro w' F' ⟨a,b,c⟩;exact Kr.mono w' S1 F' (Kr.keep w w' S1 (hr S1 h1 hS) b (fun k _ hk=>c k (.inr hk))) (fun k hk=>a k (.inr hk))
 ·refine⟨hb,S2,fun k=>F k∨S1 k,h2,fun k hk=>hc k ((h4 k).2 (.inr hk)),⟨fun _ h=>h,Nat.le_refl _,fun _ _=>rfl⟩,?_⟩;rintro k (hk|hk)
  ·exact⟨hF k hk,fun hh=>(he k hk).2.1 ((h4 k).2 (.inr hh)),(he k hk).2.2⟩
  ·exact⟨hS k hk,h3 k hk,fun _=>Res.unf hp h1 hk⟩
 ·intro w' L' Kq hq ⟨hb',S',F',g1,g2,g3,g4⟩;obtain⟨a,b,c⟩:=hq w' F' g3;refine⟨hb',fun k=>S1 k∨S' k,F,⟨S1,S',Res.keep h1 b (fun k _ hk=>c k (.inr hk)),g1,fun k hk hk'=>(g4 k (a k (.inr hk))).2.1 hk',fun k=>Iff.rfl⟩,?_,K.keep w w' F hk b (fun k _ hk=>c k (.inl hk)),?_⟩
  ·rintro k (hk|hk)
   ·exact⟨(hc k ((h4 k).2 (.inl hk))).1,Nat.lt_of_lt_of_le (hS k hk) b⟩
   ·exact g2 k hk
  ·intro k hk;refine⟨Nat.lt_of_lt_of_le (hF k hk) b,?_,fun h9=>((he k hk).2.2 h9).same (c k (.inl hk))⟩;rintro(hh|hh)
   ·exact(he k hk).2.1 ((h4 k).2 (.inl hh))
   ·exact(g4 k (a k (.inl hk))).2.1 hh
theorem zII{α:Type}{R:List Value→α→Prop}{sz:Nat}(l:List α)(f:α→List Value)(hf:∀x∈l,(f x).length=sz∧R (f x) x){w:World}{b cap:Nat}{T:TypeId}{c:Array Value}(hc:c=(l.flatMap f).toArray)(S1:Nat→Prop)(h1:(Res.raw b c T).holds w S1):(Know.flat R (.slice (some ⟨b,0,none⟩) l.length cap) sz l).p w S1:=by
 obtain⟨hg,hs⟩:=h1;have hlt:=zBy hg;refine⟨_,cap,rfl,fun _=>⟨b,0,rfl,(hs b).2 rfl,hlt,fun i hi=> ?_⟩⟩;obtain⟨h2,h3⟩:=hf l[i] (List.getElem_mem hi);refine⟨f l[i],h2,h3,fun q u hu=> ?_⟩;rw[zAS hg,Nat.zero_add,hc];have hq:q<sz:=by rw[←h2];exact(List.getElem?_eq_some_iff.1 hu).1
 have e:(l.flatMap f)[i*sz+q]? =some u:=by
  rw[zCG l f sz (fun x hx=>(hf x hx).1) i hi q hq];exact hu
 simpa using e
def nobB:BatS:=⟨0,0,false,false,false,0,0,0,-1,-1,-1,[]⟩
def nobR:BatR:=⟨nobB,[],none,0⟩
theorem zLQ:zAl nobB=0:=by decide+kernel
theorem zRC:nobB.enc.length=61:=by kernel_rfl
theorem nob_R:nobB.R:=by unfold BatS.R nobB Rn;decide
theorem zRD:nobR.Fit:=⟨nob_R,(fun x hx=>by cases hx),rfl⟩
theorem nob_ck:CkR nobR:=⟨rfl,dD,fun x hx=>(by cases hx),dD⟩
def zIT:BatR→List Value:=fun x=>[.int .i64 x.b.base,.int .i64 x.b.leader,.bool x.b.app,.bool x.b.txn,.bool x.b.ctl,.int .i64 x.b.last,.int .i64 x.b.first,.int .i64 x.b.maxt,.int .i64 x.b.prod,.int .i64 x.b.epoch,.int .i64 x.b.seq,.slice x.q x.l.length x.cap]
def zBS (n b:Nat):PartR:=⟨0,List.replicate n nobR,some ⟨b,0,none⟩,n⟩
def zBD (n b p:Nat):PTop:=⟨[97],[zBS n b],some ⟨p,0,none⟩,1⟩
theorem zLS{n:Nat}{P:BatR→Prop}(h:P nobR):∀x∈List.replicate n nobR,P x:=fun x hx=>by rw[List.eq_of_mem_replicate hx];exact h
theorem zLR(n b p:Nat)(hn:n≤2):CkT (zBD n b p):=by
 refine⟨by show(1:Nat)≤140737488355328;decide,by show(1:Nat)≤4398046511104;decide,fun y hy=> ?_⟩;rw[List.mem_singleton.1 hy];exact⟨by show(List.replicate n nobR).length≤_;rw[List.length_replicate];omega,zLS nob_ck⟩
theorem zQo(b p:Nat):PutT (zBD 1 b p):=by
 refine⟨by show(1:Nat)≤32767;decide,by show(1:Nat)≤100000;decide,fun y hy=> ?_⟩;rw[List.mem_singleton.1 hy];exact⟨by show(1:Nat)≤20;decide,zLS zRD,zLS dD,by show errB [nobR]=0;show(if zAl nobB=0 then 0 else _)=(0:Int);rw[zLQ];rfl,by show(0:Int)≤0∧(0:Int)≤2147483647;decide⟩
theorem nob_E1(b p:Nat)(v:Int):zAC ⟨true,[]⟩ 0 0 v [zBD 1 b p]=0:=by
 have h1:zB5 false [nobR]=0:=by
  show(if zAl nobB≠0 then zAl nobB else if nobB.ctl=true then 12 else if nobB.txn≠false then 8 else 0)=(0:Int)
  rw[zLQ];rfl
 have h2:zBz false v [zBS 1 b]=0:=by
  rw[zB4,show(zBS 1 b).l=[nobR]from rfl,h1,if_neg (by intro h;rcases h with h|⟨_,h⟩;exact absurd h dD;exact absurd h dD)];rfl
 have h3:zBO false v [zBD 1 b p]=0:=by
  show(if zBz false v [zBS 1 b]≠0 then zBz false v [zBS 1 b]else 0)=(0:Int)
  rw[h2];rfl
 show(if _ then _ else if _ then _ else if zAP _≠0 then zAP _ else zBO false v [zBD 1 b p])=(0:Int)
 rw[h3]
 rfl
theorem nob_E2(b p:Nat):zAC ⟨true,[]⟩ 0 0 3 [zBD 2 b p]=10:=rfl
theorem nob_E3(b p:Nat):zAC ⟨true,[]⟩ 0 0 4 [zBD 2 b p]=0:=by
 have h1:zB5 false [nobR,nobR]=0:=by
  show(if zAl nobB≠0 then zAl nobB else if nobB.ctl=true then 12 else if nobB.txn≠false then 8 else(if zAl nobB≠0 then zAl nobB else if nobB.ctl=true then 12 else if nobB.txn≠false then 8 else 0))=(0:Int)
  rw[zLQ];rfl
 have h2:zBz false 4 [zBS 2 b]=0:=by
  rw[zB4,show(zBS 2 b).l=[nobR,nobR]from rfl,h1,if_neg (by intro h;rcases h with h|⟨h,_⟩;exact absurd h dD;exact absurd h dD)];rfl
 have h3:zBO false 4 [zBD 2 b p]=0:=by
  show(if zBz false 4 [zBS 2 b]≠0 then zBz false 4 [zBS 2 b]else 0)=(0:Int)
  rw[h2];rfl
 show(if _ then _ else if _ then _ else if zAP _≠0 then zAP _ else zBO false 4 [zBD 2 b p])=(0:Int)
 rw[h3]
 rfl
theorem zO1(b p:Nat):(zCi true [] 0 0 [zBD 1 b p]).length=88:=by
 have h:(encB [nobR]).length=61:=by show(nobB.enc++[]).length=61;rw[List.append_nil];exact zRC
 have h1:(zAL (zBS 1 b)).length=69:=by
  show(zAd 0 4++(zAd _ 4++encB [nobR])).length=69
  rw[List.length_append,List.length_append,h,zAg,zAg]
 show(((((zAd _ 2++[])++zAd 0 2)++zAd 0 4)++zAd _ 4)++(((((zAd _ 2++[97])++zAd _ 4)++(zAL (zBS 1 b)++[])))++[])).length=88
 simp only[List.length_append,zAg,h1,List.length_nil,List.length_cons]
variable {W0 w:World}{K:Know}{L:List Res}
theorem zRZ(said rows:Bs)(base ln leader sm at_ last first maxt prod epoch sq:Int)(cnt:Nat)(x:Nat)(hx:(zAm 0#32 (said.drop 21++rows)).toNat=x)(hs1:21≤said.length)(hs2:said.length≤140737488355328)(hs3:rows.length≤140737488355328)(h0:(x:Int)≠sm)(h:St W0 w K L):
 Calls Tryz.prog 142 #[.agg #[.int .i64 base,.int .i64 ln,.int .i64 leader,.int .i64 sm,.int .i64 at_,.int .i64 last,.int .i64 first,.int .i64 maxt,.int .i64 prod,.int .i64 epoch,.int .i64 sq,.int .i64 cnt],.string (bb said),.string (bb rows)] w fun en w'=>en=.returned (.tuple #[.agg #[.int .i64 0,.int .i64 0,.bool false,.bool false,.bool false,.int .i64 0,.int .i64 0,.int .i64 0,.int .i64 0,.int .i64 0,.int .i64 0,.slice none 0 0],.int .i64 5])∧St W0 w' K L:=by
 have gz:((x:Int)==sm)=false:=by rw[beq_eq_false_iff_ne];exact h0
 have gz2:((x:Int) !=sm)=true:=by simp[bne,gz]
 clear h0;have g1:=h.allocRaw #[.int .i64 base,.int .i64 ln,.int .i64 leader,.int .i64 sm,.int .i64 at_,.int .i64 last,.int .i64 first,.int .i64 maxt,.int .i64 prod,.int .i64 epoch,.int .i64 sq,.int .i64 cnt] 154;have g2:=g1.allocRaw #[.int .i64 0,.int .i64 0,.bool false,.bool false,.bool false,.int .i64 0,.int .i64 0,.int .i64 0,.int .i64 0,.int .i64 0,.int .i64 0,.slice none 0 0] 58;obtain⟨pb,hpb⟩:∃b,w.heap.size=b:=⟨_,rfl⟩;obtain⟨rb,hrb⟩:∃b,pb+1=b:=⟨_,rfl⟩;simp only[World.size_alloc,hpb,hrb]at g2;have H:=hQd g2;have HX:=hQd hx;have HS1:=hQd hs1;have HS2:=hQd hs2;have HS3:=hQd hs3;clear h g1 g2 hx hs1 hs2 hs3;go_enter Tryz.func142,Tryz.ntmps142;go_upto_region 1 with (fail);have hs:=H.out.drew;refine wp_region_held_drew (S:=fun w'=>w'.cell? ⟨pb,0,none⟩=some (.int .i64 base)∧w'.cell? ⟨pb,1,none⟩=some (.int .i64 ln)∧w'.cell? ⟨pb,2,none⟩=some (.int .i64 leader)∧w'.cell? ⟨pb,3,none⟩=some (.int .i64 sm)∧w'.cell? ⟨pb,4,none⟩=some (.int .i64 at_)∧w'.cell? ⟨pb,5,none⟩=some (.int .i64 last)∧w'.cell? ⟨pb,6,none⟩=some (.int .i64 first)∧w'.cell? ⟨pb,7,none⟩=some (.int .i64 maxt)∧w'.cell? ⟨pb,8,none⟩=some (.int .i64 prod)∧w'.cell? ⟨pb,9,none⟩=some (.int .i64 epoch)∧w'.cell? ⟨pb,10,none⟩=some (.int .i64 sq)∧w'.cell? ⟨pb,11,none⟩=some (.int .i64 cnt)) (by kernel_rfl) (let ⟨x0,x1,x2,x3,x4,x5,x6,x7,x8,x9,x10,x11,_⟩:=zAe (b:=pb) (hs.p1);⟨x0,x1,x2,x3,x4,x5,x6,x7,x8,x9,x10,x11⟩) (fun hHeld=> ?_);refine tR 0 ?_;refine tR 1 ?_;refine tR 3 ?_;refine tR 4 ?_;refine wR [2] (rC rfl (fun KK hK=> ?_) rN);go_simp;go_at_call 92;with_reducible refine(zFp said rows x HX.out HS1.out HS2.out HS3.out hs).mono ?_;rintro e wq ⟨rfl,hs⟩;refine hK.out _ _ (let ⟨x0,x1,x2,x3,x4,x5,x6,x7,x8,x9,x10,x11,_⟩:=zAe (b:=pb) (hs.p1);⟨x0,x1,x2,x3,x4,x5,x6,x7,x8,x9,x10,x11⟩) (fun hHeld=> ?_);clear hK KK
 try simp only[Act.put,sA,sB,sC]
 refine tR 5 ?_;refine wpAnyH_done (by kernel_rfl) ?_ _;clear hHeld;have H:=hQd hs;clear hs;obtain⟨p0,p1,p2,p3,p4,p5,p6,p7,p8,p9,p10,p11,u0,u1,u2,u3,u4,u5,u6,u7,u8,u9,u10,u11⟩:=zAe (b:=rb) (H.out);obtain⟨x0,x1,x2,x3,x4,x5,x6,x7,x8,x9,x10,x11,y0,y1,y2,y3,y4,y5,y6,y7,y8,y9,y10,y11⟩:=zAe (b:=pb) ((H.out).p1);go_wp2_with fail;have hz:St W0 _ _ (.raw rb #[.int .i64 0,.int .i64 0,.bool false,.bool false,.bool false,.int .i64 0,.int .i64 0,.int .i64 0,.int .i64 0,.int .i64 0,.int .i64 0,.slice none 0 0] 58::_):=St.sets12 _ _ _ _ _ _ _ _ _ _ _ _ (H.out);refine bodyPost_ret (zCC rfl _ _ rb [.int .i64 0,.int .i64 0,.bool false,.bool false,.bool false,.int .i64 0,.int .i64 0,.int .i64 0,.int .i64 0,.int .i64 0,.int .i64 0,.slice none 0 0] _ rfl (zAE hz) Tryz.underlying58 rfl (by kernel_rfl)) rfl ?_;exact⟨rfl,hz.drop.drop⟩
theorem zQO(said rows:Bs)(base ln leader sm at_ last first maxt prod epoch sq:Int)(cnt:Nat)(x:Nat)(hx:(zAm 0#32 (said.drop 21++rows)).toNat=x)(hs1:21≤said.length)(hs2:said.length≤140737488355328)(hs3:rows.length≤140737488355328)(h0:(x:Int)=sm)(e:Int)(hat:chk at_=e)(har:R64 at_)(he:e≠0)(h:St W0 w K L):
 Calls Tryz.prog 142 #[.agg #[.int .i64 base,.int .i64 ln,.int .i64 leader,.int .i64 sm,.int .i64 at_,.int .i64 last,.int .i64 first,.int .i64 maxt,.int .i64 prod,.int .i64 epoch,.int .i64 sq,.int .i64 cnt],.string (bb said),.string (bb rows)] w fun en w'=>en=.returned (.tuple #[.agg #[.int .i64 0,.int .i64 0,.bool false,.bool false,.bool false,.int .i64 0,.int .i64 0,.int .i64 0,.int .i64 0,.int .i64 0,.int .i64 0,.slice none 0 0],.int .i64 e])∧St W0 w' K L:=by
 have gs:((x:Int)==sm)=true:=by rw[h0];exact beq_self_eq_true _
 have gs2:((x:Int) !=sm)=false:=by simp[bne,gs]
 clear h0;have gz:(e==0)=false:=by rw[beq_eq_false_iff_ne];exact he
 have HAT:=hQd hat;have HAR:=hQd har;clear he hat har;have g1:=h.allocRaw #[.int .i64 base,.int .i64 ln,.int .i64 leader,.int .i64 sm,.int .i64 at_,.int .i64 last,.int .i64 first,.int .i64 maxt,.int .i64 prod,.int .i64 epoch,.int .i64 sq,.int .i64 cnt] 154;have g2:=g1.allocRaw #[.int .i64 0,.int .i64 0,.bool false,.bool false,.bool false,.int .i64 0,.int .i64 0,.int .i64 0,.int .i64 0,.int .i64 0,.int .i64 0,.slice none 0 0] 58;obtain⟨pb,hpb⟩:∃b,w.heap.size=b:=⟨_,rfl⟩;obtain⟨rb,hrb⟩:∃b,pb+1=b:=⟨_,rfl⟩;simp only[World.size_alloc,hpb,hrb]at g2;have H:=hQd g2;have HX:=hQd hx;have HS1:=hQd hs1;have HS2:=hQd hs2;have HS3:=hQd hs3;clear h g1 g2 hx hs1 hs2 hs3;go_enter Tryz.func142,Tryz.ntmps142;go_upto_region 1 with (fail);have hs:=H.out.drew;refine wp_region_held_drew (S:=fun w'=>w'.cell? ⟨pb,0,none⟩=some (.int .i64 base)∧w'.cell? ⟨pb,1,none⟩=some (.int .i64 ln)∧w'.cell? ⟨pb,2,none⟩=some (.int .i64 leader)∧w'.cell? ⟨pb,3,none⟩=some (.int .i64 sm)∧w'.cell? ⟨pb,4,none⟩=some (.int .i64 at_)∧w'.cell? ⟨pb,5,none⟩=some (.int .i64 last)∧w'.cell? ⟨pb,6,none⟩=some (.int .i64 first)∧w'.cell? ⟨pb,7,none⟩=some (.int .i64 maxt)∧w'.cell? ⟨pb,8,none⟩=some (.int .i64 prod)∧w'.cell? ⟨pb,9,none⟩=some (.int .i64 epoch)∧w'.cell? ⟨pb,10,none⟩=some (.int .i64 sq)∧w'.cell? ⟨pb,11,none⟩=some (.int .i64 cnt)) (by kernel_rfl) (let ⟨x0,x1,x2,x3,x4,x5,x6,x7,x8,x9,x10,x11,_⟩:=zAe (b:=pb) (hs.p1);⟨x0,x1,x2,x3,x4,x5,x6,x7,x8,x9,x10,x11⟩) (fun hHeld=> ?_);refine tR 0 ?_;refine tR 1 ?_;refine tR 3 ?_;refine tR 4 ?_;refine wR [2] (rC rfl (fun KK hK=> ?_) rN);go_simp;go_at_call 92;with_reducible refine(zFp said rows x HX.out HS1.out HS2.out HS3.out hs).mono ?_;rintro e wq ⟨rfl,hs⟩;refine hK.out _ _ (let ⟨x0,x1,x2,x3,x4,x5,x6,x7,x8,x9,x10,x11,_⟩:=zAe (b:=pb) (hs.p1);⟨x0,x1,x2,x3,x4,x5,x6,x7,x8,x9,x10,x11⟩) (fun hHeld=> ?_);clear hK KK
 try simp only[Act.put,sA,sB,sC]
 refine tR 5 ?_;refine wpAnyH_done (by kernel_rfl) ?_ _;clear hHeld;have H:=hQd hs;clear hs;obtain⟨p0,p1,p2,p3,p4,p5,p6,p7,p8,p9,p10,p11,u0,u1,u2,u3,u4,u5,u6,u7,u8,u9,u10,u11⟩:=zAe (b:=rb) (H.out);obtain⟨x0,x1,x2,x3,x4,x5,x6,x7,x8,x9,x10,x11,y0,y1,y2,y3,y4,y5,y6,y7,y8,y9,y10,y11⟩:=zAe (b:=pb) ((H.out).p1);go_wp2_with (go_at_call 165;(with_reducible refine(zDn at_ e HAT.out HAR.out H.out).zM ?_);clear H;intro wn H;obtain⟨p0,p1,p2,p3,p4,p5,p6,p7,p8,p9,p10,p11,u0,u1,u2,u3,u4,u5,u6,u7,u8,u9,u10,u11⟩:=zAe (b:=rb) (H.out);obtain⟨x0,x1,x2,x3,x4,x5,x6,x7,x8,x9,x10,x11,y0,y1,y2,y3,y4,y5,y6,y7,y8,y9,y10,y11⟩:=zAe (b:=pb) ((H.out).p1));have hz:St W0 _ _ (.raw rb #[.int .i64 0,.int .i64 0,.bool false,.bool false,.bool false,.int .i64 0,.int .i64 0,.int .i64 0,.int .i64 0,.int .i64 0,.int .i64 0,.slice none 0 0] 58::_):=St.sets12 _ _ _ _ _ _ _ _ _ _ _ _ (H.out);refine bodyPost_ret (zCC rfl _ _ rb [.int .i64 0,.int .i64 0,.bool false,.bool false,.bool false,.int .i64 0,.int .i64 0,.int .i64 0,.int .i64 0,.int .i64 0,.int .i64 0,.slice none 0 0] _ rfl (zAE hz) Tryz.underlying58 rfl (by kernel_rfl)) rfl ?_;exact⟨rfl,hz.drop.drop⟩
theorem zQM(said rows:Bs)(base ln leader sm at_ last first maxt prod epoch sq:Int)(cnt:Nat)(x:Nat)(hx:(zAm 0#32 (said.drop 21++rows)).toNat=x)(hs1:21≤said.length)(hs2:said.length≤140737488355328)(hs3:rows.length≤140737488355328)(h0:(x:Int)=sm)(hat:chk at_=0)(har:R64 at_)(hcn:cnt≤2147483647)(e:Int)(hu:unp cnt ⟨rows,0,0⟩=.error e)(he:e≠0)(h:St W0 w K L):
 Calls Tryz.prog 142 #[.agg #[.int .i64 base,.int .i64 ln,.int .i64 leader,.int .i64 sm,.int .i64 at_,.int .i64 last,.int .i64 first,.int .i64 maxt,.int .i64 prod,.int .i64 epoch,.int .i64 sq,.int .i64 cnt],.string (bb said),.string (bb rows)] w fun en w'=>en=.returned (.tuple #[.agg #[.int .i64 0,.int .i64 0,.bool false,.bool false,.bool false,.int .i64 0,.int .i64 0,.int .i64 0,.int .i64 0,.int .i64 0,.int .i64 0,.slice none 0 0],.int .i64 e])∧St W0 w' K L:=by
 have gs:((x:Int)==sm)=true:=by rw[h0];exact beq_self_eq_true _
 have gs2:((x:Int) !=sm)=false:=by simp[bne,gs]
 clear h0;have gz:(e==0)=false:=by rw[beq_eq_false_iff_ne];exact he
 have HAT:=hQd hat;have HAR:=hQd har;have HCN:=hQd hcn;have HU:=hQd hu;have HEZ:=hQd he;clear he hat har hcn hu;have g1:=h.allocRaw #[.int .i64 base,.int .i64 ln,.int .i64 leader,.int .i64 sm,.int .i64 at_,.int .i64 last,.int .i64 first,.int .i64 maxt,.int .i64 prod,.int .i64 epoch,.int .i64 sq,.int .i64 cnt] 154;have g2:=g1.allocRaw #[.int .i64 0,.int .i64 0,.bool false,.bool false,.bool false,.int .i64 0,.int .i64 0,.int .i64 0,.int .i64 0,.int .i64 0,.int .i64 0,.slice none 0 0] 58;obtain⟨pb,hpb⟩:∃b,w.heap.size=b:=⟨_,rfl⟩;obtain⟨rb,hrb⟩:∃b,pb+1=b:=⟨_,rfl⟩;simp only[World.size_alloc,hpb,hrb]at g2;have H:=hQd g2;have HX:=hQd hx;have HS1:=hQd hs1;have HS2:=hQd hs2;have HS3:=hQd hs3;clear h g1 g2 hx hs1 hs2 hs3;go_enter Tryz.func142,Tryz.ntmps142;go_upto_region 1 with (fail);have hs:=H.out.drew;refine wp_region_held_drew (S:=fun w'=>w'.cell? ⟨pb,0,none⟩=some (.int .i64 base)∧w'.cell? ⟨pb,1,none⟩=some (.int .i64 ln)∧w'.cell? ⟨pb,2,none⟩=some (.int .i64 leader)∧w'.cell? ⟨pb,3,none⟩=some (.int .i64 sm)∧w'.cell? ⟨pb,4,none⟩=some (.int .i64 at_)∧w'.cell? ⟨pb,5,none⟩=some (.int .i64 last)∧w'.cell? ⟨pb,6,none⟩=some (.int .i64 first)∧w'.cell? ⟨pb,7,none⟩=some (.int .i64 maxt)∧w'.cell? ⟨pb,8,none⟩=some (.int .i64 prod)∧w'.cell? ⟨pb,9,none⟩=some (.int .i64 epoch)∧w'.cell? ⟨pb,10,none⟩=some (.int .i64 sq)∧w'.cell? ⟨pb,11,none⟩=some (.int .i64 cnt)) (by kernel_rfl) (let ⟨x0,x1,x2,x3,x4,x5,x6,x7,x8,x9,x10,x11,_⟩:=zAe (b:=pb) (hs.p1);⟨x0,x1,x2,x3,x4,x5,x6,x7,x8,x9,x10,x11⟩) (fun hHeld=> ?_);refine tR 0 ?_;refine tR 1 ?_;refine tR 3 ?_;refine tR 4 ?_;refine wR [2] (rC rfl (fun KK hK=> ?_) rN);go_simp;go_at_call 92;with_reducible refine(zFp said rows x HX.out HS1.out HS2.out HS3.out hs).mono ?_;rintro e wq ⟨rfl,hs⟩;refine hK.out _ _ (let ⟨x0,x1,x2,x3,x4,x5,x6,x7,x8,x9,x10,x11,_⟩:=zAe (b:=pb) (hs.p1);⟨x0,x1,x2,x3,x4,x5,x6,x7,x8,x9,x10,x11⟩) (fun hHeld=> ?_);clear hK KK
 try simp only[Act.put,sA,sB,sC]
 refine tR 5 ?_;refine wpAnyH_done (by kernel_rfl) ?_ _;clear hHeld;have H:=hQd hs;clear hs;obtain⟨p0,p1,p2,p3,p4,p5,p6,p7,p8,p9,p10,p11,u0,u1,u2,u3,u4,u5,u6,u7,u8,u9,u10,u11⟩:=zAe (b:=rb) (H.out);obtain⟨x0,x1,x2,x3,x4,x5,x6,x7,x8,x9,x10,x11,y0,y1,y2,y3,y4,y5,y6,y7,y8,y9,y10,y11⟩:=zAe (b:=pb) ((H.out).p1)
 go_wp2_with (first
 |(go_at_call 165;(with_reducible refine(zDn at_ 0 HAT.out HAR.out H.out).zM ?_);clear H;intro wn H;obtain⟨p0,p1,p2,p3,p4,p5,p6,p7,p8,p9,p10,p11,u0,u1,u2,u3,u4,u5,u6,u7,u8,u9,u10,u11⟩:=zAe (b:=rb) (H.out);obtain⟨x0,x1,x2,x3,x4,x5,x6,x7,x8,x9,x10,x11,y0,y1,y2,y3,y4,y5,y6,y7,y8,y9,y10,y11⟩:=zAe (b:=pb) ((H.out).p1))
 |(go_at_call 166;(with_reducible refine(zHH rows cnt HCN.out HS3.out e HEZ.out HU.out H.out).zM ?_);clear H;intro wn H;obtain⟨p0,p1,p2,p3,p4,p5,p6,p7,p8,p9,p10,p11,u0,u1,u2,u3,u4,u5,u6,u7,u8,u9,u10,u11⟩:=zAe (b:=rb) (H.out);obtain⟨x0,x1,x2,x3,x4,x5,x6,x7,x8,x9,x10,x11,y0,y1,y2,y3,y4,y5,y6,y7,y8,y9,y10,y11⟩:=zAe (b:=pb) ((H.out).p1)))
 have hz:St W0 _ _ (.raw rb #[.int .i64 0,.int .i64 0,.bool false,.bool false,.bool false,.int .i64 0,.int .i64 0,.int .i64 0,.int .i64 0,.int .i64 0,.int .i64 0,.slice none 0 0] 58::_):=St.sets12 _ _ _ _ _ _ _ _ _ _ _ _ (H.out);refine bodyPost_ret (zCC rfl _ _ rb [.int .i64 0,.int .i64 0,.bool false,.bool false,.bool false,.int .i64 0,.int .i64 0,.int .i64 0,.int .i64 0,.int .i64 0,.int .i64 0,.slice none 0 0] _ rfl (zAE hz) Tryz.underlying58 rfl (by kernel_rfl)) rfl ?_;exact⟨rfl,hz.drop.drop⟩
variable {W0 w:World}{K:Know}{L:List Res}
theorem asm_ok(said rows:Bs)(base ln leader sm at_ last first maxt prod epoch sq:Int)(cnt:Nat)(x:Nat)(hx:(zAm 0#32 (said.drop 21++rows)).toNat=x)(hs1:21≤said.length)(hs2:said.length≤140737488355328)(hs3:rows.length≤140737488355328)(h0:(x:Int)=sm)(hat:chk at_=0)(har:R64 at_)(hcn:cnt≤2147483647)(hr1:rows.length≤1000000)(hmx:first≤9223372036854775807)(rs:List RecS)(hu:unp cnt ⟨rows,0,0⟩=.ok rs)(hbe:zAl (⟨base,leader,zAf at_ 3,zAf at_ 4,zAf at_ 5,last,first,maxt,prod,epoch,sq,rs⟩:BatS)=0)(h:St W0 w K L):
 Calls Tryz.prog 142 #[.agg #[.int .i64 base,.int .i64 ln,.int .i64 leader,.int .i64 sm,.int .i64 at_,.int .i64 last,.int .i64 first,.int .i64 maxt,.int .i64 prod,.int .i64 epoch,.int .i64 sq,.int .i64 cnt],.string (bb said),.string (bb rows)] w fun en w'=>∃(q:Option Addr) (l:List (RecS×Value)) (cap:Nat),en=.returned (.tuple #[.agg #[.int .i64 base,.int .i64 leader,.bool (zAf at_ 3),.bool (zAf at_ 4),.bool (zAf at_ 5),.int .i64 last,.int .i64 first,.int .i64 maxt,.int .i64 prod,.int .i64 epoch,.int .i64 sq,.slice q l.length cap],.int .i64 0])∧l.map (·.1)=rs∧St W0 w' (K.and (Know.recs (.slice q l.length cap) l)) L:=by
 have gs:((x:Int)==sm)=true:=by rw[h0];exact beq_self_eq_true _
 have gs2:((x:Int) !=sm)=false:=by simp[bne,gs]
 clear h0;have HAT:=hQd hat;have HAR:=hQd har;have HCN:=hQd hcn;have HU:=hQd hu;have HR1:=hQd hr1;have HMX:=hQd hmx;have HB0:=hQd hbe;clear hat har hcn hu hr1 hmx hbe;have g1:=h.allocRaw #[.int .i64 base,.int .i64 ln,.int .i64 leader,.int .i64 sm,.int .i64 at_,.int .i64 last,.int .i64 first,.int .i64 maxt,.int .i64 prod,.int .i64 epoch,.int .i64 sq,.int .i64 cnt] 154;have g2:=g1.allocRaw #[.int .i64 0,.int .i64 0,.bool false,.bool false,.bool false,.int .i64 0,.int .i64 0,.int .i64 0,.int .i64 0,.int .i64 0,.int .i64 0,.slice none 0 0] 58;obtain⟨pb,hpb⟩:∃b,w.heap.size=b:=⟨_,rfl⟩;obtain⟨rb,hrb⟩:∃b,pb+1=b:=⟨_,rfl⟩;simp only[World.size_alloc,hpb,hrb]at g2;have H:=hQd g2;have HX:=hQd hx;have HS1:=hQd hs1;have HS2:=hQd hs2;have HS3:=hQd hs3;clear h g1 g2 hx hs1 hs2 hs3;go_enter Tryz.func142,Tryz.ntmps142;go_upto_region 1 with (fail);have hs:=H.out.drew;refine wp_region_held_drew (S:=fun w'=>w'.cell? ⟨pb,0,none⟩=some (.int .i64 base)∧w'.cell? ⟨pb,1,none⟩=some (.int .i64 ln)∧w'.cell? ⟨pb,2,none⟩=some (.int .i64 leader)∧w'.cell? ⟨pb,3,none⟩=some (.int .i64 sm)∧w'.cell? ⟨pb,4,none⟩=some (.int .i64 at_)∧w'.cell? ⟨pb,5,none⟩=some (.int .i64 last)∧w'.cell? ⟨pb,6,none⟩=some (.int .i64 first)∧w'.cell? ⟨pb,7,none⟩=some (.int .i64 maxt)∧w'.cell? ⟨pb,8,none⟩=some (.int .i64 prod)∧w'.cell? ⟨pb,9,none⟩=some (.int .i64 epoch)∧w'.cell? ⟨pb,10,none⟩=some (.int .i64 sq)∧w'.cell? ⟨pb,11,none⟩=some (.int .i64 cnt)) (by kernel_rfl) (let ⟨x0,x1,x2,x3,x4,x5,x6,x7,x8,x9,x10,x11,_⟩:=zAe (b:=pb) (hs.p1);⟨x0,x1,x2,x3,x4,x5,x6,x7,x8,x9,x10,x11⟩) (fun hHeld=> ?_);refine tR 0 ?_;refine tR 1 ?_;refine tR 3 ?_;refine tR 4 ?_;refine wR [2] (rC rfl (fun KK hK=> ?_) rN);go_simp;go_at_call 92;with_reducible refine(zFp said rows x HX.out HS1.out HS2.out HS3.out hs).mono ?_;rintro e wq ⟨rfl,hs⟩;refine hK.out _ _ (let ⟨x0,x1,x2,x3,x4,x5,x6,x7,x8,x9,x10,x11,_⟩:=zAe (b:=pb) (hs.p1);⟨x0,x1,x2,x3,x4,x5,x6,x7,x8,x9,x10,x11⟩) (fun hHeld=> ?_);clear hK KK
 try simp only[Act.put,sA,sB,sC]
 refine tR 5 ?_;refine wpAnyH_done (by kernel_rfl) ?_ _;clear hHeld;have H:=hQd hs;clear hs;obtain⟨p0,p1,p2,p3,p4,p5,p6,p7,p8,p9,p10,p11,u0,u1,u2,u3,u4,u5,u6,u7,u8,u9,u10,u11⟩:=zAe (b:=rb) (H.out);obtain⟨x0,x1,x2,x3,x4,x5,x6,x7,x8,x9,x10,x11,y0,y1,y2,y3,y4,y5,y6,y7,y8,y9,y10,y11⟩:=zAe (b:=pb) ((H.out).p1)
 go_upto_region 11 with (first
 |(go_at_call 165;(with_reducible refine(zDn at_ 0 HAT.out HAR.out H.out).zM ?_);clear H;intro wn H;obtain⟨p0,p1,p2,p3,p4,p5,p6,p7,p8,p9,p10,p11,u0,u1,u2,u3,u4,u5,u6,u7,u8,u9,u10,u11⟩:=zAe (b:=rb) (H.out);obtain⟨x0,x1,x2,x3,x4,x5,x6,x7,x8,x9,x10,x11,y0,y1,y2,y3,y4,y5,y6,y7,y8,y9,y10,y11⟩:=zAe (b:=pb) ((H.out).p1))
 |(go_at_call 166;(with_reducible refine(zEM rows cnt HCN.out HS3.out rs HU.out H.out).mono ?_);rintro e_ wn ⟨rv,l,rfl,hlr,h⟩;obtain⟨q,cap,hrv⟩:=zJ1 (Know.has_right (Know.has_refl _)) h;subst hrv;obtain⟨hff,hfl⟩:=zEe HU.out hlr HR1.out;have HFT:=hQd hff;have HLL:=hQd hfl;have HLR:=hQd hlr;clear hff hfl hlr;obtain⟨p0,p1,p2,p3,p4,p5,p6,p7,p8,p9,p10,p11,u0,u1,u2,u3,u4,u5,u6,u7,u8,u9,u10,u11⟩:=zAe (b:=rb) (h);obtain⟨x0,x1,x2,x3,x4,x5,x6,x7,x8,x9,x10,x11,y0,y1,y2,y3,y4,y5,y6,y7,y8,y9,y10,y11⟩:=zAe (b:=pb) ((h).p1);have h:=h.allocRaw #[.int .i64 base,.int .i64 leader,.bool false,.bool false,.bool false,.int .i64 last,.int .i64 first,.int .i64 maxt,.int .i64 prod,.int .i64 epoch,.int .i64 sq,.slice q l.length cap] 58;obtain⟨bB,hbB⟩:∃b,wn.heap.size=b:=⟨_,rfl⟩;rw[hbB]at h;obtain⟨x0,x1,x2,x3,x4,x5,x6,x7,x8,x9,x10,x11,y0,y1,y2,y3,y4,y5,y6,y7,y8,y9,y10,y11⟩:=zAe (b:=pb) (h.p2);obtain⟨a0,a1,a2,a3,a4,a5,a6,a7,a8,a9,a10,a11,f0,f1,f2,f3,f4,f5,f6,f7,f8,f9,f10,f11⟩:=zAe (b:=bB) (h);replace H:=hQd h;clear h)
 |(go_at_call 167;(with_reducible refine(zIf at_ H.out).mono ?_);rintro e_ wn ⟨rfl,h⟩;obtain⟨a0,a1,a2,a3,a4,a5,a6,a7,a8,a9,a10,a11,f0,f1,f2,f3,f4,f5,f6,f7,f8,f9,f10,f11⟩:=zAe (b:=bB) (h);replace H:=hQd h;clear h))
 have HBE:=hQd (show zAl ⟨base,leader,zAf at_ 3,zAf at_ 4,zAf at_ 5,last,first,maxt,prod,epoch,sq,l.map (·.1)⟩=0 by rw[HLR.out];exact HB0.out);have hs:St W0 _ _ (.raw bB #[.int .i64 base,.int .i64 leader,.bool (zAf at_ 3),.bool (zAf at_ 4),.bool (zAf at_ 5),.int .i64 last,.int .i64 first,.int .i64 maxt,.int .i64 prod,.int .i64 epoch,.int .i64 sq,.slice q l.length cap] 58::_):=((H.out.rawSet 2 (.bool (zAf at_ 3))).rawSet 3 (.bool (zAf at_ 4))).rawSet 4 (.bool (zAf at_ 5));have hs:=hs.drew;clear x0 y0 a0 f0 x1 y1 a1 f1 x2 y2 a2 f2 x3 y3 a3 f3 x4 y4 a4 f4 x5 y5 a5 f5 x6 y6 a6 f6 x7 y7 a7 f7 x8 y8 a8 f8 x9 y9 a9 f9 x10 y10 a10 f10 x11 y11 a11 f11;refine wp_region_held_drew (S:=fun w'=>w'.cell? ⟨bB,0,none⟩=some (.int .i64 base)∧w'.cell? ⟨bB,1,none⟩=some (.int .i64 leader)∧w'.cell? ⟨bB,2,none⟩=some (.bool (zAf at_ 3))∧w'.cell? ⟨bB,3,none⟩=some (.bool (zAf at_ 4))∧w'.cell? ⟨bB,4,none⟩=some (.bool (zAf at_ 5))∧w'.cell? ⟨bB,5,none⟩=some (.int .i64 last)∧w'.cell? ⟨bB,6,none⟩=some (.int .i64 first)∧w'.cell? ⟨bB,7,none⟩=some (.int .i64 maxt)∧w'.cell? ⟨bB,8,none⟩=some (.int .i64 prod)∧w'.cell? ⟨bB,9,none⟩=some (.int .i64 epoch)∧w'.cell? ⟨bB,10,none⟩=some (.int .i64 sq)∧w'.cell? ⟨bB,11,none⟩=some (.slice q l.length cap)) (by kernel_rfl) (let ⟨x0,x1,x2,x3,x4,x5,x6,x7,x8,x9,x10,x11,_⟩:=zAe (b:=bB) (hs);⟨x0,x1,x2,x3,x4,x5,x6,x7,x8,x9,x10,x11⟩) (fun hHeld=> ?_);refine tR 0 ?_;refine tR 1 ?_;refine wR [2] (rC rfl (fun KK hK=> ?_) rN);go_simp;go_at_call 88;with_reducible refine(zBG base leader (zAf at_ 3) (zAf at_ 4) (zAf at_ 5) last first maxt prod epoch sq l q cap 0 HBE.out HMX.out HFT.out HLL.out (Know.has_right (Know.has_refl _)) hs).mono ?_;rintro e wq ⟨rfl,hs⟩;refine hK.out _ _ (let ⟨x0,x1,x2,x3,x4,x5,x6,x7,x8,x9,x10,x11,_⟩:=zAe (b:=bB) (hs);⟨x0,x1,x2,x3,x4,x5,x6,x7,x8,x9,x10,x11⟩) (fun hHeld=> ?_);clear hK KK
 try simp only[Act.put,sA,sB,sC]
 refine wR [3] (rC rfl (fun KK hK=> ?_) rN);have hs:=hs.p1;rw[if_pos (by rfl)];refine wp_store_mid 58 (.tmp 6) (.tmp 65) rfl rb 0 #[.int .i64 base,.int .i64 leader,.bool (zAf at_ 3),.bool (zAf at_ 4),.bool (zAf at_ 5),.int .i64 last,.int .i64 first,.int .i64 maxt,.int .i64 prod,.int .i64 epoch,.int .i64 sq,.slice q l.length cap] (by rfl) (by rfl) hs.there (by kernel_rfl) (by simp[Value.oneCell']) ?_;obtain⟨wz,ez,hs⟩:=hs.storeEx #[.int .i64 base,.int .i64 leader,.bool (zAf at_ 3),.bool (zAf at_ 4),.bool (zAf at_ 5),.int .i64 last,.int .i64 first,.int .i64 maxt,.int .i64 prod,.int .i64 epoch,.int .i64 sq,.slice q l.length cap];rw[ez];clear ez;refine hK.out _ _ (let ⟨x0,x1,x2,x3,x4,x5,x6,x7,x8,x9,x10,x11,_⟩:=zAe (b:=bB) (hs.p1);⟨x0,x1,x2,x3,x4,x5,x6,x7,x8,x9,x10,x11⟩) (fun hHeld=> ?_);clear hK KK
 try simp only[Act.put,sA,sB,sC]
 refine tR 4 ?_;refine wpAnyH_done (by kernel_rfl) ?_ _;clear hHeld;rw[zBs]at hs;rotate_left
 ·rfl
 have hz:St W0 _ _ (.raw rb #[.int .i64 base,.int .i64 leader,.bool (zAf at_ 3),.bool (zAf at_ 4),.bool (zAf at_ 5),.int .i64 last,.int .i64 first,.int .i64 maxt,.int .i64 prod,.int .i64 epoch,.int .i64 sq,.slice q l.length cap] 58::_):=hs;go_wp2_with fail;refine bodyPost_ret (zCC rfl _ _ rb [.int .i64 base,.int .i64 leader,.bool (zAf at_ 3),.bool (zAf at_ 4),.bool (zAf at_ 5),.int .i64 last,.int .i64 first,.int .i64 maxt,.int .i64 prod,.int .i64 epoch,.int .i64 sq,.slice q l.length cap] _ rfl (zAE hz) Tryz.underlying58 rfl (by kernel_rfl)) rfl ?_;exact⟨q,l,cap,rfl,HLR.out,hz.drop.drop.drop⟩
theorem zR1(said rows:Bs)(base ln leader sm at_ last first maxt prod epoch sq:Int)(cnt:Nat)(x:Nat)(hx:(zAm 0#32 (said.drop 21++rows)).toNat=x)(hs1:21≤said.length)(hs2:said.length≤140737488355328)(hs3:rows.length≤140737488355328)(h0:(x:Int)=sm)(hat:chk at_=0)(har:R64 at_)(hcn:cnt≤2147483647)(hr1:rows.length≤1000000)(hmx:first≤9223372036854775807)(rs:List RecS)(hu:unp cnt ⟨rows,0,0⟩=.ok rs)(e:Int)(hbe:zAl (⟨base,leader,zAf at_ 3,zAf at_ 4,zAf at_ 5,last,first,maxt,prod,epoch,sq,rs⟩:BatS)=e)(h:St W0 w K L):
 Calls Tryz.prog 142 #[.agg #[.int .i64 base,.int .i64 ln,.int .i64 leader,.int .i64 sm,.int .i64 at_,.int .i64 last,.int .i64 first,.int .i64 maxt,.int .i64 prod,.int .i64 epoch,.int .i64 sq,.int .i64 cnt],.string (bb said),.string (bb rows)] w fun en w'=>∃(l:List (RecS×Value)) (q:Option Addr) (cap:Nat),en=.returned (.tuple #[.agg #[.int .i64 base,.int .i64 leader,.bool (zAf at_ 3),.bool (zAf at_ 4),.bool (zAf at_ 5),.int .i64 last,.int .i64 first,.int .i64 maxt,.int .i64 prod,.int .i64 epoch,.int .i64 sq,.slice q l.length cap],.int .i64 e])∧St W0 w' K L:=by
 have gs:((x:Int)==sm)=true:=by rw[h0];exact beq_self_eq_true _
 have gs2:((x:Int) !=sm)=false:=by simp[bne,gs]
 clear h0;have HAT:=hQd hat;have HAR:=hQd har;have HCN:=hQd hcn;have HU:=hQd hu;have HR1:=hQd hr1;have HMX:=hQd hmx;have HB0:=hQd hbe;clear hat har hcn hu hr1 hmx hbe;have g1:=h.allocRaw #[.int .i64 base,.int .i64 ln,.int .i64 leader,.int .i64 sm,.int .i64 at_,.int .i64 last,.int .i64 first,.int .i64 maxt,.int .i64 prod,.int .i64 epoch,.int .i64 sq,.int .i64 cnt] 154;have g2:=g1.allocRaw #[.int .i64 0,.int .i64 0,.bool false,.bool false,.bool false,.int .i64 0,.int .i64 0,.int .i64 0,.int .i64 0,.int .i64 0,.int .i64 0,.slice none 0 0] 58;obtain⟨pb,hpb⟩:∃b,w.heap.size=b:=⟨_,rfl⟩;obtain⟨rb,hrb⟩:∃b,pb+1=b:=⟨_,rfl⟩;simp only[World.size_alloc,hpb,hrb]at g2;have H:=hQd g2;have HX:=hQd hx;have HS1:=hQd hs1;have HS2:=hQd hs2;have HS3:=hQd hs3;clear h g1 g2 hx hs1 hs2 hs3;go_enter Tryz.func142,Tryz.ntmps142;go_upto_region 1 with (fail);have hs:=H.out.drew;refine wp_region_held_drew (S:=fun w'=>w'.cell? ⟨pb,0,none⟩=some (.int .i64 base)∧w'.cell? ⟨pb,1,none⟩=some (.int .i64 ln)∧w'.cell? ⟨pb,2,none⟩=some (.int .i64 leader)∧w'.cell? ⟨pb,3,none⟩=some (.int .i64 sm)∧w'.cell? ⟨pb,4,none⟩=some (.int .i64 at_)∧w'.cell? ⟨pb,5,none⟩=some (.int .i64 last)∧w'.cell? ⟨pb,6,none⟩=some (.int .i64 first)∧w'.cell? ⟨pb,7,none⟩=some (.int .i64 maxt)∧w'.cell? ⟨pb,8,none⟩=some (.int .i64 prod)∧w'.cell? ⟨pb,9,none⟩=some (.int .i64 epoch)∧w'.cell? ⟨pb,10,none⟩=some (.int .i64 sq)∧w'.cell? ⟨pb,11,none⟩=some (.int .i64 cnt)) (by kernel_rfl) (let ⟨x0,x1,x2,x3,x4,x5,x6,x7,x8,x9,x10,x11,_⟩:=zAe (b:=pb) (hs.p1);⟨x0,x1,x2,x3,x4,x5,x6,x7,x8,x9,x10,x11⟩) (fun hHeld=> ?_);refine tR 0 ?_;refine tR 1 ?_;refine tR 3 ?_;refine tR 4 ?_;refine wR [2] (rC rfl (fun KK hK=> ?_) rN);go_simp;go_at_call 92;with_reducible refine(zFp said rows x HX.out HS1.out HS2.out HS3.out hs).mono ?_;rintro e wq ⟨rfl,hs⟩;refine hK.out _ _ (let ⟨x0,x1,x2,x3,x4,x5,x6,x7,x8,x9,x10,x11,_⟩:=zAe (b:=pb) (hs.p1);⟨x0,x1,x2,x3,x4,x5,x6,x7,x8,x9,x10,x11⟩) (fun hHeld=> ?_);clear hK KK
 try simp only[Act.put,sA,sB,sC]
 refine tR 5 ?_;refine wpAnyH_done (by kernel_rfl) ?_ _;clear hHeld;have H:=hQd hs;clear hs;obtain⟨p0,p1,p2,p3,p4,p5,p6,p7,p8,p9,p10,p11,u0,u1,u2,u3,u4,u5,u6,u7,u8,u9,u10,u11⟩:=zAe (b:=rb) (H.out);obtain⟨x0,x1,x2,x3,x4,x5,x6,x7,x8,x9,x10,x11,y0,y1,y2,y3,y4,y5,y6,y7,y8,y9,y10,y11⟩:=zAe (b:=pb) ((H.out).p1)
 go_upto_region 11 with (first
 |(go_at_call 165;(with_reducible refine(zDn at_ 0 HAT.out HAR.out H.out).zM ?_);clear H;intro wn H;obtain⟨p0,p1,p2,p3,p4,p5,p6,p7,p8,p9,p10,p11,u0,u1,u2,u3,u4,u5,u6,u7,u8,u9,u10,u11⟩:=zAe (b:=rb) (H.out);obtain⟨x0,x1,x2,x3,x4,x5,x6,x7,x8,x9,x10,x11,y0,y1,y2,y3,y4,y5,y6,y7,y8,y9,y10,y11⟩:=zAe (b:=pb) ((H.out).p1))
 |(go_at_call 166;(with_reducible refine(zEM rows cnt HCN.out HS3.out rs HU.out H.out).mono ?_);rintro e_ wn ⟨rv,l,rfl,hlr,h⟩;obtain⟨q,cap,hrv⟩:=zJ1 (Know.has_right (Know.has_refl _)) h;subst hrv;obtain⟨hff,hfl⟩:=zEe HU.out hlr HR1.out;have HFT:=hQd hff;have HLL:=hQd hfl;have HLR:=hQd hlr;clear hff hfl hlr;obtain⟨p0,p1,p2,p3,p4,p5,p6,p7,p8,p9,p10,p11,u0,u1,u2,u3,u4,u5,u6,u7,u8,u9,u10,u11⟩:=zAe (b:=rb) (h);obtain⟨x0,x1,x2,x3,x4,x5,x6,x7,x8,x9,x10,x11,y0,y1,y2,y3,y4,y5,y6,y7,y8,y9,y10,y11⟩:=zAe (b:=pb) ((h).p1);have h:=h.allocRaw #[.int .i64 base,.int .i64 leader,.bool false,.bool false,.bool false,.int .i64 last,.int .i64 first,.int .i64 maxt,.int .i64 prod,.int .i64 epoch,.int .i64 sq,.slice q l.length cap] 58;obtain⟨bB,hbB⟩:∃b,wn.heap.size=b:=⟨_,rfl⟩;rw[hbB]at h;obtain⟨x0,x1,x2,x3,x4,x5,x6,x7,x8,x9,x10,x11,y0,y1,y2,y3,y4,y5,y6,y7,y8,y9,y10,y11⟩:=zAe (b:=pb) (h.p2);obtain⟨a0,a1,a2,a3,a4,a5,a6,a7,a8,a9,a10,a11,f0,f1,f2,f3,f4,f5,f6,f7,f8,f9,f10,f11⟩:=zAe (b:=bB) (h);replace H:=hQd h;clear h)
 |(go_at_call 167;(with_reducible refine(zIf at_ H.out).mono ?_);rintro e_ wn ⟨rfl,h⟩;obtain⟨a0,a1,a2,a3,a4,a5,a6,a7,a8,a9,a10,a11,f0,f1,f2,f3,f4,f5,f6,f7,f8,f9,f10,f11⟩:=zAe (b:=bB) (h);replace H:=hQd h;clear h))
 have HBE:=hQd (show zAl ⟨base,leader,zAf at_ 3,zAf at_ 4,zAf at_ 5,last,first,maxt,prod,epoch,sq,l.map (·.1)⟩=e by rw[HLR.out];exact HB0.out);have hs:St W0 _ _ (.raw bB #[.int .i64 base,.int .i64 leader,.bool (zAf at_ 3),.bool (zAf at_ 4),.bool (zAf at_ 5),.int .i64 last,.int .i64 first,.int .i64 maxt,.int .i64 prod,.int .i64 epoch,.int .i64 sq,.slice q l.length cap] 58::_):=((H.out.rawSet 2 (.bool (zAf at_ 3))).rawSet 3 (.bool (zAf at_ 4))).rawSet 4 (.bool (zAf at_ 5));have hs:=hs.drew;clear x0 y0 a0 f0 x1 y1 a1 f1 x2 y2 a2 f2 x3 y3 a3 f3 x4 y4 a4 f4 x5 y5 a5 f5 x6 y6 a6 f6 x7 y7 a7 f7 x8 y8 a8 f8 x9 y9 a9 f9 x10 y10 a10 f10 x11 y11 a11 f11;refine wp_region_held_drew (S:=fun w'=>w'.cell? ⟨bB,0,none⟩=some (.int .i64 base)∧w'.cell? ⟨bB,1,none⟩=some (.int .i64 leader)∧w'.cell? ⟨bB,2,none⟩=some (.bool (zAf at_ 3))∧w'.cell? ⟨bB,3,none⟩=some (.bool (zAf at_ 4))∧w'.cell? ⟨bB,4,none⟩=some (.bool (zAf at_ 5))∧w'.cell? ⟨bB,5,none⟩=some (.int .i64 last)∧w'.cell? ⟨bB,6,none⟩=some (.int .i64 first)∧w'.cell? ⟨bB,7,none⟩=some (.int .i64 maxt)∧w'.cell? ⟨bB,8,none⟩=some (.int .i64 prod)∧w'.cell? ⟨bB,9,none⟩=some (.int .i64 epoch)∧w'.cell? ⟨bB,10,none⟩=some (.int .i64 sq)∧w'.cell? ⟨bB,11,none⟩=some (.slice q l.length cap)) (by kernel_rfl) (let ⟨x0,x1,x2,x3,x4,x5,x6,x7,x8,x9,x10,x11,_⟩:=zAe (b:=bB) (hs);⟨x0,x1,x2,x3,x4,x5,x6,x7,x8,x9,x10,x11⟩) (fun hHeld=> ?_);refine tR 0 ?_;refine tR 1 ?_;refine wR [2] (rC rfl (fun KK hK=> ?_) rN);go_simp;go_at_call 88;with_reducible refine(zBG base leader (zAf at_ 3) (zAf at_ 4) (zAf at_ 5) last first maxt prod epoch sq l q cap e HBE.out HMX.out HFT.out HLL.out (Know.has_right (Know.has_refl _)) hs).mono ?_;rintro e wq ⟨rfl,hs⟩;refine hK.out _ _ (let ⟨x0,x1,x2,x3,x4,x5,x6,x7,x8,x9,x10,x11,_⟩:=zAe (b:=bB) (hs);⟨x0,x1,x2,x3,x4,x5,x6,x7,x8,x9,x10,x11⟩) (fun hHeld=> ?_);clear hK KK
 try simp only[Act.put,sA,sB,sC]
 refine wR [3] (rC rfl (fun KK hK=> ?_) rN);have hs:=hs.p1;rw[if_pos (by rfl)];refine wp_store_mid 58 (.tmp 6) (.tmp 65) rfl rb 0 #[.int .i64 base,.int .i64 leader,.bool (zAf at_ 3),.bool (zAf at_ 4),.bool (zAf at_ 5),.int .i64 last,.int .i64 first,.int .i64 maxt,.int .i64 prod,.int .i64 epoch,.int .i64 sq,.slice q l.length cap] (by rfl) (by rfl) hs.there (by kernel_rfl) (by simp[Value.oneCell']) ?_;obtain⟨wz,ez,hs⟩:=hs.storeEx #[.int .i64 base,.int .i64 leader,.bool (zAf at_ 3),.bool (zAf at_ 4),.bool (zAf at_ 5),.int .i64 last,.int .i64 first,.int .i64 maxt,.int .i64 prod,.int .i64 epoch,.int .i64 sq,.slice q l.length cap];rw[ez];clear ez;refine hK.out _ _ (let ⟨x0,x1,x2,x3,x4,x5,x6,x7,x8,x9,x10,x11,_⟩:=zAe (b:=bB) (hs.p1);⟨x0,x1,x2,x3,x4,x5,x6,x7,x8,x9,x10,x11⟩) (fun hHeld=> ?_);clear hK KK
 try simp only[Act.put,sA,sB,sC]
 refine tR 4 ?_;refine wpAnyH_done (by kernel_rfl) ?_ _;clear hHeld;rw[zBs]at hs;rotate_left
 ·rfl
 have hz:St W0 _ _ (.raw rb #[.int .i64 base,.int .i64 leader,.bool (zAf at_ 3),.bool (zAf at_ 4),.bool (zAf at_ 5),.int .i64 last,.int .i64 first,.int .i64 maxt,.int .i64 prod,.int .i64 epoch,.int .i64 sq,.slice q l.length cap] 58::_):=hs;go_wp2_with fail;refine bodyPost_ret (zCC rfl _ _ rb [.int .i64 base,.int .i64 leader,.bool (zAf at_ 3),.bool (zAf at_ 4),.bool (zAf at_ 5),.int .i64 last,.int .i64 first,.int .i64 maxt,.int .i64 prod,.int .i64 epoch,.int .i64 sq,.slice q l.length cap] _ rfl (zAE hz) Tryz.underlying58 rfl (by kernel_rfl)) rfl ?_;exact⟨l,q,cap,rfl,hz.drop.drop.drop.know (Know.has_left (Know.has_refl _))⟩
theorem zR0(x:PreS)(said rows:Bs)(hs1:21≤said.length)(hs2:said.length≤140737488355328)(hr1:rows.length≤1000000)(har:R64 x.attr)(hc0:0≤x.count)(hcn:x.count≤2147483647)(hmx:x.first≤9223372036854775807)(e:Int)(ha:asmB x said rows=.error e)(h:St W0 w K L):
 Calls Tryz.prog 142 #[.agg #[.int .i64 x.base,.int .i64 x.len,.int .i64 x.leader,.int .i64 x.sum,.int .i64 x.attr,.int .i64 x.last,.int .i64 x.first,.int .i64 x.maxt,.int .i64 x.prod,.int .i64 x.epoch,.int .i64 x.seq,.int .i64 x.count],.string (bb said),.string (bb rows)] w fun en w'=>∃(b:BatS) (q:Option Addr) (n cap:Nat),en=.returned (.tuple #[.agg #[.int .i64 b.base,.int .i64 b.leader,.bool b.app,.bool b.txn,.bool b.ctl,.int .i64 b.last,.int .i64 b.first,.int .i64 b.maxt,.int .i64 b.prod,.int .i64 b.epoch,.int .i64 b.seq,.slice q n cap],.int .i64 e])∧St W0 w' K L:=by
 obtain⟨base,len,leader,sum,attr,last,first,maxt,prod,epoch,seq,count⟩:=x;simp only at har hc0 hcn hmx;obtain⟨cnt,rfl⟩:∃n:Nat,count=(n:Int):=⟨count.toNat,oM⟩;have hr:rows.length≤140737488355328:=by omega
 have hcn:cnt≤2147483647:=by omega
 unfold asmB at ha;simp only[Int.toNat_natCast]at ha
 by_cases c1:(((zAm 0#32 (said.drop 21++rows)).toNat:Nat):Int)≠sum
 ·rw[if_pos c1]at ha
  cases ha
  exact(zRZ said rows base len leader sum attr last first maxt prod epoch seq cnt _ rfl hs1 hs2 hr c1 h).mono fun _ _ hh=>⟨BatS.zero,none,0,0,hh.1,hh.2⟩
 rw[if_neg c1]at ha;have c1:=Classical.not_not.1 c1
 by_cases c2:chk attr≠0
 ·rw[if_pos c2]at ha
  cases ha
  exact(zQO said rows base len leader sum attr last first maxt prod epoch seq cnt _ rfl hs1 hs2 hr c1 _ rfl har c2 h).mono fun _ _ hh=>⟨BatS.zero,none,0,0,hh.1,hh.2⟩
 rw[if_neg c2]at ha;have c2:=Classical.not_not.1 c2
 cases hu:unp cnt ⟨rows,0,0⟩with
 |error f=>
  rw[hu]at ha;simp only at ha
  cases ha
  exact(zQM said rows base len leader sum attr last first maxt prod epoch seq cnt _ rfl hs1 hs2 hr c1 c2 har hcn _ hu (zOe _ _ _ hu) h).mono fun _ _ hh=>⟨BatS.zero,none,0,0,hh.1,hh.2⟩
 |ok rs=>
  rw[hu]at ha;simp only at ha
  by_cases c3:zAl ⟨base,leader,zAf attr 3,zAf attr 4,zAf attr 5,last,first,maxt,prod,epoch,seq,rs⟩=0
  ·rw[if_pos c3]at ha;cases ha
  rw[if_neg c3]at ha
  cases ha
  exact(zR1 said rows base len leader sum attr last first maxt prod epoch seq cnt _ rfl hs1 hs2 hr c1 c2 har hcn hr1 hmx rs hu _ rfl h).mono fun _ _ ⟨l,q,cap,hh,hs⟩=>⟨⟨base,leader,zAf attr 3,zAf attr 4,zAf attr 5,last,first,maxt,prod,epoch,seq,rs⟩,q,l.length,cap,hh,hs⟩
theorem zQN(x:PreS)(said rows:Bs)(hs1:21≤said.length)(hs2:said.length≤140737488355328)(hr1:rows.length≤1000000)(har:R64 x.attr)(hc0:0≤x.count)(hcn:x.count≤2147483647)(hmx:x.first≤9223372036854775807)(b:BatS)(ha:asmB x said rows=.ok b)(h:St W0 w K L):
 Calls Tryz.prog 142 #[.agg #[.int .i64 x.base,.int .i64 x.len,.int .i64 x.leader,.int .i64 x.sum,.int .i64 x.attr,.int .i64 x.last,.int .i64 x.first,.int .i64 x.maxt,.int .i64 x.prod,.int .i64 x.epoch,.int .i64 x.seq,.int .i64 x.count],.string (bb said),.string (bb rows)] w fun en w'=>∃(q:Option Addr) (l:List (RecS×Value)) (cap:Nat),en=.returned (.tuple #[.agg #[.int .i64 b.base,.int .i64 b.leader,.bool b.app,.bool b.txn,.bool b.ctl,.int .i64 b.last,.int .i64 b.first,.int .i64 b.maxt,.int .i64 b.prod,.int .i64 b.epoch,.int .i64 b.seq,.slice q l.length cap],.int .i64 0])∧l.map (·.1)=b.recs∧St W0 w' (K.and (Know.recs (.slice q l.length cap) l)) L:=by
 obtain⟨c1,c2,rs,hu,c3,rfl⟩:=zHu ha;obtain⟨base,len,leader,sum,attr,last,first,maxt,prod,epoch,seq,count⟩:=x;simp only at har hc0 hcn hmx c1 c2 hu c3;obtain⟨cnt,rfl⟩:∃n:Nat,count=(n:Int):=⟨count.toNat,oM⟩;rw[Int.toNat_natCast]at hu;exact asm_ok said rows base len leader sum attr last first maxt prod epoch seq cnt _ rfl hs1 hs2 oM c1 c2 har oM hr1 hmx rs hu c3 h
variable {W0 w:World}{K:Know}{L:List Res}
theorem zFD(p:Nat)(i i1 i2 j:InS)(said:Bs)(x:PreS)(e e2:Int)(hxl: -2147483648≤x.len∧x.len<2147483648)(hsl:said.length≤140737488355328)(ht1:i.take 61=(said,i1))(hp:(⟨said,0,0⟩:InS).pre=(x,j))(hj:j.err=e)(he:e≠0)(hf:i1.fail e=i2)(he2:i2.err=e2)(he3:e2≠0)(h:St W0 w K (.inp p i::L)):
 Calls Tryz.prog 109 #[zAu p] w fun en w'=>en=.returned (.agg #[.int .i64 0,.int .i64 0,.bool false,.bool false,.bool false,.int .i64 0,.int .i64 0,.int .i64 0,.int .i64 0,.int .i64 0,.int .i64 0,.slice none 0 0])∧St W0 w' K (.inp p i2::L):=by
 have g1:=h.allocRaw #[.int .i64 0,.int .i64 0,.bool false,.bool false,.bool false,.int .i64 0,.int .i64 0,.int .i64 0,.int .i64 0,.int .i64 0,.int .i64 0,.slice none 0 0] 58;obtain⟨rb,hrb⟩:∃b,w.heap.size=b:=⟨_,rfl⟩;rw[hrb]at g1;have H:=hQd g1;have HT1:=hQd ht1;have HSL:=hQd hsl;have HP:=hQd hp;have HJ:=hQd hj;have HF:=hQd hf;have HT2:=hQd (show i2.take (x.len - 49)=([],i2)from InS.take_err (by rw[he2];exact he3));have HE3:=hQd he2;have gz:(e==0)=false:=by rw[beq_eq_false_iff_ne];exact he
 have gz2:(e !=0)=true:=by rw[bne_iff_ne];exact he
 have gy:(e2==0)=false:=by rw[beq_eq_false_iff_ne];exact he3
 have gy2:(e2 !=0)=true:=by rw[bne_iff_ne];exact he3
 have f1:wrap64 (x.len - 49)=x.len - 49:=by unfold wrap64;omega
 have f2:IntKind.i64.wrap (x.len - 49)=x.len - 49:=IntWalk.i64_in _ oM;clear h g1 ht1 hsl hp hj hf he2 he he3 hxl;go_enter Tryz.func109,Tryz.ntmps109
 go_wp2_with (first
  |(go_at_call 77;(with_reducible refine(zDp p i i1 _ said HT1.out H.out.p1).zM ?_);clear H;intro wn H)
  |(go_at_call 14;(with_reducible refine(zEi said HSL.out H.out).mono ?_);rintro e_ wn ⟨bi,rfl,h⟩;replace H:=hQd h;clear h)
  |(go_at_call 141;(with_reducible refine(zCL bi _ j x HP.out H.out).zM ?_);clear H;intro wn H;have h:=H.out;obtain⟨pb,hpb⟩:∃b,wn.heap.size=b:=⟨_,rfl⟩;have h:=h.allocRaw #[.int .i64 x.base,.int .i64 x.len,.int .i64 x.leader,.int .i64 x.sum,.int .i64 x.attr,.int .i64 x.last,.int .i64 x.first,.int .i64 x.maxt,.int .i64 x.prod,.int .i64 x.epoch,.int .i64 x.seq,.int .i64 x.count] 154;rw[hpb]at h;obtain⟨x0,x1,x2,x3,x4,x5,x6,x7,x8,x9,x10,x11,y0,y1,y2,y3,y4,y5,y6,y7,y8,y9,y10,y11⟩:=zAe (b:=pb) (h);replace H:=hQd h.p1;clear h)
  |(go_at_call 20;(with_reducible refine(zDq bi j e HJ.out H.out).zM ?_);clear H;intro wn H;obtain⟨x0,x1,x2,x3,x4,x5,x6,x7,x8,x9,x10,x11,y0,y1,y2,y3,y4,y5,y6,y7,y8,y9,y10,y11⟩:=zAe (b:=pb) (H.out.p1))
  |(go_at_call 47;(with_reducible refine(zOn p i1 i2 _ HF.out H.out.p2).zM ?_);clear H;intro wn H;obtain⟨x0,x1,x2,x3,x4,x5,x6,x7,x8,x9,x10,x11,y0,y1,y2,y3,y4,y5,y6,y7,y8,y9,y10,y11⟩:=zAe (b:=pb) (H.out.p2))
  |(go_at_call 77;(with_reducible refine(zDp p i2 i2 _ [] HT2.out H.out).zM ?_);clear H;intro wn H;obtain⟨x0,x1,x2,x3,x4,x5,x6,x7,x8,x9,x10,x11,y0,y1,y2,y3,y4,y5,y6,y7,y8,y9,y10,y11⟩:=zAe (b:=pb) (H.out.p2))
  |(go_at_call 20;(with_reducible refine(zDq p i2 e2 HE3.out H.out).zM ?_);clear H;intro wn H;obtain⟨x0,x1,x2,x3,x4,x5,x6,x7,x8,x9,x10,x11,y0,y1,y2,y3,y4,y5,y6,y7,y8,y9,y10,y11⟩:=zAe (b:=pb) (H.out.p2);obtain⟨a0,a1,a2,a3,a4,a5,a6,a7,a8,a9,a10,a11,f0,f1,f2,f3,f4,f5,f6,f7,f8,f9,f10,f11⟩:=zAe (b:=rb) (H.out.p3)))
 have hz:St W0 _ _ (.raw rb #[.int .i64 0,.int .i64 0,.bool false,.bool false,.bool false,.int .i64 0,.int .i64 0,.int .i64 0,.int .i64 0,.int .i64 0,.int .i64 0,.slice none 0 0] 58::_):=St.sets12 _ _ _ _ _ _ _ _ _ _ _ _ (H.out.p3);refine bodyPost_ret (zAs rfl _ _ rb [.int .i64 0,.int .i64 0,.bool false,.bool false,.bool false,.int .i64 0,.int .i64 0,.int .i64 0,.int .i64 0,.int .i64 0,.int .i64 0,.slice none 0 0] _ rfl (zAE hz) Tryz.underlying58 rfl (by kernel_rfl)) rfl ?_;exact⟨rfl,hz.drop.p1.drop.p1.drop⟩
theorem zJi(p:Nat)(i i1 i3 j:InS)(said rows:Bs)(x:PreS)(e2:Int)(hxl: -2147483648≤x.len∧x.len<2147483648)(hsl:said.length≤140737488355328)(ht1:i.take 61=(said,i1))(hp:(⟨said,0,0⟩:InS).pre=(x,j))(hj:j.err=0)(ht2:i1.take (x.len - 49)=(rows,i3))(he2:i3.err=e2)(he3:e2≠0)(h:St W0 w K (.inp p i::L)):
 Calls Tryz.prog 109 #[zAu p] w fun en w'=>en=.returned (.agg #[.int .i64 0,.int .i64 0,.bool false,.bool false,.bool false,.int .i64 0,.int .i64 0,.int .i64 0,.int .i64 0,.int .i64 0,.int .i64 0,.slice none 0 0])∧St W0 w' K (.inp p i3::L):=by
 have g1:=h.allocRaw #[.int .i64 0,.int .i64 0,.bool false,.bool false,.bool false,.int .i64 0,.int .i64 0,.int .i64 0,.int .i64 0,.int .i64 0,.int .i64 0,.slice none 0 0] 58;obtain⟨rb,hrb⟩:∃b,w.heap.size=b:=⟨_,rfl⟩;rw[hrb]at g1;have H:=hQd g1;have HT1:=hQd ht1;have HSL:=hQd hsl;have HP:=hQd hp;have HJ:=hQd hj;have HT2:=hQd ht2;have HE3:=hQd he2;have gy:(e2==0)=false:=by rw[beq_eq_false_iff_ne];exact he3
 have gy2:(e2 !=0)=true:=by rw[bne_iff_ne];exact he3
 have f1:wrap64 (x.len - 49)=x.len - 49:=by unfold wrap64;omega
 have f2:IntKind.i64.wrap (x.len - 49)=x.len - 49:=IntWalk.i64_in _ oM;clear h g1 ht1 hsl hp hj ht2 he2 he3 hxl;go_enter Tryz.func109,Tryz.ntmps109
 go_wp2_with (first
  |(go_at_call 77;(with_reducible refine(zDp p i i1 _ said HT1.out H.out.p1).zM ?_);clear H;intro wn H)
  |(go_at_call 14;(with_reducible refine(zEi said HSL.out H.out).mono ?_);rintro e_ wn ⟨bi,rfl,h⟩;replace H:=hQd h;clear h)
  |(go_at_call 141;(with_reducible refine(zCL bi _ j x HP.out H.out).zM ?_);clear H;intro wn H;have h:=H.out;obtain⟨pb,hpb⟩:∃b,wn.heap.size=b:=⟨_,rfl⟩;have h:=h.allocRaw #[.int .i64 x.base,.int .i64 x.len,.int .i64 x.leader,.int .i64 x.sum,.int .i64 x.attr,.int .i64 x.last,.int .i64 x.first,.int .i64 x.maxt,.int .i64 x.prod,.int .i64 x.epoch,.int .i64 x.seq,.int .i64 x.count] 154;rw[hpb]at h;obtain⟨x0,x1,x2,x3,x4,x5,x6,x7,x8,x9,x10,x11,y0,y1,y2,y3,y4,y5,y6,y7,y8,y9,y10,y11⟩:=zAe (b:=pb) (h);replace H:=hQd h.p1;clear h)
  |(go_at_call 20;(with_reducible refine(zDq bi j 0 HJ.out H.out).zM ?_);clear H;intro wn H;obtain⟨x0,x1,x2,x3,x4,x5,x6,x7,x8,x9,x10,x11,y0,y1,y2,y3,y4,y5,y6,y7,y8,y9,y10,y11⟩:=zAe (b:=pb) (H.out.p1))
  |(go_at_call 77;(with_reducible refine(zDp p i1 i3 _ rows HT2.out H.out.p2).zM ?_);clear H;intro wn H;obtain⟨x0,x1,x2,x3,x4,x5,x6,x7,x8,x9,x10,x11,y0,y1,y2,y3,y4,y5,y6,y7,y8,y9,y10,y11⟩:=zAe (b:=pb) (H.out.p2))
  |(go_at_call 20;(with_reducible refine(zDq p i3 e2 HE3.out H.out).zM ?_);clear H;intro wn H;obtain⟨x0,x1,x2,x3,x4,x5,x6,x7,x8,x9,x10,x11,y0,y1,y2,y3,y4,y5,y6,y7,y8,y9,y10,y11⟩:=zAe (b:=pb) (H.out.p2);obtain⟨a0,a1,a2,a3,a4,a5,a6,a7,a8,a9,a10,a11,f0,f1,f2,f3,f4,f5,f6,f7,f8,f9,f10,f11⟩:=zAe (b:=rb) (H.out.p3)))
 have hz:St W0 _ _ (.raw rb #[.int .i64 0,.int .i64 0,.bool false,.bool false,.bool false,.int .i64 0,.int .i64 0,.int .i64 0,.int .i64 0,.int .i64 0,.int .i64 0,.slice none 0 0] 58::_):=St.sets12 _ _ _ _ _ _ _ _ _ _ _ _ (H.out.p3);refine bodyPost_ret (zAs rfl _ _ rb [.int .i64 0,.int .i64 0,.bool false,.bool false,.bool false,.int .i64 0,.int .i64 0,.int .i64 0,.int .i64 0,.int .i64 0,.int .i64 0,.slice none 0 0] _ rfl (zAE hz) Tryz.underlying58 rfl (by kernel_rfl)) rfl ?_;exact⟨rfl,hz.drop.p1.drop.p1.drop⟩
variable {W0 w:World}{K:Know}{L:List Res}
theorem zMd(p:Nat)(i i1 i3 j:InS)(said rows:Bs)(x:PreS)(hxl: -2147483648≤x.len∧x.len<2147483648)(hs1:21≤said.length)(hsl:said.length≤140737488355328)(hr1:rows.length≤1000000)(har:R64 x.attr)(hc0:0≤x.count)(hcn:x.count≤2147483647)(hmx:x.first≤9223372036854775807)(ht1:i.take 61=(said,i1))(hp:(⟨said,0,0⟩:InS).pre=(x,j))(hj:j.err=0)(ht2:i1.take (x.len - 49)=(rows,i3))(he3:i3.err=0)(b:BatS)(ha:asmB x said rows=.ok b)(h:St W0 w K (.inp p i::L)):
 Calls Tryz.prog 109 #[zAu p] w fun en w'=>∃(q:Option Addr) (l:List (RecS×Value)) (cap:Nat),en=.returned (.agg #[.int .i64 b.base,.int .i64 b.leader,.bool b.app,.bool b.txn,.bool b.ctl,.int .i64 b.last,.int .i64 b.first,.int .i64 b.maxt,.int .i64 b.prod,.int .i64 b.epoch,.int .i64 b.seq,.slice q l.length cap])∧l.map (·.1)=b.recs∧St W0 w' (K.and (Know.recs (.slice q l.length cap) l)) (.inp p i3::L):=by
 have g1:=h.allocRaw #[.int .i64 0,.int .i64 0,.bool false,.bool false,.bool false,.int .i64 0,.int .i64 0,.int .i64 0,.int .i64 0,.int .i64 0,.int .i64 0,.slice none 0 0] 58;obtain⟨rb,hrb⟩:∃b,w.heap.size=b:=⟨_,rfl⟩;rw[hrb]at g1;have H:=hQd g1;have HT1:=hQd ht1;have HSL:=hQd hsl;have HS1:=hQd hs1;have HR1:=hQd hr1;have HAR:=hQd har;have HC0:=hQd hc0;have HCN:=hQd hcn;have HMX:=hQd hmx;have HA:=hQd ha;have HP:=hQd hp;have HJ:=hQd hj;have HT2:=hQd ht2;have HE3:=hQd he3;have f1:wrap64 (x.len - 49)=x.len - 49:=by unfold wrap64;omega
 have f2:IntKind.i64.wrap (x.len - 49)=x.len - 49:=IntWalk.i64_in _ oM;clear h g1 ht1 hsl hs1 hr1 har hc0 hcn hmx ha hp hj ht2 he3 hxl;go_enter Tryz.func109,Tryz.ntmps109
 go_wp2_with (first
  |(go_at_call 77;(with_reducible refine(zDp p i i1 _ said HT1.out H.out.p1).zM ?_);clear H;intro wn H)
  |(go_at_call 14;(with_reducible refine(zEi said HSL.out H.out).mono ?_);rintro e_ wn ⟨bi,rfl,h⟩;replace H:=hQd h;clear h)
  |(go_at_call 141;(with_reducible refine(zCL bi _ j x HP.out H.out).zM ?_);clear H;intro wn H;have h:=H.out;obtain⟨pb,hpb⟩:∃b,wn.heap.size=b:=⟨_,rfl⟩;have h:=h.allocRaw #[.int .i64 x.base,.int .i64 x.len,.int .i64 x.leader,.int .i64 x.sum,.int .i64 x.attr,.int .i64 x.last,.int .i64 x.first,.int .i64 x.maxt,.int .i64 x.prod,.int .i64 x.epoch,.int .i64 x.seq,.int .i64 x.count] 154;rw[hpb]at h;obtain⟨x0,x1,x2,x3,x4,x5,x6,x7,x8,x9,x10,x11,y0,y1,y2,y3,y4,y5,y6,y7,y8,y9,y10,y11⟩:=zAe (b:=pb) (h);replace H:=hQd h.p1;clear h)
  |(go_at_call 20;(with_reducible refine(zDq bi j 0 HJ.out H.out).zM ?_);clear H;intro wn H;obtain⟨x0,x1,x2,x3,x4,x5,x6,x7,x8,x9,x10,x11,y0,y1,y2,y3,y4,y5,y6,y7,y8,y9,y10,y11⟩:=zAe (b:=pb) (H.out.p1))
  |(go_at_call 77;(with_reducible refine(zDp p i1 i3 _ rows HT2.out H.out.p2).zM ?_);clear H;intro wn H;obtain⟨x0,x1,x2,x3,x4,x5,x6,x7,x8,x9,x10,x11,y0,y1,y2,y3,y4,y5,y6,y7,y8,y9,y10,y11⟩:=zAe (b:=pb) (H.out.p2))
  |(go_at_call 20;(with_reducible refine(zDq p i3 0 HE3.out H.out).zM ?_);clear H;intro wn H;obtain⟨x0,x1,x2,x3,x4,x5,x6,x7,x8,x9,x10,x11,y0,y1,y2,y3,y4,y5,y6,y7,y8,y9,y10,y11⟩:=zAe (b:=pb) (H.out.p2);obtain⟨a0,a1,a2,a3,a4,a5,a6,a7,a8,a9,a10,a11,f0,f1,f2,f3,f4,f5,f6,f7,f8,f9,f10,f11⟩:=zAe (b:=rb) (H.out.p3))
  |(go_at_call 142;(with_reducible refine(zQN x said rows HS1.out HSL.out HR1.out HAR.out HC0.out HCN.out HMX.out b HA.out H.out).mono ?_);rintro e_ wn ⟨q,l,cap,rfl,hl,h⟩;have h:=h.allocRaw #[.int .i64 b.base,.int .i64 b.leader,.bool b.app,.bool b.txn,.bool b.ctl,.int .i64 b.last,.int .i64 b.first,.int .i64 b.maxt,.int .i64 b.prod,.int .i64 b.epoch,.int .i64 b.seq,.slice q l.length cap] 58;obtain⟨bB,hbB⟩:∃b,wn.heap.size=b:=⟨_,rfl⟩;rw[hbB]at h;obtain⟨c0,c1,c2,c3,c4,c5,c6,c7,c8,c9,c10,c11,g0,g1,g2,g3,g4,g5,g6,g7,g8,g9,g10,g11⟩:=zAe (b:=bB) (h);obtain⟨a0,a1,a2,a3,a4,a5,a6,a7,a8,a9,a10,a11,f0,f1,f2,f3,f4,f5,f6,f7,f8,f9,f10,f11⟩:=zAe (b:=rb) (h.p4);replace H:=hQd h;clear h))
 have hz:St W0 _ _ (.raw rb #[.int .i64 b.base,.int .i64 b.leader,.bool b.app,.bool b.txn,.bool b.ctl,.int .i64 b.last,.int .i64 b.first,.int .i64 b.maxt,.int .i64 b.prod,.int .i64 b.epoch,.int .i64 b.seq,.slice q l.length cap] 58::_):=St.sets12 _ _ _ _ _ _ _ _ _ _ _ _ (H.out.p4);refine bodyPost_ret (zAs rfl _ _ rb [.int .i64 b.base,.int .i64 b.leader,.bool b.app,.bool b.txn,.bool b.ctl,.int .i64 b.last,.int .i64 b.first,.int .i64 b.maxt,.int .i64 b.prod,.int .i64 b.epoch,.int .i64 b.seq,.slice q l.length cap] _ rfl (zAE hz) Tryz.underlying58 rfl (by kernel_rfl)) rfl ?_;exact⟨q,l,cap,rfl,hl,hz.drop.drop.p1.drop.p1.drop⟩
theorem zK6(p:Nat)(i i1 i3 j:InS)(said rows:Bs)(x:PreS)(hxl: -2147483648≤x.len∧x.len<2147483648)(hs1:21≤said.length)(hsl:said.length≤140737488355328)(hr1:rows.length≤1000000)(har:R64 x.attr)(hc0:0≤x.count)(hcn:x.count≤2147483647)(hmx:x.first≤9223372036854775807)(ht1:i.take 61=(said,i1))(hp:(⟨said,0,0⟩:InS).pre=(x,j))(hj:j.err=0)(ht2:i1.take (x.len - 49)=(rows,i3))(he3:i3.err=0)(i4:InS)(e:Int)(ha:asmB x said rows=.error e)(hf:i3.fail e=i4)(h:St W0 w K (.inp p i::L)):
 Calls Tryz.prog 109 #[zAu p] w fun en w'=>en=.returned (.agg #[.int .i64 0,.int .i64 0,.bool false,.bool false,.bool false,.int .i64 0,.int .i64 0,.int .i64 0,.int .i64 0,.int .i64 0,.int .i64 0,.slice none 0 0])∧St W0 w' K (.inp p i4::L):=by
 have g1:=h.allocRaw #[.int .i64 0,.int .i64 0,.bool false,.bool false,.bool false,.int .i64 0,.int .i64 0,.int .i64 0,.int .i64 0,.int .i64 0,.int .i64 0,.slice none 0 0] 58;obtain⟨rb,hrb⟩:∃b,w.heap.size=b:=⟨_,rfl⟩;rw[hrb]at g1;have H:=hQd g1;have HT1:=hQd ht1;have HSL:=hQd hsl;have HS1:=hQd hs1;have HR1:=hQd hr1;have HAR:=hQd har;have HC0:=hQd hc0;have HCN:=hQd hcn;have HMX:=hQd hmx;have HA:=hQd ha;have HP:=hQd hp;have HJ:=hQd hj;have HT2:=hQd ht2;have HE3:=hQd he3;have HF:=hQd hf;have gz:(e==0)=false:=by rw[beq_eq_false_iff_ne];exact zMf ha
 have gz2:(e !=0)=true:=by rw[bne_iff_ne];exact zMf ha
 have f1:wrap64 (x.len - 49)=x.len - 49:=by unfold wrap64;omega
 have f2:IntKind.i64.wrap (x.len - 49)=x.len - 49:=IntWalk.i64_in _ oM;clear h g1 ht1 hsl hs1 hr1 har hc0 hcn hmx ha hp hj ht2 he3 hxl hf;go_enter Tryz.func109,Tryz.ntmps109
 go_wp2_with (first
  |(go_at_call 77;(with_reducible refine(zDp p i i1 _ said HT1.out H.out.p1).zM ?_);clear H;intro wn H)
  |(go_at_call 14;(with_reducible refine(zEi said HSL.out H.out).mono ?_);rintro e_ wn ⟨bi,rfl,h⟩;replace H:=hQd h;clear h)
  |(go_at_call 141;(with_reducible refine(zCL bi _ j x HP.out H.out).zM ?_);clear H;intro wn H;have h:=H.out;obtain⟨pb,hpb⟩:∃b,wn.heap.size=b:=⟨_,rfl⟩;have h:=h.allocRaw #[.int .i64 x.base,.int .i64 x.len,.int .i64 x.leader,.int .i64 x.sum,.int .i64 x.attr,.int .i64 x.last,.int .i64 x.first,.int .i64 x.maxt,.int .i64 x.prod,.int .i64 x.epoch,.int .i64 x.seq,.int .i64 x.count] 154;rw[hpb]at h;obtain⟨x0,x1,x2,x3,x4,x5,x6,x7,x8,x9,x10,x11,y0,y1,y2,y3,y4,y5,y6,y7,y8,y9,y10,y11⟩:=zAe (b:=pb) (h);replace H:=hQd h.p1;clear h)
  |(go_at_call 20;(with_reducible refine(zDq bi j 0 HJ.out H.out).zM ?_);clear H;intro wn H;obtain⟨x0,x1,x2,x3,x4,x5,x6,x7,x8,x9,x10,x11,y0,y1,y2,y3,y4,y5,y6,y7,y8,y9,y10,y11⟩:=zAe (b:=pb) (H.out.p1))
  |(go_at_call 77;(with_reducible refine(zDp p i1 i3 _ rows HT2.out H.out.p2).zM ?_);clear H;intro wn H;obtain⟨x0,x1,x2,x3,x4,x5,x6,x7,x8,x9,x10,x11,y0,y1,y2,y3,y4,y5,y6,y7,y8,y9,y10,y11⟩:=zAe (b:=pb) (H.out.p2))
  |(go_at_call 20;(with_reducible refine(zDq p i3 0 HE3.out H.out).zM ?_);clear H;intro wn H;obtain⟨x0,x1,x2,x3,x4,x5,x6,x7,x8,x9,x10,x11,y0,y1,y2,y3,y4,y5,y6,y7,y8,y9,y10,y11⟩:=zAe (b:=pb) (H.out.p2);obtain⟨a0,a1,a2,a3,a4,a5,a6,a7,a8,a9,a10,a11,f0,f1,f2,f3,f4,f5,f6,f7,f8,f9,f10,f11⟩:=zAe (b:=rb) (H.out.p3))
  |(go_at_call 142;(with_reducible refine(zR0 x said rows HS1.out HSL.out HR1.out HAR.out HC0.out HCN.out HMX.out e HA.out H.out).mono ?_);rintro e_ wn ⟨b,q,n,cap,rfl,h⟩;have h:=h.allocRaw #[.int .i64 b.base,.int .i64 b.leader,.bool b.app,.bool b.txn,.bool b.ctl,.int .i64 b.last,.int .i64 b.first,.int .i64 b.maxt,.int .i64 b.prod,.int .i64 b.epoch,.int .i64 b.seq,.slice q n cap] 58;obtain⟨bB,hbB⟩:∃b,wn.heap.size=b:=⟨_,rfl⟩;rw[hbB]at h;obtain⟨c0,c1,c2,c3,c4,c5,c6,c7,c8,c9,c10,c11,g0,g1,g2,g3,g4,g5,g6,g7,g8,g9,g10,g11⟩:=zAe (b:=bB) (h);obtain⟨a0,a1,a2,a3,a4,a5,a6,a7,a8,a9,a10,a11,f0,f1,f2,f3,f4,f5,f6,f7,f8,f9,f10,f11⟩:=zAe (b:=rb) (h.p4);replace H:=hQd h;clear h)
  |(go_at_call 47;(with_reducible refine(zOn p i3 i4 _ HF.out H.out.p1).zM ?_);clear H;intro wn H;obtain⟨c0,c1,c2,c3,c4,c5,c6,c7,c8,c9,c10,c11,g0,g1,g2,g3,g4,g5,g6,g7,g8,g9,g10,g11⟩:=zAe (b:=bB) (H.out.p1);obtain⟨a0,a1,a2,a3,a4,a5,a6,a7,a8,a9,a10,a11,f0,f1,f2,f3,f4,f5,f6,f7,f8,f9,f10,f11⟩:=zAe (b:=rb) (H.out.p4)))
 have hz:St W0 _ _ (.raw rb #[.int .i64 0,.int .i64 0,.bool false,.bool false,.bool false,.int .i64 0,.int .i64 0,.int .i64 0,.int .i64 0,.int .i64 0,.int .i64 0,.slice none 0 0] 58::_):=St.sets12 _ _ _ _ _ _ _ _ _ _ _ _ (H.out.p4);refine bodyPost_ret (zAs rfl _ _ rb [.int .i64 0,.int .i64 0,.bool false,.bool false,.bool false,.int .i64 0,.int .i64 0,.int .i64 0,.int .i64 0,.int .i64 0,.int .i64 0,.slice none 0 0] _ rfl (zAE hz) Tryz.underlying58 rfl (by kernel_rfl)) rfl ?_;exact⟨rfl,hz.drop.p1.drop.p1.drop.p1.drop⟩
theorem zEN(p:Nat)(s:Bs)(pos:Nat)(hsl:s.length≤1000000)(hp:pos≤s.length)(b:BatS)(n:Nat)(hr:zBd (s.drop pos)=.ok (b,n))(h:St W0 w K (.inp p ⟨s,pos,0⟩::L)):
 Calls Tryz.prog 109 #[zAu p] w fun en w'=>∃(q:Option Addr) (l:List (RecS×Value)) (cap:Nat),en=.returned (.agg #[.int .i64 b.base,.int .i64 b.leader,.bool b.app,.bool b.txn,.bool b.ctl,.int .i64 b.last,.int .i64 b.first,.int .i64 b.maxt,.int .i64 b.prod,.int .i64 b.epoch,.int .i64 b.seq,.slice q l.length cap])∧l.map (·.1)=b.recs∧St W0 w' (K.and (Know.recs (.slice q l.length cap) l)) (.inp p ⟨s,pos+n,0⟩::L):=by
 obtain⟨x,hx,rfl,hn,ha⟩:=zBI hr;obtain⟨r1,r2,r3,r4,r5,r6⟩:=zAT hx;have h61:=(zDM hx).1;rw[List.length_drop]at hn h61;have hl61:((s.drop pos).take 61).length=61:=by rw[List.length_take,List.length_drop];omega
 have hrl:(((s.drop pos).drop 61).take (x.len - 49).toNat).length≤1000000:=by rw[List.length_take,List.length_drop,List.length_drop];omega
 have ht1:(⟨s,pos,0⟩:InS).take 61=((s.drop pos).take 61,⟨s,pos+61,0⟩):=InS.take_ok rfl oM (by simp only[InS.left];omega)
 have ht2:(⟨s,pos+61,0⟩:InS).take (x.len - 49)=(((s.drop pos).drop 61).take (x.len - 49).toNat,⟨s,pos+61+(x.len - 49).toNat,0⟩):=by
  rw[InS.take_ok rfl oM (by simp only[InS.left];omega),List.drop_drop]
 have hpre:=zOT ((s.drop pos).take 61) 0 oM;rw[List.drop_zero,zE8 _ (by rw[List.length_drop];omega),hx]at hpre;rw[←Nat.add_assoc];exact zMd p _ _ _ _ _ _ x r1 (by rw[hl61];omega) (by rw[hl61];omega) hrl r3 r4 r5 r6 ht1 hpre rfl ht2 rfl b ha h
theorem zFE(p:Nat)(s:Bs)(pos:Nat)(hsl:s.length≤1000000)(hp:pos≤s.length)(e:Int)(hr:zBd (s.drop pos)=.error e)(h:St W0 w K (.inp p ⟨s,pos,0⟩::L)):
 Calls Tryz.prog 109 #[zAu p] w fun en w'=>en=.returned (.agg #[.int .i64 0,.int .i64 0,.bool false,.bool false,.bool false,.int .i64 0,.int .i64 0,.int .i64 0,.int .i64 0,.int .i64 0,.int .i64 0,.slice none 0 0])∧∃q,q≤s.length∧St W0 w' K (.inp p ⟨s,q,e⟩::L):=by
 have hne:=zFU hr
 by_cases h61:s.length<pos+61
 ·unfold zBd at hr;rw[zLB (by rw[List.length_drop];omega)]at hr
  cases hr
  have ht1:(⟨s,pos,0⟩:InS).take 61=([],⟨s,pos,1⟩):=InS.take_short oM (by simp only[InS.left];omega);obtain⟨q,_,hpre⟩:=zNH [] 0 (Nat.le_refl _) dD;exact(zFD p _ _ ⟨s,pos,1⟩ _ [] PreS.zero 1 1 dD dD ht1 hpre rfl dD rfl rfl dD h).mono fun _ _ hh=>⟨hh.1,pos,hp,hh.2⟩
 have hl61:((s.drop pos).take 61).length=61:=by rw[List.length_take,List.length_drop];omega
 have ht1:(⟨s,pos,0⟩:InS).take 61=((s.drop pos).take 61,⟨s,pos+61,0⟩):=InS.take_ok rfl oM (by simp only[InS.left];omega);have hpre:=zOT ((s.drop pos).take 61) 0 oM;rw[List.drop_zero,zE8 _ (by rw[List.length_drop];omega)]at hpre;unfold zBd at hr
 cases hx:zBu (s.drop pos)with
 |error f=>
  rw[hx]at hr hpre;simp only at hr hpre
  cases hr
  exact(zFD p _ _ ⟨s,pos+61,e⟩ _ _ PreS.zero e e dD (by rw[hl61];omega) ht1 hpre rfl hne rfl rfl hne h).mono fun _ _ hh=>⟨hh.1,pos+61,oM,hh.2⟩
 |ok x=>
  rw[hx]at hr hpre;simp only at hr hpre;obtain⟨r1,r2,r3,r4,r5,r6⟩:=zAT hx
  by_cases hlen:(s.drop pos).length<61+(x.len - 49).toNat
  ·rw[if_pos hlen]at hr
   cases hr
   rw[List.length_drop]at hlen;have ht2:(⟨s,pos+61,0⟩:InS).take (x.len - 49)=([],⟨s,pos+61,1⟩):=InS.take_short oM (by simp only[InS.left];omega);exact(zJi p _ _ _ _ _ _ x 1 r1 (by rw[hl61];omega) ht1 hpre rfl ht2 rfl dD h).mono fun _ _ hh=>⟨hh.1,pos+61,oM,hh.2⟩
  ·rw[if_neg hlen]at hr;rw[List.length_drop]at hlen;have hrl:(((s.drop pos).drop 61).take (x.len - 49).toNat).length≤1000000:=by rw[List.length_take,List.length_drop,List.length_drop];omega
   have ht2:(⟨s,pos+61,0⟩:InS).take (x.len - 49)=(((s.drop pos).drop 61).take (x.len - 49).toNat,⟨s,pos+61+(x.len - 49).toNat,0⟩):=by
    rw[InS.take_ok rfl oM (by simp only[InS.left];omega),List.drop_drop]
   cases ha:asmB x ((s.drop pos).take 61) (((s.drop pos).drop 61).take (x.len - 49).toNat)with
   |ok b=>rw[ha]at hr;cases hr
   |error f=>
    rw[ha]at hr;simp only at hr
    cases hr
    exact(zK6 p _ _ _ _ _ _ x r1 (by rw[hl61];omega) (by rw[hl61];omega) hrl r3 r4 r5 r6 ht1 hpre rfl ht2 rfl ⟨s,pos+61+(x.len - 49).toNat,e⟩ e ha rfl h).mono fun _ _ hh=>⟨hh.1,_,oM,hh.2⟩
end Go.Proofs.YtnnnglklgofabaaGreat
