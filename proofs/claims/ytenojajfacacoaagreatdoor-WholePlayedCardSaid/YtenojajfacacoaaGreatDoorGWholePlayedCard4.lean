/- A text. -/
import Derived.Test.YtenojajfacacoaaGreatDoorGWholePlayedCard3
import Derived.Test.YtenojajfacacoaaGreatDoorGWholePlayedCard2
import Derived.Deep.MidRow
import Derived.IntWalk
import Derived.RegionTactic
import Derived.Deep.DeepCutAuto
import Derived.Deep.RegionHeld3
/- A text. -/
namespace Go.Proofs.YtenojajfacacoaaGreatDoor
open Go.RowKit
variable {W0 w:World}{K:Know}{L:List Res}
def Know.all {α:Type}(l:List α) (k:α→Know):Know:=⟨fun w F=>∀x∈l,(k x).p w F,fun w w' F h hs hk x hx=>(k x).keep w w' F (h x hx) hs hk,fun w F F' h hs x hx=>(k x).mono w F F' (h x hx) hs⟩
def RRec (cs:List Value) (x:RecS×Value):Prop:=cs=[.int .i64 x.1.time,.int .i64 x.1.off,.bool x.1.key.null,.string (bb x.1.key.data),.bool x.1.val.null,.string (bb x.1.val.data),x.2]
def zAW (x:RecS×Value):List Value:=[.int .i64 x.1.time,.int .i64 x.1.off,.bool x.1.key.null,.string (bb x.1.key.data),.bool x.1.val.null,.string (bb x.1.val.data),x.2]
def Know.recs (v:Value) (l:List (RecS×Value)):Know:=(Know.flat RRec v 7 l).and (Know.all l fun x=>Know.flat RHdr x.2 3 x.1.hdrs)
theorem zFt{K:Know}{v:Value}{l:List (RecS×Value)}(h:K.has (Know.recs v l)):K.has (Know.flat RRec v 7 l):=fun w F x=>(h w F x).1
theorem zBz{K:Know}{v:Value}{l:List (RecS×Value)}(h:K.has (Know.recs v l)){x:RecS×Value}(hx:x∈l):K.has (Know.flat RHdr x.2 3 x.1.hdrs):=fun w F y=>(h w F y).2 x hx
theorem zBZ{v:Value}{l:List (RecS×Value)}(hk:K.has (Know.recs v l))(h:St W0 w K L):∃q cap,v=.slice q l.length cap:=by
 obtain⟨F,hF,_⟩:=h.get;obtain⟨q,cap,hv,_⟩:=(zFt hk _ _ hF).at;exact⟨q,cap,hv⟩
theorem zCE{q:Option Addr}{n cap:Nat}{l:List (RecS×Value)}(hk:K.has (Know.recs (.slice q n cap) l))(h:St W0 w K L)(h0:0<l.length):∃b off,q=some ⟨b,off,none⟩:=by
 obtain⟨F,hF,_⟩:=h.get;obtain⟨q2,cap2,hv,hr⟩:=(zFt hk _ _ hF).at;obtain⟨b,off,hq,_⟩:=hr h0;simp at hv;exact⟨b,off,hv.1.trans hq⟩
theorem zBA{b off n cap:Nat}{l:List (RecS×Value)}(hk:K.has (Know.recs (.slice (some ⟨b,off,none⟩) n cap) l))(h:St W0 w K L)(i:Nat)(hi:i<l.length)(x:RecS×Value)(hx:l[i]=x):
  w.cell? ⟨b,off+(i*7),none⟩=some (.int .i64 x.1.time)∧w.cell? ⟨b,off+(i*7+1),none⟩=some (.int .i64 x.1.off)∧w.cell? ⟨b,off+(i*7+2),none⟩=some (.bool x.1.key.null)∧w.cell? ⟨b,off+(i*7+3),none⟩=some (.string (bb x.1.key.data))∧w.cell? ⟨b,off+(i*7+4),none⟩=some (.bool x.1.val.null)∧w.cell? ⟨b,off+(i*7+5),none⟩=some (.string (bb x.1.val.data))∧w.cell? ⟨b,off+(i*7+6),none⟩=some (x.2):=by
 subst hx;obtain⟨F,hF,_⟩:=h.get;obtain⟨q2,cap2,hv,hr⟩:=(zFt hk _ _ hF).at;obtain⟨b2,off2,hq,hc⟩:=hr (by omega);rw[hq]at hv;simp at hv;obtain⟨⟨rfl,rfl⟩,_,_⟩:=hv;obtain⟨cs,_,hR,hcs⟩:=hc i hi;unfold RRec at hR;subst hR;exact⟨hcs 0 _ rfl,hcs 1 _ rfl,hcs 2 _ rfl,hcs 3 _ rfl,hcs 4 _ rfl,hcs 5 _ rfl,hcs 6 _ rfl⟩
def zBb (l:List (RecS×Value)):Bs:=l.flatMap fun x=>encR x.1
theorem zKr(l:List (RecS×Value))(x:RecS×Value):zBb (l++[x])=zBb l++encR x.1:=by unfold zBb;simp
theorem zKq(l:List (RecS×Value))(k:Nat)(h:k<l.length):zBb (l.take (k+1))=zBb (l.take k)++encR l[k].1:=by rw[List.take_succ_eq_append_getElem h,zKr]
theorem zLP(x:RecS)(hx:x.R)(ho:zAV x=0)(hs:x.sum≤1000000)(r:Bs):zHB (encR x++r)=.ok (x,(encR x).length):=by
 have hle:=zFv x hx hs;have h1:=zBl ⟨false,recF x⟩ rfl (by simp only;omega) r;unfold zHB encR;rw[h1];simp only[Bool.false_eq_true,if_false];rw[zIF x hx ho hs]
def FitB (l:List (RecS×Value)):Prop:=∀x∈l,x.1.R∧HFit x.1.hdrs∧x.1.sum≤1000000
theorem zOB{x:RecS}(h:x.sum≤1000000):x.hdrs.length≤1000000:=by have:=zCJ x.hdrs;unfold RecS.sum at h;omega
theorem zKN{x:RecS}(h:x.sum≤1000000):x.key.data.length≤140737488355328∧x.val.data.length≤140737488355328:=by unfold RecS.sum at h;omega
theorem zDR(l:List (RecS×Value))(k:Nat)(h:k<l.length)(x:RecS)(hx:l[k].1=x):(l.map (·.1)).drop k=x::(l.map (·.1)).drop (k+1):=by
 subst hx;rw[List.drop_eq_getElem_cons (by simpa using h),List.getElem_map]
theorem zEg(first last:Int)(r:RecS)(t:List RecS)(ah g:Int):zIz first last (r::t) ah g=if r.off≤ah∨last<r.off then .error 13 else if r.time< -first∨9223372036854775807 - first<r.time then .error 11 else zIz first last t r.off (max g (first+r.time)):=rfl
theorem zAY{P:Program}{fn:Func}{p t:Tmp}{ty:TypeId}(h:fn.results= #[.cell p ty,.tmp t])(tmps:Array Value)(w:World)(b:Nat)(cs:List Value)(d:TypeDesc)
    (hp:tmps.getD p undef=.pointer (some ⟨b,0,none⟩))(hc:w.rangeAt b 0 cs)(hu:P.underlying ty=some d)(hd:d.isRow=true)(hi:(P.info? ty).map (·.size)=some cs.length):
    (results fn tmps).run P w=.ok (.tuple #[.agg cs.toArray,tmps.getD t undef]) w:=by
  have hp':tmps[p]?.getD undef=.pointer (some ⟨b,0,none⟩):=by simpa using hp
  simp[results,h,hp',asAddr,run_loadVar_mid w b 0 ty cs d hc hu hd hi]
theorem zAP{P:Program}{fn:Func}{p:Tmp}{ty:TypeId}(h:fn.results= #[.cell p ty])(tmps:Array Value)(w:World)(b:Nat)(cs:List Value)(d:TypeDesc)
    (hp:tmps.getD p undef=.pointer (some ⟨b,0,none⟩))(hc:w.rangeAt b 0 cs)(hu:P.underlying ty=some d)(hd:d.isRow=true)(hi:(P.info? ty).map (·.size)=some cs.length):
    (results fn tmps).run P w=.ok (.agg cs.toArray) w:=by
  have hp':tmps[p]?.getD undef=.pointer (some ⟨b,0,none⟩):=by simpa using hp
  simp[results,h,hp',asAddr,run_loadVar_mid w b 0 ty cs d hc hu hd hi]
theorem zAo{b:Nat}{c:List Value}{T:TypeId}(h:St W0 w K (.raw b c.toArray T::L)):w.rangeAt b 0 c:=by
 intro j v hv;rw[Nat.zero_add,h.rawCell j]
 simpa using hv
theorem zOU{b:Nat}{a0 a1 a2 a3 a4:Value}{T:TypeId}(h:St W0 w K (.raw b #[a0,a1,a2,a3,a4] T::L)):
  (w.cell? ⟨b,0,none⟩=some a0∧w.cell? ⟨b,1,none⟩=some a1∧w.cell? ⟨b,2,none⟩=some a2∧w.cell? ⟨b,3,none⟩=some a3∧w.cell? ⟨b,4,none⟩=some a4)∧
  (w.frozen? ⟨b,0,none⟩=false∧w.frozen? ⟨b,1,none⟩=false∧w.frozen? ⟨b,2,none⟩=false∧w.frozen? ⟨b,3,none⟩=false∧w.frozen? ⟨b,4,none⟩=false):=
 ⟨⟨(h.rawCell 0).trans rfl,(h.rawCell 1).trans rfl,(h.rawCell 2).trans rfl,(h.rawCell 3).trans rfl,(h.rawCell 4).trans rfl⟩,h.rawFree 0,h.rawFree 1,h.rawFree 2,h.rawFree 3,h.rawFree 4⟩
theorem St.sets12{b:Nat}{T:TypeId}{a0 a1 a2 a3 a4 a5 a6 a7 a8 a9 a10 a11:Value}(v0 v1 v2 v3 v4 v5 v6 v7 v8 v9 v10 v11:Value)(h:St W0 w K (.raw b #[a0,a1,a2,a3,a4,a5,a6,a7,a8,a9,a10,a11] T::L)):St W0 ((((((((((((w.setCell ⟨b,0,none⟩ v0).setCell ⟨b,1,none⟩ v1).setCell ⟨b,2,none⟩ v2).setCell ⟨b,3,none⟩ v3).setCell ⟨b,4,none⟩ v4).setCell ⟨b,5,none⟩ v5).setCell ⟨b,6,none⟩ v6).setCell ⟨b,7,none⟩ v7).setCell ⟨b,8,none⟩ v8).setCell ⟨b,9,none⟩ v9).setCell ⟨b,10,none⟩ v10).setCell ⟨b,11,none⟩ v11) K (.raw b #[v0,v1,v2,v3,v4,v5,v6,v7,v8,v9,v10,v11] T::L):=by
 have h:St W0 _ K (.raw b #[v0,a1,a2,a3,a4,a5,a6,a7,a8,a9,a10,a11] T::L):=h.rawSet 0 v0;have h:St W0 _ K (.raw b #[v0,v1,a2,a3,a4,a5,a6,a7,a8,a9,a10,a11] T::L):=h.rawSet 1 v1;have h:St W0 _ K (.raw b #[v0,v1,v2,a3,a4,a5,a6,a7,a8,a9,a10,a11] T::L):=h.rawSet 2 v2;have h:St W0 _ K (.raw b #[v0,v1,v2,v3,a4,a5,a6,a7,a8,a9,a10,a11] T::L):=h.rawSet 3 v3;have h:St W0 _ K (.raw b #[v0,v1,v2,v3,v4,a5,a6,a7,a8,a9,a10,a11] T::L):=h.rawSet 4 v4;have h:St W0 _ K (.raw b #[v0,v1,v2,v3,v4,v5,a6,a7,a8,a9,a10,a11] T::L):=h.rawSet 5 v5;have h:St W0 _ K (.raw b #[v0,v1,v2,v3,v4,v5,v6,a7,a8,a9,a10,a11] T::L):=h.rawSet 6 v6;have h:St W0 _ K (.raw b #[v0,v1,v2,v3,v4,v5,v6,v7,a8,a9,a10,a11] T::L):=h.rawSet 7 v7;have h:St W0 _ K (.raw b #[v0,v1,v2,v3,v4,v5,v6,v7,v8,a9,a10,a11] T::L):=h.rawSet 8 v8;have h:St W0 _ K (.raw b #[v0,v1,v2,v3,v4,v5,v6,v7,v8,v9,a10,a11] T::L):=h.rawSet 9 v9;have h:St W0 _ K (.raw b #[v0,v1,v2,v3,v4,v5,v6,v7,v8,v9,v10,a11] T::L):=h.rawSet 10 v10;have h:St W0 _ K (.raw b #[v0,v1,v2,v3,v4,v5,v6,v7,v8,v9,v10,v11] T::L):=h.rawSet 11 v11;exact h
def zDs (b:BatS):Int×Int×Int×Int×Int×Bool:=
  if b.ctl=true∧zAc b=0 then match b.recs with
    |x::_=>(b.prod,b.epoch,(zEy x).1,b.first+x.time,(zEy x).2.1,true)
    |[]=>(0,0,0,0,0,false)
  else(0,0,0,0,0,false)
theorem zLK{first last:Int}{x:RecS}{t:List RecS}{ah g g2:Int}(h:zIz first last (x::t) ah g=.ok g2): -first≤x.time∧x.time≤9223372036854775807 - first:=by
 rw[zEg]at h
 by_cases c1:x.off≤ah∨last<x.off
 · rw[if_pos c1]at h;cases h
 rw[if_neg c1]at h
 by_cases c2:x.time< -first∨9223372036854775807 - first<x.time
 · rw[if_pos c2]at h;cases h
 omega
theorem zMy(b:BatS)(h:zAc b=0)(hc:b.ctl=true):∃x,b.recs=[x]∧(zEy x).2.2=0∧(-b.first≤x.time∧x.time≤9223372036854775807 - b.first)∧0≤b.first:=by
 unfold zAc at h
 by_cases p1:b.placed=false
 · rw[if_pos p1]at h;cases h
 rw[if_neg p1]at h
 by_cases p2:b.ctl=true∧b.txn=false
 · rw[if_pos p2]at h;cases h
 rw[if_neg p2]at h
 by_cases p3:b.signed=false
 · rw[if_pos p3]at h;cases h
 rw[if_neg p3]at h
 by_cases p4:b.ctl=true∧b.recs.length≠1
 · rw[if_pos p4]at h;cases h
 rw[if_neg p4]at h
 by_cases p5:zCw b.recs≠0
 · rw[if_pos p5]at h;exact absurd h p5
 rw[if_neg p5]at h
 by_cases p6:b.ctl=true∧b.ends≠0
 · rw[if_pos p6]at h;exact absurd h p6.2
 rw[if_neg p6]at h
 have hl:b.recs.length=1:=by
  by_cases hh:b.recs.length=1
  · exact hh
  · exact absurd ⟨hc,hh⟩ p4
 obtain⟨x,hx⟩:=List.length_eq_one_iff.1 hl
 have hp:b.placed=true:=by cases hh:b.placed with
  |false=>exact absurd hh p1
  |true=>rfl
 have hp2:=(of_decide_eq_true hp).2.2.2.2.1
 have he:b.ends=0:=by
  by_cases hh:b.ends=0
  · exact hh
  · exact absurd ⟨hc,hh⟩ p6
 unfold BatS.ends at he;rw[hx]at he;refine⟨x,hx,he,?_,hp2⟩;unfold BatS.rows at h;rw[hx]at h
 cases hr:zIz b.first b.last [x] (-1) b.first with
 |error e=>
  rw[hr]at h;have h:e=0:=h;subst h;rw[zEg]at hr
  by_cases c1:x.off≤ -1∨b.last<x.off
  · rw[if_pos c1]at hr;cases hr
  rw[if_neg c1]at hr
  by_cases c2:x.time< -b.first∨9223372036854775807 - b.first<x.time
  · rw[if_pos c2]at hr;cases hr
  rw[if_neg c2]at hr
  cases hr
 |ok g=>exact zLK hr
theorem zHW:zDw Tryz.prog 54 (.agg #[.int .i64 0,.int .i64 0,.bool false,.string ⟨#[]⟩,.bool false,.string ⟨#[]⟩,.slice none 0 0]) 7 88:=zBv (by kernel_rfl) rfl (by decide)
def zH6 (x:RecS) (r:Except Int (List RecS)):Except Int (List RecS):=match r with| .ok t=> .ok (x::t)| .error e=> .error e
def unp:Nat→InS→Except Int (List RecS)
  |0,i=>if i.left=0 then .ok []else .error 10
  |n+1,i=>if i.left=0 then .error 10 else if i.record.2.err=0 then zH6 i.record.1 (unp n i.record.2)else .error i.record.2.err
def preU (acc:List RecS) (r:Except Int (List RecS)):Except Int (List RecS):=match r with| .ok t=> .ok (acc++t)| .error e=> .error e
theorem zK3(r:Except Int (List RecS)):preU [] r=r:=by cases r<;>rfl
theorem zIM(acc:List RecS)(x:RecS)(r:Except Int (List RecS)):preU (acc++[x]) r=preU acc (zH6 x r):=by
 cases r with
 |error e=>rfl
 |ok t=>simp[preU,zH6]
theorem zEc(p:Nat)(i:InS)(n:Nat)(hx:i.left=n)(h:St W0 w K (.inp p i::L)):
  Calls Tryz.prog 185 #[zAs p] w fun en w'=>en=.returned (.int .i64 n)∧St W0 w' K (.inp p i::L):=by
 subst hx;exact zM2 p i h
theorem zCC(p:Nat)(i:InS)(e:Int)(hx:i.err=e)(h:St W0 w K (.inp p i::L)):
  Calls Tryz.prog 168 #[zAs p] w fun en w'=>en=.returned (.int .i64 e)∧St W0 w' K (.inp p i::L):=by
 subst hx;exact zGj p i h
set_option maxHeartbeats 1000000
set_option maxRecDepth 100000
variable {W0 w:World}{K:Know}{L:List Res}
structure PreS where
  base:Int
  len:Int
  leader:Int
  sum:Int
  attr:Int
  last:Int
  first:Int
  maxt:Int
  prod:Int
  epoch:Int
  seq:Int
  count:Int
deriving DecidableEq
def pv (x:PreS):Value:=.agg #[.int .i64 x.base,.int .i64 x.len,.int .i64 x.leader,.int .i64 x.sum,.int .i64 x.attr,.int .i64 x.last,.int .i64 x.first,.int .i64 x.maxt,.int .i64 x.prod,.int .i64 x.epoch,.int .i64 x.seq,.int .i64 x.count]
def PreS.list (x:PreS):List Int:=[x.base,x.len,x.leader,x.sum,x.attr,x.last,x.first,x.maxt,x.prod,x.epoch,x.seq,x.count]
def PreS.R (x:PreS):Prop:=∀n∈x.list,-9223372036854775808≤n∧n<9223372036854775808
def PreS.zero:PreS:=⟨0,0,0,0,0,0,0,0,0,0,0,0⟩
def zAE (n:Int):Int:=if n<0∨4294967295<n then 4294967296 else if 2147483647<n then n - 4294967296 else n
def PreS.items (x:PreS):List (Int×Nat):=[(x.base,8),(x.len,4),(x.leader,4),(2,1),(zAE x.sum,4),(x.attr,2),(x.last,4),(x.first,8),(x.maxt,8),(x.prod,8),(x.epoch,2),(x.seq,4),(x.count,4)]
def zAD:List Nat:=[8,4,4,1,4,2,4,8,8,8,2,4,4]
theorem zDz(n:Int): -9223372036854775808≤zAE n∧zAE n<9223372036854775808:=by
 unfold zAE;split
 · omega
 · split<;>omega
theorem zLl(n:Int)(h0:¬n<0)(h1:¬4294967295<n):wrap32 n=zAE n:=by
 have e:wrap32 n=(n+2147483648) % 4294967296 - 2147483648:=by unfold wrap32;rfl
 rw[e];unfold zAE;rw[if_neg (by omega)]
 split<;>omega
theorem OutS.okI{o:OutS}{a b:Int}{m:Nat}(h:o.ok (m+8)):(o.int a b).ok m:=OutS.ok_int h (by omega)
theorem OutS.int_bad(o:OutS)(n:Int)(h:n<0∨4294967295<n):o.int (zAE n) 4=o.fail 11:=by
 have e:zAE n=4294967296:=if_pos h;rw[e];unfold OutS.int;rw[if_neg (by decide)]
theorem zHJ(p:Nat)(o:OutS)(n:Int)(_: -9223372036854775808≤n∧n<9223372036854775808)(h:St W0 w K (.out p o::L))(hr:o.ok 8):
   Calls Tryz.prog 149 #[zAR p,.int .i64 n] w fun en w'=>en=.returned (.tuple #[])∧St W0 w' K (.out p (o.int (zAE n) 4)::L):=by
 have H:=hQd h;have HR:=hQd hr;clear h hr
 by_cases h0:n<0
 · have E:=hQd (OutS.int_bad o n (.inl h0)).symm;go_enter Tryz.func149,Tryz.ntmps149;go_wp2_with (go_at_call 145;refine(zHo _ _ _ stQ).mono ?_;(repeat first|rw[E.out]);rintro e wn ⟨rfl,h⟩;replace H:=hQd h;clear h);refine bodyPost_ret (results_none rfl _ _ _) rfl ⟨rfl,H.out⟩
 by_cases h1:4294967295<n
 · have E:=hQd (OutS.int_bad o n (.inr h1)).symm;go_enter Tryz.func149,Tryz.ntmps149;go_wp2_with (go_at_call 145;refine(zHo _ _ _ stQ).mono ?_;(repeat first|rw[E.out]);rintro e wn ⟨rfl,h⟩;replace H:=hQd h;clear h);refine bodyPost_ret (results_none rfl _ _ _) rfl ⟨rfl,H.out⟩
 · have HW2:=hQd (zLl n h0 h1);have HS:=hQd (zDz n);have HS2:=hQd (wrap64_in _ HS.out.1 HS.out.2);go_enter Tryz.func149,Tryz.ntmps149;go_wp2_with (go_at_call 148;rw[show wrap64 (wrap32 n)=zAE n from by rw[HW2.out];exact HS2.out];refine(zPD _ _ _ _ HS.out H.out HR.out).mono ?_;rintro e wn ⟨rfl,h⟩;replace H:=hQd h;clear h);go_end0;exact⟨rfl,H.out⟩
theorem zIL(p:Nat)(o:OutS)(x:PreS)(hx:x.R)(h:St W0 w K (.out p o::L))(hr:o.ok 200):
  Calls Tryz.prog 121 #[zAR p,pv x] w fun en w'=>en=.returned (.tuple #[])∧St W0 w' K (.out p (o.ints x.items)::L):=by
 have H:=hQd (h.allocRaw #[.int .i64 x.base,.int .i64 x.len,.int .i64 x.leader,.int .i64 x.sum,.int .i64 x.attr,.int .i64 x.last,.int .i64 x.first,.int .i64 x.maxt,.int .i64 x.prod,.int .i64 x.epoch,.int .i64 x.seq,.int .i64 x.count] 130).p1;have HR:=hQd hr;have N0:=hQd (hx x.base (by simp[PreS.list]));have N1:=hQd (hx x.len (by simp[PreS.list]));have N2:=hQd (hx x.leader (by simp[PreS.list]));have N3:=hQd (hx x.sum (by simp[PreS.list]));have N4:=hQd (hx x.attr (by simp[PreS.list]));have N5:=hQd (hx x.last (by simp[PreS.list]));have N6:=hQd (hx x.first (by simp[PreS.list]));have N7:=hQd (hx x.maxt (by simp[PreS.list]));have N8:=hQd (hx x.prod (by simp[PreS.list]));have N9:=hQd (hx x.epoch (by simp[PreS.list]));have N10:=hQd (hx x.seq (by simp[PreS.list]));have N11:=hQd (hx x.count (by simp[PreS.list]));have HS:=hQd (zDz x.sum);clear h hr hx;go_enter Tryz.func121,Tryz.ntmps121;unfold pv
 go_wp2_with (first
  |(go_at_call 148;refine(zPD _ _ _ _ (by first|exact N0.out|exact N1.out|exact N2.out|exact N3.out|exact N4.out|exact N5.out|exact N6.out|exact N7.out|exact N8.out|exact N9.out|exact N10.out|exact N11.out|decide) stQ (by repeat (first|exact OutS.ok_mono HR.out (by decide)|with_reducible refine OutS.okI ?_))).mono ?_;rintro e wn ⟨rfl,h⟩;replace H:=hQd h;clear h;have c0:=H.out.cellOf (b:=w.heap.size) (c:= #[.int .i64 x.base,.int .i64 x.len,.int .i64 x.leader,.int .i64 x.sum,.int .i64 x.attr,.int .i64 x.last,.int .i64 x.first,.int .i64 x.maxt,.int .i64 x.prod,.int .i64 x.epoch,.int .i64 x.seq,.int .i64 x.count]) (T:=130) (by simp) 0;have c1:=H.out.cellOf (b:=w.heap.size) (c:= #[.int .i64 x.base,.int .i64 x.len,.int .i64 x.leader,.int .i64 x.sum,.int .i64 x.attr,.int .i64 x.last,.int .i64 x.first,.int .i64 x.maxt,.int .i64 x.prod,.int .i64 x.epoch,.int .i64 x.seq,.int .i64 x.count]) (T:=130) (by simp) 1;have c2:=H.out.cellOf (b:=w.heap.size) (c:= #[.int .i64 x.base,.int .i64 x.len,.int .i64 x.leader,.int .i64 x.sum,.int .i64 x.attr,.int .i64 x.last,.int .i64 x.first,.int .i64 x.maxt,.int .i64 x.prod,.int .i64 x.epoch,.int .i64 x.seq,.int .i64 x.count]) (T:=130) (by simp) 2;have c3:=H.out.cellOf (b:=w.heap.size) (c:= #[.int .i64 x.base,.int .i64 x.len,.int .i64 x.leader,.int .i64 x.sum,.int .i64 x.attr,.int .i64 x.last,.int .i64 x.first,.int .i64 x.maxt,.int .i64 x.prod,.int .i64 x.epoch,.int .i64 x.seq,.int .i64 x.count]) (T:=130) (by simp) 3;have c4:=H.out.cellOf (b:=w.heap.size) (c:= #[.int .i64 x.base,.int .i64 x.len,.int .i64 x.leader,.int .i64 x.sum,.int .i64 x.attr,.int .i64 x.last,.int .i64 x.first,.int .i64 x.maxt,.int .i64 x.prod,.int .i64 x.epoch,.int .i64 x.seq,.int .i64 x.count]) (T:=130) (by simp) 4;have c5:=H.out.cellOf (b:=w.heap.size) (c:= #[.int .i64 x.base,.int .i64 x.len,.int .i64 x.leader,.int .i64 x.sum,.int .i64 x.attr,.int .i64 x.last,.int .i64 x.first,.int .i64 x.maxt,.int .i64 x.prod,.int .i64 x.epoch,.int .i64 x.seq,.int .i64 x.count]) (T:=130) (by simp) 5;have c6:=H.out.cellOf (b:=w.heap.size) (c:= #[.int .i64 x.base,.int .i64 x.len,.int .i64 x.leader,.int .i64 x.sum,.int .i64 x.attr,.int .i64 x.last,.int .i64 x.first,.int .i64 x.maxt,.int .i64 x.prod,.int .i64 x.epoch,.int .i64 x.seq,.int .i64 x.count]) (T:=130) (by simp) 6;have c7:=H.out.cellOf (b:=w.heap.size) (c:= #[.int .i64 x.base,.int .i64 x.len,.int .i64 x.leader,.int .i64 x.sum,.int .i64 x.attr,.int .i64 x.last,.int .i64 x.first,.int .i64 x.maxt,.int .i64 x.prod,.int .i64 x.epoch,.int .i64 x.seq,.int .i64 x.count]) (T:=130) (by simp) 7;have c8:=H.out.cellOf (b:=w.heap.size) (c:= #[.int .i64 x.base,.int .i64 x.len,.int .i64 x.leader,.int .i64 x.sum,.int .i64 x.attr,.int .i64 x.last,.int .i64 x.first,.int .i64 x.maxt,.int .i64 x.prod,.int .i64 x.epoch,.int .i64 x.seq,.int .i64 x.count]) (T:=130) (by simp) 8;have c9:=H.out.cellOf (b:=w.heap.size) (c:= #[.int .i64 x.base,.int .i64 x.len,.int .i64 x.leader,.int .i64 x.sum,.int .i64 x.attr,.int .i64 x.last,.int .i64 x.first,.int .i64 x.maxt,.int .i64 x.prod,.int .i64 x.epoch,.int .i64 x.seq,.int .i64 x.count]) (T:=130) (by simp) 9;have c10:=H.out.cellOf (b:=w.heap.size) (c:= #[.int .i64 x.base,.int .i64 x.len,.int .i64 x.leader,.int .i64 x.sum,.int .i64 x.attr,.int .i64 x.last,.int .i64 x.first,.int .i64 x.maxt,.int .i64 x.prod,.int .i64 x.epoch,.int .i64 x.seq,.int .i64 x.count]) (T:=130) (by simp) 10;have c11:=H.out.cellOf (b:=w.heap.size) (c:= #[.int .i64 x.base,.int .i64 x.len,.int .i64 x.leader,.int .i64 x.sum,.int .i64 x.attr,.int .i64 x.last,.int .i64 x.first,.int .i64 x.maxt,.int .i64 x.prod,.int .i64 x.epoch,.int .i64 x.seq,.int .i64 x.count]) (T:=130) (by simp) 11;simp at c0 c1 c2 c3 c4 c5 c6 c7 c8 c9 c10 c11)
  |(go_at_call 149;refine(zHJ _ _ _ (by first|exact N0.out|exact N1.out|exact N2.out|exact N3.out|exact N4.out|exact N5.out|exact N6.out|exact N7.out|exact N8.out|exact N9.out|exact N10.out|exact N11.out|decide) stQ (by repeat (first|exact OutS.ok_mono HR.out (by decide)|with_reducible refine OutS.okI ?_))).mono ?_;rintro e wn ⟨rfl,h⟩;replace H:=hQd h;clear h;have c0:=H.out.cellOf (b:=w.heap.size) (c:= #[.int .i64 x.base,.int .i64 x.len,.int .i64 x.leader,.int .i64 x.sum,.int .i64 x.attr,.int .i64 x.last,.int .i64 x.first,.int .i64 x.maxt,.int .i64 x.prod,.int .i64 x.epoch,.int .i64 x.seq,.int .i64 x.count]) (T:=130) (by simp) 0;have c1:=H.out.cellOf (b:=w.heap.size) (c:= #[.int .i64 x.base,.int .i64 x.len,.int .i64 x.leader,.int .i64 x.sum,.int .i64 x.attr,.int .i64 x.last,.int .i64 x.first,.int .i64 x.maxt,.int .i64 x.prod,.int .i64 x.epoch,.int .i64 x.seq,.int .i64 x.count]) (T:=130) (by simp) 1;have c2:=H.out.cellOf (b:=w.heap.size) (c:= #[.int .i64 x.base,.int .i64 x.len,.int .i64 x.leader,.int .i64 x.sum,.int .i64 x.attr,.int .i64 x.last,.int .i64 x.first,.int .i64 x.maxt,.int .i64 x.prod,.int .i64 x.epoch,.int .i64 x.seq,.int .i64 x.count]) (T:=130) (by simp) 2;have c3:=H.out.cellOf (b:=w.heap.size) (c:= #[.int .i64 x.base,.int .i64 x.len,.int .i64 x.leader,.int .i64 x.sum,.int .i64 x.attr,.int .i64 x.last,.int .i64 x.first,.int .i64 x.maxt,.int .i64 x.prod,.int .i64 x.epoch,.int .i64 x.seq,.int .i64 x.count]) (T:=130) (by simp) 3;have c4:=H.out.cellOf (b:=w.heap.size) (c:= #[.int .i64 x.base,.int .i64 x.len,.int .i64 x.leader,.int .i64 x.sum,.int .i64 x.attr,.int .i64 x.last,.int .i64 x.first,.int .i64 x.maxt,.int .i64 x.prod,.int .i64 x.epoch,.int .i64 x.seq,.int .i64 x.count]) (T:=130) (by simp) 4;have c5:=H.out.cellOf (b:=w.heap.size) (c:= #[.int .i64 x.base,.int .i64 x.len,.int .i64 x.leader,.int .i64 x.sum,.int .i64 x.attr,.int .i64 x.last,.int .i64 x.first,.int .i64 x.maxt,.int .i64 x.prod,.int .i64 x.epoch,.int .i64 x.seq,.int .i64 x.count]) (T:=130) (by simp) 5;have c6:=H.out.cellOf (b:=w.heap.size) (c:= #[.int .i64 x.base,.int .i64 x.len,.int .i64 x.leader,.int .i64 x.sum,.int .i64 x.attr,.int .i64 x.last,.int .i64 x.first,.int .i64 x.maxt,.int .i64 x.prod,.int .i64 x.epoch,.int .i64 x.seq,.int .i64 x.count]) (T:=130) (by simp) 6;have c7:=H.out.cellOf (b:=w.heap.size) (c:= #[.int .i64 x.base,.int .i64 x.len,.int .i64 x.leader,.int .i64 x.sum,.int .i64 x.attr,.int .i64 x.last,.int .i64 x.first,.int .i64 x.maxt,.int .i64 x.prod,.int .i64 x.epoch,.int .i64 x.seq,.int .i64 x.count]) (T:=130) (by simp) 7;have c8:=H.out.cellOf (b:=w.heap.size) (c:= #[.int .i64 x.base,.int .i64 x.len,.int .i64 x.leader,.int .i64 x.sum,.int .i64 x.attr,.int .i64 x.last,.int .i64 x.first,.int .i64 x.maxt,.int .i64 x.prod,.int .i64 x.epoch,.int .i64 x.seq,.int .i64 x.count]) (T:=130) (by simp) 8;have c9:=H.out.cellOf (b:=w.heap.size) (c:= #[.int .i64 x.base,.int .i64 x.len,.int .i64 x.leader,.int .i64 x.sum,.int .i64 x.attr,.int .i64 x.last,.int .i64 x.first,.int .i64 x.maxt,.int .i64 x.prod,.int .i64 x.epoch,.int .i64 x.seq,.int .i64 x.count]) (T:=130) (by simp) 9;have c10:=H.out.cellOf (b:=w.heap.size) (c:= #[.int .i64 x.base,.int .i64 x.len,.int .i64 x.leader,.int .i64 x.sum,.int .i64 x.attr,.int .i64 x.last,.int .i64 x.first,.int .i64 x.maxt,.int .i64 x.prod,.int .i64 x.epoch,.int .i64 x.seq,.int .i64 x.count]) (T:=130) (by simp) 10;have c11:=H.out.cellOf (b:=w.heap.size) (c:= #[.int .i64 x.base,.int .i64 x.len,.int .i64 x.leader,.int .i64 x.sum,.int .i64 x.attr,.int .i64 x.last,.int .i64 x.first,.int .i64 x.maxt,.int .i64 x.prod,.int .i64 x.epoch,.int .i64 x.seq,.int .i64 x.count]) (T:=130) (by simp) 11;simp at c0 c1 c2 c3 c4 c5 c6 c7 c8 c9 c10 c11))
 go_end0;exact⟨rfl,H.out.p1.drop⟩
variable {W0 w:World}{K:Know}{L:List Res}
theorem St.set1_Pre2{r:Res}{b j:Nat}{c:Array Value}{T:TypeId}{v:Value}(h:St W0 w K (r::.raw b c T::L)):St W0 (w.setCell ⟨b,j,none⟩ v) K (r::.raw b (c.setIfInBounds j v) T::L):=(h.p1.rawSet j v).p1
theorem zCQ(n:Int):bits .and .i64 n 4294967295=n % 4294967296:=by
 rw[zJD];have e1:((4294967295:Int) % 18446744073709551616).toNat=2 ^ 32 - 1:=by decide
 rw[e1,Nat.and_two_pow_sub_one_eq_mod];have h:(0:Int)≤n % 18446744073709551616:=Int.emod_nonneg _ (by decide);rw[IntKind.wrap_i64]
 omega
theorem zAH(p:Nat)(i i1 i2 i3 i4 i5 i6 i7 i8 i9 i10 i11 i12 i13:InS)(a0 a1 a2 a3 a4 a5 a6 a7 a8 a9 a10 a11 a12 sm:Int)(e0:i.int 8=(a0,i1))(e1:i1.int 4=(a1,i2))(e2:i2.int 4=(a2,i3))(e3:i3.int 1=(a3,i4))(e4:i4.int 4=(a4,i5))(e5:i5.int 2=(a5,i6))(e6:i6.int 4=(a6,i7))(e7:i7.int 8=(a7,i8))(e8:i8.int 8=(a8,i9))(e9:i9.int 8=(a9,i10))(e10:i10.int 2=(a10,i11))(e11:i11.int 4=(a11,i12))(e12:i12.int 4=(a12,i13))(hsm:bits .and .i64 a4 4294967295=sm)(h:St W0 w K (.inp p i::L)):
  Calls Tryz.prog 198 #[zAs p] w fun en w'=>en=.returned (.tuple #[.agg #[.int .i64 a0,.int .i64 a1,.int .i64 a2,.int .i64 sm,.int .i64 a5,.int .i64 a6,.int .i64 a7,.int .i64 a8,.int .i64 a9,.int .i64 a10,.int .i64 a11,.int .i64 a12],.int .i64 a3])∧St W0 w' K (.inp p i13::L):=by
 have H:=hQd (h.allocRaw #[.int .i64 0,.int .i64 0,.int .i64 0,.int .i64 0,.int .i64 0,.int .i64 0,.int .i64 0,.int .i64 0,.int .i64 0,.int .i64 0,.int .i64 0,.int .i64 0] 130).p1;have E0:=hQd e0;have tok0:True:=trivial;have E1:=hQd e1;have tok1:True:=trivial;have E2:=hQd e2;have tok2:True:=trivial;have E3:=hQd e3;have tok3:True:=trivial;have E4:=hQd e4;have tok4:True:=trivial;have E5:=hQd e5;have tok5:True:=trivial;have E6:=hQd e6;have tok6:True:=trivial;have E7:=hQd e7;have tok7:True:=trivial;have E8:=hQd e8;have tok8:True:=trivial;have E9:=hQd e9;have tok9:True:=trivial;have E10:=hQd e10;have tok10:True:=trivial;have E11:=hQd e11;have tok11:True:=trivial;have E12:=hQd e12;have tok12:True:=trivial;clear h e0 e1 e2 e3 e4 e5 e6 e7 e8 e9 e10 e11 e12;go_enter Tryz.func198,Tryz.ntmps198
 go_wp2_with (first
  |(go_at_call 157;have _t:=tok0;clear _t;(with_reducible refine(zCc _ i 8 H.out).mono ?_);rw[E0.out];rintro e wn ⟨rfl,h⟩;replace H:=hQd (show St W0 wn K (.inp p i1::.raw w.heap.size #[.int .i64 0,.int .i64 0,.int .i64 0,.int .i64 0,.int .i64 0,.int .i64 0,.int .i64 0,.int .i64 0,.int .i64 0,.int .i64 0,.int .i64 0,.int .i64 0] 130::L)from h);clear h tok0;have z0:=H.out.p1.rawCell 0;have z1:=H.out.p1.rawFree 0;simp at z0)
  |(go_at_call 157;have _t:=tok1;clear _t;(with_reducible refine(zCc _ i1 4 (St.set1_Pre2 H.out)).mono ?_);rw[E1.out];rintro e wn ⟨rfl,h⟩;replace H:=hQd (show St W0 wn K (.inp p i2::.raw w.heap.size #[.int .i64 a0,.int .i64 0,.int .i64 0,.int .i64 0,.int .i64 0,.int .i64 0,.int .i64 0,.int .i64 0,.int .i64 0,.int .i64 0,.int .i64 0,.int .i64 0] 130::L)from h);clear h tok1;have z0:=H.out.p1.rawCell 1;have z1:=H.out.p1.rawFree 1;simp at z0)
  |(go_at_call 157;have _t:=tok2;clear _t;(with_reducible refine(zCc _ i2 4 (St.set1_Pre2 H.out)).mono ?_);rw[E2.out];rintro e wn ⟨rfl,h⟩;replace H:=hQd (show St W0 wn K (.inp p i3::.raw w.heap.size #[.int .i64 a0,.int .i64 a1,.int .i64 0,.int .i64 0,.int .i64 0,.int .i64 0,.int .i64 0,.int .i64 0,.int .i64 0,.int .i64 0,.int .i64 0,.int .i64 0] 130::L)from h);clear h tok2;have z0:=H.out.p1.rawCell 2;have z1:=H.out.p1.rawFree 2;simp at z0)
  |(go_at_call 157;have _t:=tok3;clear _t;(with_reducible refine(zCc _ i3 1 (St.set1_Pre2 H.out)).mono ?_);rw[E3.out];rintro e wn ⟨rfl,h⟩;replace H:=hQd (show St W0 wn K (.inp p i4::.raw w.heap.size #[.int .i64 a0,.int .i64 a1,.int .i64 a2,.int .i64 0,.int .i64 0,.int .i64 0,.int .i64 0,.int .i64 0,.int .i64 0,.int .i64 0,.int .i64 0,.int .i64 0] 130::L)from h);clear h tok3;have z0:=H.out.p1.rawCell 0;have z1:=H.out.p1.rawFree 0;simp at z0)
  |(go_at_call 157;have _t:=tok4;clear _t;(with_reducible refine(zCc _ i4 4 H.out).mono ?_);rw[E4.out];rintro e wn ⟨rfl,h⟩;replace H:=hQd (show St W0 wn K (.inp p i5::.raw w.heap.size #[.int .i64 a0,.int .i64 a1,.int .i64 a2,.int .i64 0,.int .i64 0,.int .i64 0,.int .i64 0,.int .i64 0,.int .i64 0,.int .i64 0,.int .i64 0,.int .i64 0] 130::L)from h);clear h tok4;have z0:=H.out.p1.rawCell 3;have z1:=H.out.p1.rawFree 3;simp at z0)
  |(go_at_call 157;have _t:=tok5;clear _t;(with_reducible refine(zCc _ i5 2 (St.set1_Pre2 H.out)).mono ?_);rw[E5.out];rintro e wn ⟨rfl,h⟩;replace H:=hQd (show St W0 wn K (.inp p i6::.raw w.heap.size #[.int .i64 a0,.int .i64 a1,.int .i64 a2,.int .i64 sm,.int .i64 0,.int .i64 0,.int .i64 0,.int .i64 0,.int .i64 0,.int .i64 0,.int .i64 0,.int .i64 0] 130::L)from h);clear h tok5;have z0:=H.out.p1.rawCell 4;have z1:=H.out.p1.rawFree 4;simp at z0)
  |(go_at_call 157;have _t:=tok6;clear _t;(with_reducible refine(zCc _ i6 4 (St.set1_Pre2 H.out)).mono ?_);rw[E6.out];rintro e wn ⟨rfl,h⟩;replace H:=hQd (show St W0 wn K (.inp p i7::.raw w.heap.size #[.int .i64 a0,.int .i64 a1,.int .i64 a2,.int .i64 sm,.int .i64 a5,.int .i64 0,.int .i64 0,.int .i64 0,.int .i64 0,.int .i64 0,.int .i64 0,.int .i64 0] 130::L)from h);clear h tok6;have z0:=H.out.p1.rawCell 5;have z1:=H.out.p1.rawFree 5;simp at z0)
  |(go_at_call 157;have _t:=tok7;clear _t;(with_reducible refine(zCc _ i7 8 (St.set1_Pre2 H.out)).mono ?_);rw[E7.out];rintro e wn ⟨rfl,h⟩;replace H:=hQd (show St W0 wn K (.inp p i8::.raw w.heap.size #[.int .i64 a0,.int .i64 a1,.int .i64 a2,.int .i64 sm,.int .i64 a5,.int .i64 a6,.int .i64 0,.int .i64 0,.int .i64 0,.int .i64 0,.int .i64 0,.int .i64 0] 130::L)from h);clear h tok7;have z0:=H.out.p1.rawCell 6;have z1:=H.out.p1.rawFree 6;simp at z0)
  |(go_at_call 157;have _t:=tok8;clear _t;(with_reducible refine(zCc _ i8 8 (St.set1_Pre2 H.out)).mono ?_);rw[E8.out];rintro e wn ⟨rfl,h⟩;replace H:=hQd (show St W0 wn K (.inp p i9::.raw w.heap.size #[.int .i64 a0,.int .i64 a1,.int .i64 a2,.int .i64 sm,.int .i64 a5,.int .i64 a6,.int .i64 a7,.int .i64 0,.int .i64 0,.int .i64 0,.int .i64 0,.int .i64 0] 130::L)from h);clear h tok8;have z0:=H.out.p1.rawCell 7;have z1:=H.out.p1.rawFree 7;simp at z0)
  |(go_at_call 157;have _t:=tok9;clear _t;(with_reducible refine(zCc _ i9 8 (St.set1_Pre2 H.out)).mono ?_);rw[E9.out];rintro e wn ⟨rfl,h⟩;replace H:=hQd (show St W0 wn K (.inp p i10::.raw w.heap.size #[.int .i64 a0,.int .i64 a1,.int .i64 a2,.int .i64 sm,.int .i64 a5,.int .i64 a6,.int .i64 a7,.int .i64 a8,.int .i64 0,.int .i64 0,.int .i64 0,.int .i64 0] 130::L)from h);clear h tok9;have z0:=H.out.p1.rawCell 8;have z1:=H.out.p1.rawFree 8;simp at z0)
  |(go_at_call 157;have _t:=tok10;clear _t;(with_reducible refine(zCc _ i10 2 (St.set1_Pre2 H.out)).mono ?_);rw[E10.out];rintro e wn ⟨rfl,h⟩;replace H:=hQd (show St W0 wn K (.inp p i11::.raw w.heap.size #[.int .i64 a0,.int .i64 a1,.int .i64 a2,.int .i64 sm,.int .i64 a5,.int .i64 a6,.int .i64 a7,.int .i64 a8,.int .i64 a9,.int .i64 0,.int .i64 0,.int .i64 0] 130::L)from h);clear h tok10;have z0:=H.out.p1.rawCell 9;have z1:=H.out.p1.rawFree 9;simp at z0)
  |(go_at_call 157;have _t:=tok11;clear _t;(with_reducible refine(zCc _ i11 4 (St.set1_Pre2 H.out)).mono ?_);rw[E11.out];rintro e wn ⟨rfl,h⟩;replace H:=hQd (show St W0 wn K (.inp p i12::.raw w.heap.size #[.int .i64 a0,.int .i64 a1,.int .i64 a2,.int .i64 sm,.int .i64 a5,.int .i64 a6,.int .i64 a7,.int .i64 a8,.int .i64 a9,.int .i64 a10,.int .i64 0,.int .i64 0] 130::L)from h);clear h tok11;have z0:=H.out.p1.rawCell 10;have z1:=H.out.p1.rawFree 10;simp at z0)
  |(go_at_call 157;have _t:=tok12;clear _t;(with_reducible refine(zCc _ i12 4 (St.set1_Pre2 H.out)).mono ?_);rw[E12.out];rintro e wn ⟨rfl,h⟩;replace H:=hQd (show St W0 wn K (.inp p i13::.raw w.heap.size #[.int .i64 a0,.int .i64 a1,.int .i64 a2,.int .i64 sm,.int .i64 a5,.int .i64 a6,.int .i64 a7,.int .i64 a8,.int .i64 a9,.int .i64 a10,.int .i64 a11,.int .i64 0] 130::L)from h);clear h tok12;have z0:=H.out.p1.rawCell 11;have z1:=H.out.p1.rawFree 11;simp at z0;have HH:=hQd H.out.p1;have qf0:=HH.out.freeOf (b:=w.heap.size) (c:= #[.int .i64 a0,.int .i64 a1,.int .i64 a2,.int .i64 sm,.int .i64 a5,.int .i64 a6,.int .i64 a7,.int .i64 a8,.int .i64 a9,.int .i64 a10,.int .i64 a11,.int .i64 0]) (T:=130) (by simp) 0;have qc0:=HH.out.cellOf (b:=w.heap.size) (c:= #[.int .i64 a0,.int .i64 a1,.int .i64 a2,.int .i64 sm,.int .i64 a5,.int .i64 a6,.int .i64 a7,.int .i64 a8,.int .i64 a9,.int .i64 a10,.int .i64 a11,.int .i64 0]) (T:=130) (by simp) 0;have qf1:=HH.out.freeOf (b:=w.heap.size) (c:= #[.int .i64 a0,.int .i64 a1,.int .i64 a2,.int .i64 sm,.int .i64 a5,.int .i64 a6,.int .i64 a7,.int .i64 a8,.int .i64 a9,.int .i64 a10,.int .i64 a11,.int .i64 0]) (T:=130) (by simp) 1;have qc1:=HH.out.cellOf (b:=w.heap.size) (c:= #[.int .i64 a0,.int .i64 a1,.int .i64 a2,.int .i64 sm,.int .i64 a5,.int .i64 a6,.int .i64 a7,.int .i64 a8,.int .i64 a9,.int .i64 a10,.int .i64 a11,.int .i64 0]) (T:=130) (by simp) 1;have qf2:=HH.out.freeOf (b:=w.heap.size) (c:= #[.int .i64 a0,.int .i64 a1,.int .i64 a2,.int .i64 sm,.int .i64 a5,.int .i64 a6,.int .i64 a7,.int .i64 a8,.int .i64 a9,.int .i64 a10,.int .i64 a11,.int .i64 0]) (T:=130) (by simp) 2;have qc2:=HH.out.cellOf (b:=w.heap.size) (c:= #[.int .i64 a0,.int .i64 a1,.int .i64 a2,.int .i64 sm,.int .i64 a5,.int .i64 a6,.int .i64 a7,.int .i64 a8,.int .i64 a9,.int .i64 a10,.int .i64 a11,.int .i64 0]) (T:=130) (by simp) 2;have qf3:=HH.out.freeOf (b:=w.heap.size) (c:= #[.int .i64 a0,.int .i64 a1,.int .i64 a2,.int .i64 sm,.int .i64 a5,.int .i64 a6,.int .i64 a7,.int .i64 a8,.int .i64 a9,.int .i64 a10,.int .i64 a11,.int .i64 0]) (T:=130) (by simp) 3;have qc3:=HH.out.cellOf (b:=w.heap.size) (c:= #[.int .i64 a0,.int .i64 a1,.int .i64 a2,.int .i64 sm,.int .i64 a5,.int .i64 a6,.int .i64 a7,.int .i64 a8,.int .i64 a9,.int .i64 a10,.int .i64 a11,.int .i64 0]) (T:=130) (by simp) 3;have qf4:=HH.out.freeOf (b:=w.heap.size) (c:= #[.int .i64 a0,.int .i64 a1,.int .i64 a2,.int .i64 sm,.int .i64 a5,.int .i64 a6,.int .i64 a7,.int .i64 a8,.int .i64 a9,.int .i64 a10,.int .i64 a11,.int .i64 0]) (T:=130) (by simp) 4;have qc4:=HH.out.cellOf (b:=w.heap.size) (c:= #[.int .i64 a0,.int .i64 a1,.int .i64 a2,.int .i64 sm,.int .i64 a5,.int .i64 a6,.int .i64 a7,.int .i64 a8,.int .i64 a9,.int .i64 a10,.int .i64 a11,.int .i64 0]) (T:=130) (by simp) 4;have qf5:=HH.out.freeOf (b:=w.heap.size) (c:= #[.int .i64 a0,.int .i64 a1,.int .i64 a2,.int .i64 sm,.int .i64 a5,.int .i64 a6,.int .i64 a7,.int .i64 a8,.int .i64 a9,.int .i64 a10,.int .i64 a11,.int .i64 0]) (T:=130) (by simp) 5;have qc5:=HH.out.cellOf (b:=w.heap.size) (c:= #[.int .i64 a0,.int .i64 a1,.int .i64 a2,.int .i64 sm,.int .i64 a5,.int .i64 a6,.int .i64 a7,.int .i64 a8,.int .i64 a9,.int .i64 a10,.int .i64 a11,.int .i64 0]) (T:=130) (by simp) 5;have qf6:=HH.out.freeOf (b:=w.heap.size) (c:= #[.int .i64 a0,.int .i64 a1,.int .i64 a2,.int .i64 sm,.int .i64 a5,.int .i64 a6,.int .i64 a7,.int .i64 a8,.int .i64 a9,.int .i64 a10,.int .i64 a11,.int .i64 0]) (T:=130) (by simp) 6;have qc6:=HH.out.cellOf (b:=w.heap.size) (c:= #[.int .i64 a0,.int .i64 a1,.int .i64 a2,.int .i64 sm,.int .i64 a5,.int .i64 a6,.int .i64 a7,.int .i64 a8,.int .i64 a9,.int .i64 a10,.int .i64 a11,.int .i64 0]) (T:=130) (by simp) 6;have qf7:=HH.out.freeOf (b:=w.heap.size) (c:= #[.int .i64 a0,.int .i64 a1,.int .i64 a2,.int .i64 sm,.int .i64 a5,.int .i64 a6,.int .i64 a7,.int .i64 a8,.int .i64 a9,.int .i64 a10,.int .i64 a11,.int .i64 0]) (T:=130) (by simp) 7;have qc7:=HH.out.cellOf (b:=w.heap.size) (c:= #[.int .i64 a0,.int .i64 a1,.int .i64 a2,.int .i64 sm,.int .i64 a5,.int .i64 a6,.int .i64 a7,.int .i64 a8,.int .i64 a9,.int .i64 a10,.int .i64 a11,.int .i64 0]) (T:=130) (by simp) 7;have qf8:=HH.out.freeOf (b:=w.heap.size) (c:= #[.int .i64 a0,.int .i64 a1,.int .i64 a2,.int .i64 sm,.int .i64 a5,.int .i64 a6,.int .i64 a7,.int .i64 a8,.int .i64 a9,.int .i64 a10,.int .i64 a11,.int .i64 0]) (T:=130) (by simp) 8;have qc8:=HH.out.cellOf (b:=w.heap.size) (c:= #[.int .i64 a0,.int .i64 a1,.int .i64 a2,.int .i64 sm,.int .i64 a5,.int .i64 a6,.int .i64 a7,.int .i64 a8,.int .i64 a9,.int .i64 a10,.int .i64 a11,.int .i64 0]) (T:=130) (by simp) 8;have qf9:=HH.out.freeOf (b:=w.heap.size) (c:= #[.int .i64 a0,.int .i64 a1,.int .i64 a2,.int .i64 sm,.int .i64 a5,.int .i64 a6,.int .i64 a7,.int .i64 a8,.int .i64 a9,.int .i64 a10,.int .i64 a11,.int .i64 0]) (T:=130) (by simp) 9;have qc9:=HH.out.cellOf (b:=w.heap.size) (c:= #[.int .i64 a0,.int .i64 a1,.int .i64 a2,.int .i64 sm,.int .i64 a5,.int .i64 a6,.int .i64 a7,.int .i64 a8,.int .i64 a9,.int .i64 a10,.int .i64 a11,.int .i64 0]) (T:=130) (by simp) 9;have qf10:=HH.out.freeOf (b:=w.heap.size) (c:= #[.int .i64 a0,.int .i64 a1,.int .i64 a2,.int .i64 sm,.int .i64 a5,.int .i64 a6,.int .i64 a7,.int .i64 a8,.int .i64 a9,.int .i64 a10,.int .i64 a11,.int .i64 0]) (T:=130) (by simp) 10;have qc10:=HH.out.cellOf (b:=w.heap.size) (c:= #[.int .i64 a0,.int .i64 a1,.int .i64 a2,.int .i64 sm,.int .i64 a5,.int .i64 a6,.int .i64 a7,.int .i64 a8,.int .i64 a9,.int .i64 a10,.int .i64 a11,.int .i64 0]) (T:=130) (by simp) 10;have qf11:=HH.out.freeOf (b:=w.heap.size) (c:= #[.int .i64 a0,.int .i64 a1,.int .i64 a2,.int .i64 sm,.int .i64 a5,.int .i64 a6,.int .i64 a7,.int .i64 a8,.int .i64 a9,.int .i64 a10,.int .i64 a11,.int .i64 0]) (T:=130) (by simp) 11;have qc11:=HH.out.cellOf (b:=w.heap.size) (c:= #[.int .i64 a0,.int .i64 a1,.int .i64 a2,.int .i64 sm,.int .i64 a5,.int .i64 a6,.int .i64 a7,.int .i64 a8,.int .i64 a9,.int .i64 a10,.int .i64 a11,.int .i64 0]) (T:=130) (by simp) 11;simp at qc0 qc1 qc2 qc3 qc4 qc5 qc6 qc7 qc8 qc9 qc10 qc11))
 refine bodyPost_ret (v:=.tuple #[.agg #[.int .i64 a0,.int .i64 a1,.int .i64 a2,.int .i64 sm,.int .i64 a5,.int .i64 a6,.int .i64 a7,.int .i64 a8,.int .i64 a9,.int .i64 a10,.int .i64 a11,.int .i64 a12],.int .i64 a3]) (by simp[results,Tryz.results198,go_sem,qc0,qc1,qc2,qc3,qc4,qc5,qc6,qc7,qc8,qc9,qc10,qc11]) rfl ⟨rfl,?_⟩;exact(((((((((((((H.out.p1.rawSet 11 _).rawSet 0 _).rawSet 1 _).rawSet 2 _).rawSet 3 _).rawSet 4 _).rawSet 5 _).rawSet 6 _).rawSet 7 _).rawSet 8 _).rawSet 9 _).rawSet 10 _).rawSet 11 _).drop
variable {W0 w:World}{K:Know}{L:List Res}
theorem zAa{b:Nat}{T:TypeId}{v0 v1 v2 v3 v4 v5 v6 v7 v8 v9 v10 v11:Value}(h:St W0 w K (.raw b #[v0,v1,v2,v3,v4,v5,v6,v7,v8,v9,v10,v11] T::L)):
  w.cell? ⟨b,0,none⟩=some v0∧w.cell? ⟨b,1,none⟩=some v1∧w.cell? ⟨b,2,none⟩=some v2∧w.cell? ⟨b,3,none⟩=some v3∧w.cell? ⟨b,4,none⟩=some v4∧w.cell? ⟨b,5,none⟩=some v5∧w.cell? ⟨b,6,none⟩=some v6∧w.cell? ⟨b,7,none⟩=some v7∧w.cell? ⟨b,8,none⟩=some v8∧w.cell? ⟨b,9,none⟩=some v9∧w.cell? ⟨b,10,none⟩=some v10∧w.cell? ⟨b,11,none⟩=some v11∧
  w.frozen? ⟨b,0,none⟩=false∧w.frozen? ⟨b,1,none⟩=false∧w.frozen? ⟨b,2,none⟩=false∧w.frozen? ⟨b,3,none⟩=false∧w.frozen? ⟨b,4,none⟩=false∧w.frozen? ⟨b,5,none⟩=false∧w.frozen? ⟨b,6,none⟩=false∧w.frozen? ⟨b,7,none⟩=false∧w.frozen? ⟨b,8,none⟩=false∧w.frozen? ⟨b,9,none⟩=false∧w.frozen? ⟨b,10,none⟩=false∧w.frozen? ⟨b,11,none⟩=false:=
 ⟨h.rawCell 0,h.rawCell 1,h.rawCell 2,h.rawCell 3,h.rawCell 4,h.rawCell 5,h.rawCell 6,h.rawCell 7,h.rawCell 8,h.rawCell 9,h.rawCell 10,h.rawCell 11,h.rawFree 0,h.rawFree 1,h.rawFree 2,h.rawFree 3,h.rawFree 4,h.rawFree 5,h.rawFree 6,h.rawFree 7,h.rawFree 8,h.rawFree 9,h.rawFree 10,h.rawFree 11⟩
theorem zq19{p:Prop}(h:p:=by first|exact HH.out|exact HH.out.p1|exact HH.out.p2):p:=h
theorem zq21{p:Prop}(h:p:=by first|exact H.out|exact H.out.p1|exact H.out.p2):p:=h
theorem zq0{p:Prop}(h:p:=by
  rw[if_neg hz];have hzb:(j3.err !=0)=true:=by rw[bne_iff_ne];exact hz
  clear hz;go_enter Tryz.func188,Tryz.ntmps188
  go_wp2_with (first
    |(go_at_call 198;(with_reducible refine(EF.out _ _ _ _ H.out).mono ?_);rintro e wn ⟨rfl,h⟩;obtain⟨bb2,hbb2⟩:∃b,wn.heap.size=b:=⟨_,rfl⟩;have h:=h.allocRaw #[.int .i64 a0,.int .i64 a1,.int .i64 a2,.int .i64 sm,.int .i64 a5,.int .i64 a6,.int .i64 a7,.int .i64 a8,.int .i64 a9,.int .i64 a10,.int .i64 a11,.int .i64 a12] 130;rw[hbb2]at h;replace H:=hQd h;clear h;have HH:=hQd H.out;obtain⟨yc0,yc1,yc2,yc3,yc4,yc5,yc6,yc7,yc8,yc9,yc10,yc11,yf0,yf1,yf2,yf3,yf4,yf5,yf6,yf7,yf8,yf9,yf10,yf11⟩:=zAa (b:=w.heap.size) zq19;obtain⟨xc0,xc1,xc2,xc3,xc4,xc5,xc6,xc7,xc8,xc9,xc10,xc11,xf0,xf1,xf2,xf3,xf4,xf5,xf6,xf7,xf8,xf9,xf10,xf11⟩:=zAa (b:=bb2) zq19)
    |(go_at_call 158;(with_reducible refine(zBT _ _ _ zq21).mono ?_);(repeat first|rw[EJ1.out]|rw[EJ2.out]|rw[EJ3.out]);rintro e wn ⟨rfl,h⟩;replace H:=hQd h;clear h;have HH:=hQd H.out;obtain⟨yc0,yc1,yc2,yc3,yc4,yc5,yc6,yc7,yc8,yc9,yc10,yc11,yf0,yf1,yf2,yf3,yf4,yf5,yf6,yf7,yf8,yf9,yf10,yf11⟩:=zAa (b:=w.heap.size) zq19;obtain⟨xc0,xc1,xc2,xc3,xc4,xc5,xc6,xc7,xc8,xc9,xc10,xc11,xf0,xf1,xf2,xf3,xf4,xf5,xf6,xf7,xf8,xf9,xf10,xf11⟩:=zAa (b:=bb2) zq19)
    |(go_at_call 168;(with_reducible refine(zGj _ _ zq21).mono ?_);rintro e wn ⟨rfl,h⟩;replace H:=hQd h;clear h;have HH:=hQd H.out;obtain⟨yc0,yc1,yc2,yc3,yc4,yc5,yc6,yc7,yc8,yc9,yc10,yc11,yf0,yf1,yf2,yf3,yf4,yf5,yf6,yf7,yf8,yf9,yf10,yf11⟩:=zAa (b:=w.heap.size) zq19;obtain⟨xc0,xc1,xc2,xc3,xc4,xc5,xc6,xc7,xc8,xc9,xc10,xc11,xf0,xf1,xf2,xf3,xf4,xf5,xf6,xf7,xf8,xf9,xf10,xf11⟩:=zAa (b:=bb2) zq19))
  refine bodyPost_ret (v:=.agg #[.int .i64 0,.int .i64 0,.int .i64 0,.int .i64 0,.int .i64 0,.int .i64 0,.int .i64 0,.int .i64 0,.int .i64 0,.int .i64 0,.int .i64 0,.int .i64 0]) (by simp[results,Tryz.results188,go_sem,yc0,yc1,yc2,yc3,yc4,yc5,yc6,yc7,yc8,yc9,yc10,yc11]) rfl ⟨rfl,?_⟩;exact((((((((((((H.out.p2.rawSet 0 _).rawSet 1 _).rawSet 2 _).rawSet 3 _).rawSet 4 _).rawSet 5 _).rawSet 6 _).rawSet 7 _).rawSet 8 _).rawSet 9 _).rawSet 10 _).rawSet 11 _).drop.p1.drop):p:=h
theorem zq1{p:Prop}(h:p:=by
  rw[if_pos hz];have HZ:=hQd hz;clear hz;go_enter Tryz.func188,Tryz.ntmps188
  go_wp2_with (first
    |(go_at_call 198;(with_reducible refine(EF.out _ _ _ _ H.out).mono ?_);rintro e wn ⟨rfl,h⟩;obtain⟨bb2,hbb2⟩:∃b,wn.heap.size=b:=⟨_,rfl⟩;have h:=h.allocRaw #[.int .i64 a0,.int .i64 a1,.int .i64 a2,.int .i64 sm,.int .i64 a5,.int .i64 a6,.int .i64 a7,.int .i64 a8,.int .i64 a9,.int .i64 a10,.int .i64 a11,.int .i64 a12] 130;rw[hbb2]at h;replace H:=hQd h;clear h;have HH:=hQd H.out;obtain⟨yc0,yc1,yc2,yc3,yc4,yc5,yc6,yc7,yc8,yc9,yc10,yc11,yf0,yf1,yf2,yf3,yf4,yf5,yf6,yf7,yf8,yf9,yf10,yf11⟩:=zAa (b:=w.heap.size) zq19;obtain⟨xc0,xc1,xc2,xc3,xc4,xc5,xc6,xc7,xc8,xc9,xc10,xc11,xf0,xf1,xf2,xf3,xf4,xf5,xf6,xf7,xf8,xf9,xf10,xf11⟩:=zAa (b:=bb2) zq19)
    |(go_at_call 158;(with_reducible refine(zBT _ _ _ zq21).mono ?_);(repeat first|rw[EJ1.out]|rw[EJ2.out]|rw[EJ3.out]);rintro e wn ⟨rfl,h⟩;replace H:=hQd h;clear h;have HH:=hQd H.out;obtain⟨yc0,yc1,yc2,yc3,yc4,yc5,yc6,yc7,yc8,yc9,yc10,yc11,yf0,yf1,yf2,yf3,yf4,yf5,yf6,yf7,yf8,yf9,yf10,yf11⟩:=zAa (b:=w.heap.size) zq19;obtain⟨xc0,xc1,xc2,xc3,xc4,xc5,xc6,xc7,xc8,xc9,xc10,xc11,xf0,xf1,xf2,xf3,xf4,xf5,xf6,xf7,xf8,xf9,xf10,xf11⟩:=zAa (b:=bb2) zq19)
    |(go_at_call 168;(with_reducible refine(zGj _ _ zq21).mono ?_);rw[HZ.out];rintro e wn ⟨rfl,h⟩;replace H:=hQd h;clear h;have HH:=hQd H.out;obtain⟨yc0,yc1,yc2,yc3,yc4,yc5,yc6,yc7,yc8,yc9,yc10,yc11,yf0,yf1,yf2,yf3,yf4,yf5,yf6,yf7,yf8,yf9,yf10,yf11⟩:=zAa (b:=w.heap.size) zq19;obtain⟨xc0,xc1,xc2,xc3,xc4,xc5,xc6,xc7,xc8,xc9,xc10,xc11,xf0,xf1,xf2,xf3,xf4,xf5,xf6,xf7,xf8,xf9,xf10,xf11⟩:=zAa (b:=bb2) zq19))
  refine bodyPost_ret (v:=.agg #[.int .i64 a0,.int .i64 a1,.int .i64 a2,.int .i64 sm,.int .i64 a5,.int .i64 a6,.int .i64 a7,.int .i64 a8,.int .i64 a9,.int .i64 a10,.int .i64 a11,.int .i64 a12]) (by simp[results,Tryz.results188,go_sem,yc0,yc1,yc2,yc3,yc4,yc5,yc6,yc7,yc8,yc9,yc10,yc11]) rfl ⟨rfl,?_⟩;exact((((((((((((H.out.p2.rawSet 0 _).rawSet 1 _).rawSet 2 _).rawSet 3 _).rawSet 4 _).rawSet 5 _).rawSet 6 _).rawSet 7 _).rawSet 8 _).rawSet 9 _).rawSet 10 _).rawSet 11 _).drop.p1.drop):p:=h
theorem zFJ(p:Nat)(i i1 i2 i3 i4 i5 i6 i7 i8 i9 i10 i11 i12 i13 j1 j2 j3:InS)(a0 a1 a2 a3 a4 a5 a6 a7 a8 a9 a10 a11 a12 sm:Int)(e0:i.int 8=(a0,i1))(e1:i1.int 4=(a1,i2))(e2:i2.int 4=(a2,i3))(e3:i3.int 1=(a3,i4))(e4:i4.int 4=(a4,i5))(e5:i5.int 2=(a5,i6))(e6:i6.int 4=(a6,i7))(e7:i7.int 8=(a7,i8))(e8:i8.int 8=(a8,i9))(e9:i9.int 8=(a9,i10))(e10:i10.int 2=(a10,i11))(e11:i11.int 4=(a11,i12))(e12:i12.int 4=(a12,i13))(hsm:bits .and .i64 a4 4294967295=sm)
    (hm:(a3 !=2)=true)(hl:¬a1<49)(hn:¬a12<0)(hJ1:j1=i13.fail 6)(hJ2:j2=j1)(hJ3:j3=j2)(h:St W0 w K (.inp p i::L)):
    Calls Tryz.prog 188 #[zAs p] w fun en w'=>en=.returned (if j3.err=0 then .agg #[.int .i64 a0,.int .i64 a1,.int .i64 a2,.int .i64 sm,.int .i64 a5,.int .i64 a6,.int .i64 a7,.int .i64 a8,.int .i64 a9,.int .i64 a10,.int .i64 a11,.int .i64 a12]else .agg #[.int .i64 0,.int .i64 0,.int .i64 0,.int .i64 0,.int .i64 0,.int .i64 0,.int .i64 0,.int .i64 0,.int .i64 0,.int .i64 0,.int .i64 0,.int .i64 0])∧St W0 w' K (.inp p j3::L):=by
  have H:=hQd (h.allocRaw #[.int .i64 0,.int .i64 0,.int .i64 0,.int .i64 0,.int .i64 0,.int .i64 0,.int .i64 0,.int .i64 0,.int .i64 0,.int .i64 0,.int .i64 0,.int .i64 0] 130).p1;have EF:=hQd (fun(W0' w':World) (K':Know) (L':List Res) (h':St W0' w' K' (.inp p i::L'))=>zAH p i i1 i2 i3 i4 i5 i6 i7 i8 i9 i10 i11 i12 i13 a0 a1 a2 a3 a4 a5 a6 a7 a8 a9 a10 a11 a12 sm e0 e1 e2 e3 e4 e5 e6 e7 e8 e9 e10 e11 e12 hsm h');clear h e0 e1 e2 e3 e4 e5 e6 e7 e8 e9 e10 e11 e12 hsm;have EJ1:=hQd hJ1.symm;clear hJ1;subst hJ2;subst hJ3
  by_cases hz:j3.err=0
  · exact zq1
  · exact zq0
theorem zFI(p:Nat)(i i1 i2 i3 i4 i5 i6 i7 i8 i9 i10 i11 i12 i13 j1 j2 j3:InS)(a0 a1 a2 a3 a4 a5 a6 a7 a8 a9 a10 a11 a12 sm:Int)(e0:i.int 8=(a0,i1))(e1:i1.int 4=(a1,i2))(e2:i2.int 4=(a2,i3))(e3:i3.int 1=(a3,i4))(e4:i4.int 4=(a4,i5))(e5:i5.int 2=(a5,i6))(e6:i6.int 4=(a6,i7))(e7:i7.int 8=(a7,i8))(e8:i8.int 8=(a8,i9))(e9:i9.int 8=(a9,i10))(e10:i10.int 2=(a10,i11))(e11:i11.int 4=(a11,i12))(e12:i12.int 4=(a12,i13))(hsm:bits .and .i64 a4 4294967295=sm)
    (hm:(a3 !=2)=true)(hl:¬a1<49)(hn:a12<0)(hJ1:j1=i13.fail 6)(hJ2:j2=j1)(hJ3:j3=j2.fail 10)(h:St W0 w K (.inp p i::L)):
    Calls Tryz.prog 188 #[zAs p] w fun en w'=>en=.returned (if j3.err=0 then .agg #[.int .i64 a0,.int .i64 a1,.int .i64 a2,.int .i64 sm,.int .i64 a5,.int .i64 a6,.int .i64 a7,.int .i64 a8,.int .i64 a9,.int .i64 a10,.int .i64 a11,.int .i64 a12]else .agg #[.int .i64 0,.int .i64 0,.int .i64 0,.int .i64 0,.int .i64 0,.int .i64 0,.int .i64 0,.int .i64 0,.int .i64 0,.int .i64 0,.int .i64 0,.int .i64 0])∧St W0 w' K (.inp p j3::L):=by
  have H:=hQd (h.allocRaw #[.int .i64 0,.int .i64 0,.int .i64 0,.int .i64 0,.int .i64 0,.int .i64 0,.int .i64 0,.int .i64 0,.int .i64 0,.int .i64 0,.int .i64 0,.int .i64 0] 130).p1;have EF:=hQd (fun(W0' w':World) (K':Know) (L':List Res) (h':St W0' w' K' (.inp p i::L'))=>zAH p i i1 i2 i3 i4 i5 i6 i7 i8 i9 i10 i11 i12 i13 a0 a1 a2 a3 a4 a5 a6 a7 a8 a9 a10 a11 a12 sm e0 e1 e2 e3 e4 e5 e6 e7 e8 e9 e10 e11 e12 hsm h');clear h e0 e1 e2 e3 e4 e5 e6 e7 e8 e9 e10 e11 e12 hsm;have EJ1:=hQd hJ1.symm;clear hJ1;subst hJ2;have EJ3:=hQd hJ3.symm;clear hJ3
  by_cases hz:j3.err=0
  · exact zq1
  · exact zq0
theorem zFH(p:Nat)(i i1 i2 i3 i4 i5 i6 i7 i8 i9 i10 i11 i12 i13 j1 j2 j3:InS)(a0 a1 a2 a3 a4 a5 a6 a7 a8 a9 a10 a11 a12 sm:Int)(e0:i.int 8=(a0,i1))(e1:i1.int 4=(a1,i2))(e2:i2.int 4=(a2,i3))(e3:i3.int 1=(a3,i4))(e4:i4.int 4=(a4,i5))(e5:i5.int 2=(a5,i6))(e6:i6.int 4=(a6,i7))(e7:i7.int 8=(a7,i8))(e8:i8.int 8=(a8,i9))(e9:i9.int 8=(a9,i10))(e10:i10.int 2=(a10,i11))(e11:i11.int 4=(a11,i12))(e12:i12.int 4=(a12,i13))(hsm:bits .and .i64 a4 4294967295=sm)
    (hm:(a3 !=2)=true)(hl:a1<49)(hn:¬a12<0)(hJ1:j1=i13.fail 6)(hJ2:j2=j1.fail 4)(hJ3:j3=j2)(h:St W0 w K (.inp p i::L)):
    Calls Tryz.prog 188 #[zAs p] w fun en w'=>en=.returned (if j3.err=0 then .agg #[.int .i64 a0,.int .i64 a1,.int .i64 a2,.int .i64 sm,.int .i64 a5,.int .i64 a6,.int .i64 a7,.int .i64 a8,.int .i64 a9,.int .i64 a10,.int .i64 a11,.int .i64 a12]else .agg #[.int .i64 0,.int .i64 0,.int .i64 0,.int .i64 0,.int .i64 0,.int .i64 0,.int .i64 0,.int .i64 0,.int .i64 0,.int .i64 0,.int .i64 0,.int .i64 0])∧St W0 w' K (.inp p j3::L):=by
  have H:=hQd (h.allocRaw #[.int .i64 0,.int .i64 0,.int .i64 0,.int .i64 0,.int .i64 0,.int .i64 0,.int .i64 0,.int .i64 0,.int .i64 0,.int .i64 0,.int .i64 0,.int .i64 0] 130).p1;have EF:=hQd (fun(W0' w':World) (K':Know) (L':List Res) (h':St W0' w' K' (.inp p i::L'))=>zAH p i i1 i2 i3 i4 i5 i6 i7 i8 i9 i10 i11 i12 i13 a0 a1 a2 a3 a4 a5 a6 a7 a8 a9 a10 a11 a12 sm e0 e1 e2 e3 e4 e5 e6 e7 e8 e9 e10 e11 e12 hsm h');clear h e0 e1 e2 e3 e4 e5 e6 e7 e8 e9 e10 e11 e12 hsm;have EJ1:=hQd hJ1.symm;clear hJ1;have EJ2:=hQd hJ2.symm;clear hJ2;subst hJ3
  by_cases hz:j3.err=0
  · exact zq1
  · exact zq0
theorem zFG(p:Nat)(i i1 i2 i3 i4 i5 i6 i7 i8 i9 i10 i11 i12 i13 j1 j2 j3:InS)(a0 a1 a2 a3 a4 a5 a6 a7 a8 a9 a10 a11 a12 sm:Int)(e0:i.int 8=(a0,i1))(e1:i1.int 4=(a1,i2))(e2:i2.int 4=(a2,i3))(e3:i3.int 1=(a3,i4))(e4:i4.int 4=(a4,i5))(e5:i5.int 2=(a5,i6))(e6:i6.int 4=(a6,i7))(e7:i7.int 8=(a7,i8))(e8:i8.int 8=(a8,i9))(e9:i9.int 8=(a9,i10))(e10:i10.int 2=(a10,i11))(e11:i11.int 4=(a11,i12))(e12:i12.int 4=(a12,i13))(hsm:bits .and .i64 a4 4294967295=sm)
    (hm:(a3 !=2)=true)(hl:a1<49)(hn:a12<0)(hJ1:j1=i13.fail 6)(hJ2:j2=j1.fail 4)(hJ3:j3=j2.fail 10)(h:St W0 w K (.inp p i::L)):
    Calls Tryz.prog 188 #[zAs p] w fun en w'=>en=.returned (if j3.err=0 then .agg #[.int .i64 a0,.int .i64 a1,.int .i64 a2,.int .i64 sm,.int .i64 a5,.int .i64 a6,.int .i64 a7,.int .i64 a8,.int .i64 a9,.int .i64 a10,.int .i64 a11,.int .i64 a12]else .agg #[.int .i64 0,.int .i64 0,.int .i64 0,.int .i64 0,.int .i64 0,.int .i64 0,.int .i64 0,.int .i64 0,.int .i64 0,.int .i64 0,.int .i64 0,.int .i64 0])∧St W0 w' K (.inp p j3::L):=by
  have H:=hQd (h.allocRaw #[.int .i64 0,.int .i64 0,.int .i64 0,.int .i64 0,.int .i64 0,.int .i64 0,.int .i64 0,.int .i64 0,.int .i64 0,.int .i64 0,.int .i64 0,.int .i64 0] 130).p1;have EF:=hQd (fun(W0' w':World) (K':Know) (L':List Res) (h':St W0' w' K' (.inp p i::L'))=>zAH p i i1 i2 i3 i4 i5 i6 i7 i8 i9 i10 i11 i12 i13 a0 a1 a2 a3 a4 a5 a6 a7 a8 a9 a10 a11 a12 sm e0 e1 e2 e3 e4 e5 e6 e7 e8 e9 e10 e11 e12 hsm h');clear h e0 e1 e2 e3 e4 e5 e6 e7 e8 e9 e10 e11 e12 hsm;have EJ1:=hQd hJ1.symm;clear hJ1;have EJ2:=hQd hJ2.symm;clear hJ2;have EJ3:=hQd hJ3.symm;clear hJ3
  by_cases hz:j3.err=0
  · exact zq1
  · exact zq0
theorem zFF(p:Nat)(i i1 i2 i3 i4 i5 i6 i7 i8 i9 i10 i11 i12 i13 j1 j2 j3:InS)(a0 a1 a2 a3 a4 a5 a6 a7 a8 a9 a10 a11 a12 sm:Int)(e0:i.int 8=(a0,i1))(e1:i1.int 4=(a1,i2))(e2:i2.int 4=(a2,i3))(e3:i3.int 1=(a3,i4))(e4:i4.int 4=(a4,i5))(e5:i5.int 2=(a5,i6))(e6:i6.int 4=(a6,i7))(e7:i7.int 8=(a7,i8))(e8:i8.int 8=(a8,i9))(e9:i9.int 8=(a9,i10))(e10:i10.int 2=(a10,i11))(e11:i11.int 4=(a11,i12))(e12:i12.int 4=(a12,i13))(hsm:bits .and .i64 a4 4294967295=sm)
    (hm:(a3 !=2)=false)(hl:¬a1<49)(hn:¬a12<0)(hJ1:j1=i13)(hJ2:j2=j1)(hJ3:j3=j2)(h:St W0 w K (.inp p i::L)):
    Calls Tryz.prog 188 #[zAs p] w fun en w'=>en=.returned (if j3.err=0 then .agg #[.int .i64 a0,.int .i64 a1,.int .i64 a2,.int .i64 sm,.int .i64 a5,.int .i64 a6,.int .i64 a7,.int .i64 a8,.int .i64 a9,.int .i64 a10,.int .i64 a11,.int .i64 a12]else .agg #[.int .i64 0,.int .i64 0,.int .i64 0,.int .i64 0,.int .i64 0,.int .i64 0,.int .i64 0,.int .i64 0,.int .i64 0,.int .i64 0,.int .i64 0,.int .i64 0])∧St W0 w' K (.inp p j3::L):=by
  have H:=hQd (h.allocRaw #[.int .i64 0,.int .i64 0,.int .i64 0,.int .i64 0,.int .i64 0,.int .i64 0,.int .i64 0,.int .i64 0,.int .i64 0,.int .i64 0,.int .i64 0,.int .i64 0] 130).p1;have EF:=hQd (fun(W0' w':World) (K':Know) (L':List Res) (h':St W0' w' K' (.inp p i::L'))=>zAH p i i1 i2 i3 i4 i5 i6 i7 i8 i9 i10 i11 i12 i13 a0 a1 a2 a3 a4 a5 a6 a7 a8 a9 a10 a11 a12 sm e0 e1 e2 e3 e4 e5 e6 e7 e8 e9 e10 e11 e12 hsm h');clear h e0 e1 e2 e3 e4 e5 e6 e7 e8 e9 e10 e11 e12 hsm;subst hJ1;subst hJ2;subst hJ3
  by_cases hz:j3.err=0
  · exact zq1
  · exact zq0
theorem zFE(p:Nat)(i i1 i2 i3 i4 i5 i6 i7 i8 i9 i10 i11 i12 i13 j1 j2 j3:InS)(a0 a1 a2 a3 a4 a5 a6 a7 a8 a9 a10 a11 a12 sm:Int)(e0:i.int 8=(a0,i1))(e1:i1.int 4=(a1,i2))(e2:i2.int 4=(a2,i3))(e3:i3.int 1=(a3,i4))(e4:i4.int 4=(a4,i5))(e5:i5.int 2=(a5,i6))(e6:i6.int 4=(a6,i7))(e7:i7.int 8=(a7,i8))(e8:i8.int 8=(a8,i9))(e9:i9.int 8=(a9,i10))(e10:i10.int 2=(a10,i11))(e11:i11.int 4=(a11,i12))(e12:i12.int 4=(a12,i13))(hsm:bits .and .i64 a4 4294967295=sm)
    (hm:(a3 !=2)=false)(hl:¬a1<49)(hn:a12<0)(hJ1:j1=i13)(hJ2:j2=j1)(hJ3:j3=j2.fail 10)(h:St W0 w K (.inp p i::L)):
    Calls Tryz.prog 188 #[zAs p] w fun en w'=>en=.returned (if j3.err=0 then .agg #[.int .i64 a0,.int .i64 a1,.int .i64 a2,.int .i64 sm,.int .i64 a5,.int .i64 a6,.int .i64 a7,.int .i64 a8,.int .i64 a9,.int .i64 a10,.int .i64 a11,.int .i64 a12]else .agg #[.int .i64 0,.int .i64 0,.int .i64 0,.int .i64 0,.int .i64 0,.int .i64 0,.int .i64 0,.int .i64 0,.int .i64 0,.int .i64 0,.int .i64 0,.int .i64 0])∧St W0 w' K (.inp p j3::L):=by
  have H:=hQd (h.allocRaw #[.int .i64 0,.int .i64 0,.int .i64 0,.int .i64 0,.int .i64 0,.int .i64 0,.int .i64 0,.int .i64 0,.int .i64 0,.int .i64 0,.int .i64 0,.int .i64 0] 130).p1;have EF:=hQd (fun(W0' w':World) (K':Know) (L':List Res) (h':St W0' w' K' (.inp p i::L'))=>zAH p i i1 i2 i3 i4 i5 i6 i7 i8 i9 i10 i11 i12 i13 a0 a1 a2 a3 a4 a5 a6 a7 a8 a9 a10 a11 a12 sm e0 e1 e2 e3 e4 e5 e6 e7 e8 e9 e10 e11 e12 hsm h');clear h e0 e1 e2 e3 e4 e5 e6 e7 e8 e9 e10 e11 e12 hsm;subst hJ1;subst hJ2;have EJ3:=hQd hJ3.symm;clear hJ3
  by_cases hz:j3.err=0
  · exact zq1
  · exact zq0
theorem zFD(p:Nat)(i i1 i2 i3 i4 i5 i6 i7 i8 i9 i10 i11 i12 i13 j1 j2 j3:InS)(a0 a1 a2 a3 a4 a5 a6 a7 a8 a9 a10 a11 a12 sm:Int)(e0:i.int 8=(a0,i1))(e1:i1.int 4=(a1,i2))(e2:i2.int 4=(a2,i3))(e3:i3.int 1=(a3,i4))(e4:i4.int 4=(a4,i5))(e5:i5.int 2=(a5,i6))(e6:i6.int 4=(a6,i7))(e7:i7.int 8=(a7,i8))(e8:i8.int 8=(a8,i9))(e9:i9.int 8=(a9,i10))(e10:i10.int 2=(a10,i11))(e11:i11.int 4=(a11,i12))(e12:i12.int 4=(a12,i13))(hsm:bits .and .i64 a4 4294967295=sm)
    (hm:(a3 !=2)=false)(hl:a1<49)(hn:¬a12<0)(hJ1:j1=i13)(hJ2:j2=j1.fail 4)(hJ3:j3=j2)(h:St W0 w K (.inp p i::L)):
    Calls Tryz.prog 188 #[zAs p] w fun en w'=>en=.returned (if j3.err=0 then .agg #[.int .i64 a0,.int .i64 a1,.int .i64 a2,.int .i64 sm,.int .i64 a5,.int .i64 a6,.int .i64 a7,.int .i64 a8,.int .i64 a9,.int .i64 a10,.int .i64 a11,.int .i64 a12]else .agg #[.int .i64 0,.int .i64 0,.int .i64 0,.int .i64 0,.int .i64 0,.int .i64 0,.int .i64 0,.int .i64 0,.int .i64 0,.int .i64 0,.int .i64 0,.int .i64 0])∧St W0 w' K (.inp p j3::L):=by
  have H:=hQd (h.allocRaw #[.int .i64 0,.int .i64 0,.int .i64 0,.int .i64 0,.int .i64 0,.int .i64 0,.int .i64 0,.int .i64 0,.int .i64 0,.int .i64 0,.int .i64 0,.int .i64 0] 130).p1;have EF:=hQd (fun(W0' w':World) (K':Know) (L':List Res) (h':St W0' w' K' (.inp p i::L'))=>zAH p i i1 i2 i3 i4 i5 i6 i7 i8 i9 i10 i11 i12 i13 a0 a1 a2 a3 a4 a5 a6 a7 a8 a9 a10 a11 a12 sm e0 e1 e2 e3 e4 e5 e6 e7 e8 e9 e10 e11 e12 hsm h');clear h e0 e1 e2 e3 e4 e5 e6 e7 e8 e9 e10 e11 e12 hsm;subst hJ1;have EJ2:=hQd hJ2.symm;clear hJ2;subst hJ3
  by_cases hz:j3.err=0
  · exact zq1
  · exact zq0
theorem zFC(p:Nat)(i i1 i2 i3 i4 i5 i6 i7 i8 i9 i10 i11 i12 i13 j1 j2 j3:InS)(a0 a1 a2 a3 a4 a5 a6 a7 a8 a9 a10 a11 a12 sm:Int)(e0:i.int 8=(a0,i1))(e1:i1.int 4=(a1,i2))(e2:i2.int 4=(a2,i3))(e3:i3.int 1=(a3,i4))(e4:i4.int 4=(a4,i5))(e5:i5.int 2=(a5,i6))(e6:i6.int 4=(a6,i7))(e7:i7.int 8=(a7,i8))(e8:i8.int 8=(a8,i9))(e9:i9.int 8=(a9,i10))(e10:i10.int 2=(a10,i11))(e11:i11.int 4=(a11,i12))(e12:i12.int 4=(a12,i13))(hsm:bits .and .i64 a4 4294967295=sm)
    (hm:(a3 !=2)=false)(hl:a1<49)(hn:a12<0)(hJ1:j1=i13)(hJ2:j2=j1.fail 4)(hJ3:j3=j2.fail 10)(h:St W0 w K (.inp p i::L)):
    Calls Tryz.prog 188 #[zAs p] w fun en w'=>en=.returned (if j3.err=0 then .agg #[.int .i64 a0,.int .i64 a1,.int .i64 a2,.int .i64 sm,.int .i64 a5,.int .i64 a6,.int .i64 a7,.int .i64 a8,.int .i64 a9,.int .i64 a10,.int .i64 a11,.int .i64 a12]else .agg #[.int .i64 0,.int .i64 0,.int .i64 0,.int .i64 0,.int .i64 0,.int .i64 0,.int .i64 0,.int .i64 0,.int .i64 0,.int .i64 0,.int .i64 0,.int .i64 0])∧St W0 w' K (.inp p j3::L):=by
  have H:=hQd (h.allocRaw #[.int .i64 0,.int .i64 0,.int .i64 0,.int .i64 0,.int .i64 0,.int .i64 0,.int .i64 0,.int .i64 0,.int .i64 0,.int .i64 0,.int .i64 0,.int .i64 0] 130).p1;have EF:=hQd (fun(W0' w':World) (K':Know) (L':List Res) (h':St W0' w' K' (.inp p i::L'))=>zAH p i i1 i2 i3 i4 i5 i6 i7 i8 i9 i10 i11 i12 i13 a0 a1 a2 a3 a4 a5 a6 a7 a8 a9 a10 a11 a12 sm e0 e1 e2 e3 e4 e5 e6 e7 e8 e9 e10 e11 e12 hsm h');clear h e0 e1 e2 e3 e4 e5 e6 e7 e8 e9 e10 e11 e12 hsm;subst hJ1;have EJ2:=hQd hJ2.symm;clear hJ2;have EJ3:=hQd hJ3.symm;clear hJ3
  by_cases hz:j3.err=0
  · exact zq1
  · exact zq0
def zFL:List Int→PreS×Int
  |[a0,a1,a2,a3,a4,a5,a6,a7,a8,a9,a10,a11,a12]=>(⟨a0,a1,a2,a4 % 4294967296,a5,a6,a7,a8,a9,a10,a11,a12⟩,a3)
  | _=>(PreS.zero,0)
def zIO (x:PreS) (m:Int) (i:InS):InS:=
  (fun j2:InS=>if x.count<0 then j2.fail 10 else j2) ((fun j1:InS=>if x.len<49 then j1.fail 4 else j1) (if m=2 then i else i.fail 6))
def InS.pre (i:InS):PreS×InS:=
  (fun j:InS=>(if j.err=0 then(zFL (InS.ints zAD i).1).1 else PreS.zero,j)) (zIO (zFL (InS.ints zAD i).1).1 (zFL (InS.ints zAD i).1).2 (InS.ints zAD i).2)
theorem zJ8(p:Nat)(i:InS)(h:St W0 w K (.inp p i::L)):
   Calls Tryz.prog 188 #[zAs p] w fun en w'=>en=.returned (pv i.pre.1)∧St W0 w' K (.inp p i.pre.2::L):=by
 obtain⟨⟨a0,i1⟩,e0⟩:∃a,i.int 8=a:=⟨_,rfl⟩;obtain⟨⟨a1,i2⟩,e1⟩:∃a,i1.int 4=a:=⟨_,rfl⟩;obtain⟨⟨a2,i3⟩,e2⟩:∃a,i2.int 4=a:=⟨_,rfl⟩;obtain⟨⟨a3,i4⟩,e3⟩:∃a,i3.int 1=a:=⟨_,rfl⟩;obtain⟨⟨a4,i5⟩,e4⟩:∃a,i4.int 4=a:=⟨_,rfl⟩;obtain⟨⟨a5,i6⟩,e5⟩:∃a,i5.int 2=a:=⟨_,rfl⟩;obtain⟨⟨a6,i7⟩,e6⟩:∃a,i6.int 4=a:=⟨_,rfl⟩;obtain⟨⟨a7,i8⟩,e7⟩:∃a,i7.int 8=a:=⟨_,rfl⟩;obtain⟨⟨a8,i9⟩,e8⟩:∃a,i8.int 8=a:=⟨_,rfl⟩;obtain⟨⟨a9,i10⟩,e9⟩:∃a,i9.int 8=a:=⟨_,rfl⟩;obtain⟨⟨a10,i11⟩,e10⟩:∃a,i10.int 2=a:=⟨_,rfl⟩;obtain⟨⟨a11,i12⟩,e11⟩:∃a,i11.int 4=a:=⟨_,rfl⟩;obtain⟨⟨a12,i13⟩,e12⟩:∃a,i12.int 4=a:=⟨_,rfl⟩
 have hi:InS.ints zAD i=([a0,a1,a2,a3,a4,a5,a6,a7,a8,a9,a10,a11,a12],i13):=by
   have c8:((8:Nat):Int)=8:=rfl;have c4:((4:Nat):Int)=4:=rfl;have c2:((2:Nat):Int)=2:=rfl;have c1:((1:Nat):Int)=1:=rfl;simp only[InS.ints,zAD,c8,c4,c2,c1,e0,e1,e2,e3,e4,e5,e6,e7,e8,e9,e10,e11,e12]
 have hv:∀b:Prop,[Decidable b]→pv (if b then(⟨a0,a1,a2,a4 % 4294967296,a5,a6,a7,a8,a9,a10,a11,a12⟩:PreS)else PreS.zero)=if b then(.agg #[.int .i64 a0,.int .i64 a1,.int .i64 a2,.int .i64 (a4 % 4294967296),.int .i64 a5,.int .i64 a6,.int .i64 a7,.int .i64 a8,.int .i64 a9,.int .i64 a10,.int .i64 a11,.int .i64 a12]:Value)else .agg #[.int .i64 0,.int .i64 0,.int .i64 0,.int .i64 0,.int .i64 0,.int .i64 0,.int .i64 0,.int .i64 0,.int .i64 0,.int .i64 0,.int .i64 0,.int .i64 0]:=by
   intro b _;split<;>rfl
 unfold InS.pre;rw[hi];have hp:zFL [a0,a1,a2,a3,a4,a5,a6,a7,a8,a9,a10,a11,a12]=(⟨a0,a1,a2,a4 % 4294967296,a5,a6,a7,a8,a9,a10,a11,a12⟩,a3):=rfl;simp only[hp,zIO];rw[hv]
 by_cases hm:a3=2<;>by_cases hl:a1<49<;>by_cases hn:a12<0
 · rw[if_pos hm,if_pos hl,if_pos hn];exact zFC p i i1 i2 i3 i4 i5 i6 i7 i8 i9 i10 i11 i12 i13 _ _ _ a0 a1 a2 a3 a4 a5 a6 a7 a8 a9 a10 a11 a12 _ e0 e1 e2 e3 e4 e5 e6 e7 e8 e9 e10 e11 e12 (zCQ a4) (by simpa using hm) hl hn rfl rfl rfl h
 · rw[if_pos hm,if_pos hl,if_neg hn];exact zFD p i i1 i2 i3 i4 i5 i6 i7 i8 i9 i10 i11 i12 i13 _ _ _ a0 a1 a2 a3 a4 a5 a6 a7 a8 a9 a10 a11 a12 _ e0 e1 e2 e3 e4 e5 e6 e7 e8 e9 e10 e11 e12 (zCQ a4) (by simpa using hm) hl hn rfl rfl rfl h
 · rw[if_pos hm,if_neg hl,if_pos hn];exact zFE p i i1 i2 i3 i4 i5 i6 i7 i8 i9 i10 i11 i12 i13 _ _ _ a0 a1 a2 a3 a4 a5 a6 a7 a8 a9 a10 a11 a12 _ e0 e1 e2 e3 e4 e5 e6 e7 e8 e9 e10 e11 e12 (zCQ a4) (by simpa using hm) hl hn rfl rfl rfl h
 · rw[if_pos hm,if_neg hl,if_neg hn];exact zFF p i i1 i2 i3 i4 i5 i6 i7 i8 i9 i10 i11 i12 i13 _ _ _ a0 a1 a2 a3 a4 a5 a6 a7 a8 a9 a10 a11 a12 _ e0 e1 e2 e3 e4 e5 e6 e7 e8 e9 e10 e11 e12 (zCQ a4) (by simpa using hm) hl hn rfl rfl rfl h
 · rw[if_neg hm,if_pos hl,if_pos hn];exact zFG p i i1 i2 i3 i4 i5 i6 i7 i8 i9 i10 i11 i12 i13 _ _ _ a0 a1 a2 a3 a4 a5 a6 a7 a8 a9 a10 a11 a12 _ e0 e1 e2 e3 e4 e5 e6 e7 e8 e9 e10 e11 e12 (zCQ a4) (by simpa using hm) hl hn rfl rfl rfl h
 · rw[if_neg hm,if_pos hl,if_neg hn];exact zFH p i i1 i2 i3 i4 i5 i6 i7 i8 i9 i10 i11 i12 i13 _ _ _ a0 a1 a2 a3 a4 a5 a6 a7 a8 a9 a10 a11 a12 _ e0 e1 e2 e3 e4 e5 e6 e7 e8 e9 e10 e11 e12 (zCQ a4) (by simpa using hm) hl hn rfl rfl rfl h
 · rw[if_neg hm,if_neg hl,if_pos hn];exact zFI p i i1 i2 i3 i4 i5 i6 i7 i8 i9 i10 i11 i12 i13 _ _ _ a0 a1 a2 a3 a4 a5 a6 a7 a8 a9 a10 a11 a12 _ e0 e1 e2 e3 e4 e5 e6 e7 e8 e9 e10 e11 e12 (zCQ a4) (by simpa using hm) hl hn rfl rfl rfl h
 · rw[if_neg hm,if_neg hl,if_neg hn];exact zFJ p i i1 i2 i3 i4 i5 i6 i7 i8 i9 i10 i11 i12 i13 _ _ _ a0 a1 a2 a3 a4 a5 a6 a7 a8 a9 a10 a11 a12 _ e0 e1 e2 e3 e4 e5 e6 e7 e8 e9 e10 e11 e12 (zCQ a4) (by simpa using hm) hl hn rfl rfl rfl h
variable {W0 w:World}{K:Know}{L:List Res}
theorem zAT(n lo hi:Int)(r:Bool)(hr:decide (lo≤n∧n≤hi)=r)(h:St W0 w K L):
   Calls Tryz.prog 98 #[.int .i64 n,.int .i64 lo,.int .i64 hi] w fun en w'=>en=.returned (.bool r)∧St W0 w' K L:=by
 have H:=hQd h;clear h
 by_cases h1:lo≤n
 · have d1:decide (lo≤n)=true:=decide_eq_true h1
   by_cases h2:n≤hi
   · have d2:decide (n≤hi)=true:=decide_eq_true h2;obtain rfl:true=r:=(decide_eq_true ⟨h1,h2⟩).symm.trans hr;clear h1 h2;go_enter Tryz.func98,Tryz.ntmps98;go_wp2;go_ret;exact⟨rfl,H.out⟩
   · have d2:decide (n≤hi)=false:=decide_eq_false h2;obtain rfl:false=r:=(decide_eq_false (fun x=>h2 x.2)).symm.trans hr;clear h1 h2;go_enter Tryz.func98,Tryz.ntmps98;go_wp2;go_ret;exact⟨rfl,H.out⟩
 · have d1:decide (lo≤n)=false:=decide_eq_false h1;obtain rfl:false=r:=(decide_eq_false (fun x=>h1 x.1)).symm.trans hr;clear h1;go_enter Tryz.func98,Tryz.ntmps98;go_wp2;go_ret;exact⟨rfl,H.out⟩
theorem zq5{p:Prop}(h:p:=by
  go_wp2_with (first
  |(go_at_call 98;(with_reducible refine(zAT leader (-1) 2147483647 _ HW1.out H.out).mono ?_);rintro e_ wn ⟨rfl,h⟩;replace H:=hQd h;clear h;obtain⟨x0,x1,x2,x3,x4,x5,x6,x7,x8,x9,x10,x11,y0,y1,y2,y3,y4,y5,y6,y7,y8,y9,y10,y11⟩:=zAa (b:=hb) (H.out))
  |(go_at_call 98;(with_reducible refine(zAT last 0 2147483647 _ HW2.out H.out).mono ?_);rintro e_ wn ⟨rfl,h⟩;replace H:=hQd h;clear h;obtain⟨x0,x1,x2,x3,x4,x5,x6,x7,x8,x9,x10,x11,y0,y1,y2,y3,y4,y5,y6,y7,y8,y9,y10,y11⟩:=zAa (b:=hb) (H.out)))
  go_ret;exact⟨rfl,H.out.drop⟩):p:=h
theorem zBt(base leader:Int)(app txn ctl:Bool)(last first maxt prod epoch sq:Int)(rv:Value)(r:Bool)(hr:decide (0≤base∧(-1≤leader∧leader≤2147483647)∧(0≤last∧last≤2147483647)∧base≤9223372036854775807 - last∧0≤first∧0≤maxt)=r)(h:St W0 w K L):
  Calls Tryz.prog 68 #[.agg #[.int .i64 base,.int .i64 leader,.bool app,.bool txn,.bool ctl,.int .i64 last,.int .i64 first,.int .i64 maxt,.int .i64 prod,.int .i64 epoch,.int .i64 sq,rv]] w fun en w'=>en=.returned (.bool r)∧St W0 w' K L:=by
 have h1:=h.allocRaw #[.int .i64 base,.int .i64 leader,.bool app,.bool txn,.bool ctl,.int .i64 last,.int .i64 first,.int .i64 maxt,.int .i64 prod,.int .i64 epoch,.int .i64 sq,rv] 30;obtain⟨hb,hhb⟩:∃b,w.heap.size=b:=⟨_,rfl⟩;rw[hhb]at h1;obtain⟨x0,x1,x2,x3,x4,x5,x6,x7,x8,x9,x10,x11,y0,y1,y2,y3,y4,y5,y6,y7,y8,y9,y10,y11⟩:=zAa (b:=hb) (h1);have H:=hQd h1;clear h h1
 by_cases c0:0≤base
 case neg=>
  obtain rfl:false=r:=by rw[←hr];exact(decide_eq_false (fun x=>c0 x.1)).symm
  have d0:decide (0≤base)=false:=decide_eq_false c0;clear c0;go_enter Tryz.func68,Tryz.ntmps68
  exact zq5
 by_cases c1: -1≤leader∧leader≤2147483647
 case neg=>
  obtain rfl:false=r:=by rw[←hr];exact(decide_eq_false (fun x=>c1 x.2.1)).symm
  have d0:decide (0≤base)=true:=decide_eq_true c0;have HW1:=hQd (show decide (-1≤leader∧leader≤2147483647)=false from decide_eq_false c1);clear c0 c1;go_enter Tryz.func68,Tryz.ntmps68
  exact zq5
 by_cases c2:0≤last∧last≤2147483647
 case neg=>
  obtain rfl:false=r:=by rw[←hr];exact(decide_eq_false (fun x=>c2 x.2.2.1)).symm
  have d0:decide (0≤base)=true:=decide_eq_true c0;have HW1:=hQd (show decide (-1≤leader∧leader≤2147483647)=true from decide_eq_true c1);have HW2:=hQd (show decide (0≤last∧last≤2147483647)=false from decide_eq_false c2);clear c0 c1 c2;go_enter Tryz.func68,Tryz.ntmps68
  exact zq5
 by_cases c3:base≤9223372036854775807 - last
 case neg=>
  obtain rfl:false=r:=by rw[←hr];exact(decide_eq_false (fun x=>c3 x.2.2.2.1)).symm
  have d0:decide (0≤base)=true:=decide_eq_true c0;have HW1:=hQd (show decide (-1≤leader∧leader≤2147483647)=true from decide_eq_true c1);have HW2:=hQd (show decide (0≤last∧last≤2147483647)=true from decide_eq_true c2);obtain⟨ml,hml⟩:∃ml,9223372036854775807 - last=ml:=⟨_,rfl⟩;have wl:wrap64 (9223372036854775807 - last)=ml:=by rw[←hml];unfold wrap64;omega
  have wl2:IntKind.i64.wrap (9223372036854775807 - last)=ml:=by rw[←hml];exact IntWalk.i64_in _ (by omega)
  have d3:decide (base≤ml)=false:=by rw[←hml];exact decide_eq_false c3
  clear c0 c1 c2 c3 hml;go_enter Tryz.func68,Tryz.ntmps68
  exact zq5
 by_cases c4:0≤first
 case neg=>
  obtain rfl:false=r:=by rw[←hr];exact(decide_eq_false (fun x=>c4 x.2.2.2.2.1)).symm
  have d0:decide (0≤base)=true:=decide_eq_true c0;have HW1:=hQd (show decide (-1≤leader∧leader≤2147483647)=true from decide_eq_true c1);have HW2:=hQd (show decide (0≤last∧last≤2147483647)=true from decide_eq_true c2);obtain⟨ml,hml⟩:∃ml,9223372036854775807 - last=ml:=⟨_,rfl⟩;have wl:wrap64 (9223372036854775807 - last)=ml:=by rw[←hml];unfold wrap64;omega
  have wl2:IntKind.i64.wrap (9223372036854775807 - last)=ml:=by rw[←hml];exact IntWalk.i64_in _ (by omega)
  have d3:decide (base≤ml)=true:=by rw[←hml];exact decide_eq_true c3
  have d4:decide (0≤first)=false:=decide_eq_false c4;clear c0 c1 c2 c3 c4 hml;go_enter Tryz.func68,Tryz.ntmps68
  exact zq5
 by_cases c5:0≤maxt
 case neg=>
  obtain rfl:false=r:=by rw[←hr];exact(decide_eq_false (fun x=>c5 x.2.2.2.2.2)).symm
  have d0:decide (0≤base)=true:=decide_eq_true c0;have HW1:=hQd (show decide (-1≤leader∧leader≤2147483647)=true from decide_eq_true c1);have HW2:=hQd (show decide (0≤last∧last≤2147483647)=true from decide_eq_true c2);obtain⟨ml,hml⟩:∃ml,9223372036854775807 - last=ml:=⟨_,rfl⟩;have wl:wrap64 (9223372036854775807 - last)=ml:=by rw[←hml];unfold wrap64;omega
  have wl2:IntKind.i64.wrap (9223372036854775807 - last)=ml:=by rw[←hml];exact IntWalk.i64_in _ (by omega)
  have d3:decide (base≤ml)=true:=by rw[←hml];exact decide_eq_true c3
  have d4:decide (0≤first)=true:=decide_eq_true c4;have d5:decide (0≤maxt)=false:=decide_eq_false c5;clear c0 c1 c2 c3 c4 c5 hml;go_enter Tryz.func68,Tryz.ntmps68
  exact zq5
 obtain rfl:true=r:=by rw[←hr];exact(decide_eq_true ⟨c0,c1,c2,c3,c4,c5⟩).symm
 have d0:decide (0≤base)=true:=decide_eq_true c0;have HW1:=hQd (show decide (-1≤leader∧leader≤2147483647)=true from decide_eq_true c1);have HW2:=hQd (show decide (0≤last∧last≤2147483647)=true from decide_eq_true c2);obtain⟨ml,hml⟩:∃ml,9223372036854775807 - last=ml:=⟨_,rfl⟩;have wl:wrap64 (9223372036854775807 - last)=ml:=by rw[←hml];unfold wrap64;omega
 have wl2:IntKind.i64.wrap (9223372036854775807 - last)=ml:=by rw[←hml];exact IntWalk.i64_in _ (by omega)
 have d3:decide (base≤ml)=true:=by rw[←hml];exact decide_eq_true c3
 have d4:decide (0≤first)=true:=decide_eq_true c4;have d5:decide (0≤maxt)=true:=decide_eq_true c5;clear c0 c1 c2 c3 c4 c5 hml;go_enter Tryz.func68,Tryz.ntmps68
 go_wp2_with (first
 |(go_at_call 98;(with_reducible refine(zAT leader (-1) 2147483647 _ HW1.out H.out).mono ?_);rintro e_ wn ⟨rfl,h⟩;replace H:=hQd h;clear h;obtain⟨x0,x1,x2,x3,x4,x5,x6,x7,x8,x9,x10,x11,y0,y1,y2,y3,y4,y5,y6,y7,y8,y9,y10,y11⟩:=zAa (b:=hb) (H.out))
 |(go_at_call 98;(with_reducible refine(zAT last 0 2147483647 _ HW2.out H.out).mono ?_);rintro e_ wn ⟨rfl,h⟩;replace H:=hQd h;clear h;obtain⟨x0,x1,x2,x3,x4,x5,x6,x7,x8,x9,x10,x11,y0,y1,y2,y3,y4,y5,y6,y7,y8,y9,y10,y11⟩:=zAa (b:=hb) (H.out)))
 go_ret;exact⟨rfl,H.out.drop⟩
theorem zB9(base leader:Int)(app txn ctl:Bool)(last first maxt prod epoch sq:Int)(rv:Value)(r:Bool)(hr:(if prod= -1 then decide (epoch= -1∧sq= -1∧txn=false)else if prod<0∨¬(0≤epoch∧epoch≤32767)then false else if ctl then decide (sq= -1)else decide (0≤sq∧sq≤2147483647))=r)(h:St W0 w K L):
   Calls Tryz.prog 69 #[.agg #[.int .i64 base,.int .i64 leader,.bool app,.bool txn,.bool ctl,.int .i64 last,.int .i64 first,.int .i64 maxt,.int .i64 prod,.int .i64 epoch,.int .i64 sq,rv]] w fun en w'=>en=.returned (.bool r)∧St W0 w' K L:=by
 have h1:=h.allocRaw #[.int .i64 base,.int .i64 leader,.bool app,.bool txn,.bool ctl,.int .i64 last,.int .i64 first,.int .i64 maxt,.int .i64 prod,.int .i64 epoch,.int .i64 sq,rv] 30;obtain⟨hb,hhb⟩:∃b,w.heap.size=b:=⟨_,rfl⟩;rw[hhb]at h1;obtain⟨x0,x1,x2,x3,x4,x5,x6,x7,x8,x9,x10,x11,y0,y1,y2,y3,y4,y5,y6,y7,y8,y9,y10,y11⟩:=zAa (b:=hb) (h1);have H:=hQd h1;clear h h1
 by_cases c0:prod= -1
 · rw[if_pos c0]at hr;have b0:(prod== -1)=true:=by rw[c0];rfl
   subst c0
   by_cases c1:epoch= -1
   · subst c1
     by_cases c2:sq= -1
     · subst c2;obtain rfl:(!txn)=r:=by rw[←hr];cases txn<;>rfl
       clear hr;go_enter Tryz.func69,Tryz.ntmps69;go_wp2;go_ret;exact⟨rfl,H.out.drop⟩
     · obtain rfl:false=r:=by rw[←hr];exact(decide_eq_false (fun x=>c2 x.2.1)).symm
       have b2:(sq== -1)=false:=by rw[beq_eq_false_iff_ne];exact c2
       clear hr c2;go_enter Tryz.func69,Tryz.ntmps69;go_wp2;go_ret;exact⟨rfl,H.out.drop⟩
   · obtain rfl:false=r:=by rw[←hr];exact(decide_eq_false (fun x=>c1 x.1)).symm
     have b1:(epoch== -1)=false:=by rw[beq_eq_false_iff_ne];exact c1
     clear hr c1;go_enter Tryz.func69,Tryz.ntmps69;go_wp2;go_ret;exact⟨rfl,H.out.drop⟩
 · rw[if_neg c0]at hr;have b0:(prod== -1)=false:=by rw[beq_eq_false_iff_ne];exact c0
   by_cases c1:prod<0
   · rw[if_pos (.inl c1)]at hr;subst hr;have d1:decide (prod<0)=true:=decide_eq_true c1;clear c0 c1;go_enter Tryz.func69,Tryz.ntmps69;go_wp2;go_ret;exact⟨rfl,H.out.drop⟩
   · have d1:decide (prod<0)=false:=decide_eq_false c1
     by_cases c2:0≤epoch∧epoch≤32767
     · rw[if_neg (by rintro(x|x);exact c1 x;exact x c2)]at hr;have HE:=hQd (show decide (0≤epoch∧epoch≤32767)=true from decide_eq_true c2);clear c0 c1 c2
       cases ctl with
       |true=>
        obtain rfl:(sq== -1)=r:=by rw[←hr];rfl
        clear hr;go_enter Tryz.func69,Tryz.ntmps69;go_wp2_with (first|(go_at_call 98;(with_reducible refine(zAT epoch 0 32767 _ HE.out H.out).mono ?_);rintro e_ wn ⟨rfl,h⟩;replace H:=hQd h;clear h;obtain⟨x0,x1,x2,x3,x4,x5,x6,x7,x8,x9,x10,x11,y0,y1,y2,y3,y4,y5,y6,y7,y8,y9,y10,y11⟩:=zAa (b:=hb) (H.out))|fail);go_ret;exact⟨rfl,H.out.drop⟩
       |false=>
        have HS:=hQd (show decide (0≤sq∧sq≤2147483647)=r from hr);clear hr;go_enter Tryz.func69,Tryz.ntmps69;go_wp2_with (first|(go_at_call 98;(with_reducible refine(zAT epoch 0 32767 _ HE.out H.out).mono ?_);rintro e_ wn ⟨rfl,h⟩;replace H:=hQd h;clear h;obtain⟨x0,x1,x2,x3,x4,x5,x6,x7,x8,x9,x10,x11,y0,y1,y2,y3,y4,y5,y6,y7,y8,y9,y10,y11⟩:=zAa (b:=hb) (H.out))|(go_at_call 98;(with_reducible refine(zAT sq 0 2147483647 _ HS.out H.out).mono ?_);rintro e_ wn ⟨rfl,h⟩;replace H:=hQd h;clear h;obtain⟨x0,x1,x2,x3,x4,x5,x6,x7,x8,x9,x10,x11,y0,y1,y2,y3,y4,y5,y6,y7,y8,y9,y10,y11⟩:=zAa (b:=hb) (H.out)));go_ret;exact⟨rfl,H.out.drop⟩
     · rw[if_pos (.inr c2)]at hr;subst hr;have HE:=hQd (show decide (0≤epoch∧epoch≤32767)=false from decide_eq_false c2);clear c0 c1 c2;go_enter Tryz.func69,Tryz.ntmps69;go_wp2_with (first|(go_at_call 98;(with_reducible refine(zAT epoch 0 32767 _ HE.out H.out).mono ?_);rintro e_ wn ⟨rfl,h⟩;replace H:=hQd h;clear h;obtain⟨x0,x1,x2,x3,x4,x5,x6,x7,x8,x9,x10,x11,y0,y1,y2,y3,y4,y5,y6,y7,y8,y9,y10,y11⟩:=zAa (b:=hb) (H.out))|fail);go_ret;exact⟨rfl,H.out.drop⟩
theorem zD1(base leader:Int)(app txn ctl:Bool)(last first maxt prod epoch sq:Int)(l:List (RecS×Value))(q:Option Addr)(cap:Nat)(e:Int)(he:BatS.rows ⟨base,leader,app,txn,ctl,last,first,maxt,prod,epoch,sq,l.map (·.1)⟩=e)(hf:0≤first∧first≤9223372036854775807)(hfit:FitB l)(hll:l.length≤1000000){W0 w:World}{K:Know}{L:List Res}(hk:K.has (Know.recs (.slice q l.length cap) l))(h:St W0 w K L):
  Calls Tryz.prog 72 #[.agg #[.int .i64 base,.int .i64 leader,.bool app,.bool txn,.bool ctl,.int .i64 last,.int .i64 first,.int .i64 maxt,.int .i64 prod,.int .i64 epoch,.int .i64 sq,.slice q l.length cap]] w fun en w'=>en=.returned (.int .i64 e)∧St W0 w' K L:=by
 obtain⟨tot,htot⟩:∃t,zIz first last (l.map (·.1)) (-1) first=t:=⟨_,rfl⟩;have HE:=hQd (show zP6 app maxt tot=e by rw[←he,←htot];rfl);have HT:=hQd htot;have HK:=hQd hk;have HFT:=hQd hfit;have HF:=hQd hf;obtain⟨nf,hnf⟩:∃m,-first=m:=⟨_,rfl⟩;obtain⟨mf,hmf⟩:∃m,9223372036854775807 - first=m:=⟨_,rfl⟩;have HNF:=hQd hnf;have HMF:=hQd hmf;have n1:wrap64 (-first)=nf:=by rw[←hnf];unfold wrap64;omega
 have n2:IntKind.i64.wrap (-first)=nf:=by rw[←hnf];exact IntWalk.i64_in _ (by omega)
 have m1:wrap64 (9223372036854775807 - first)=mf:=by rw[←hmf];unfold wrap64;omega
 have m2:IntKind.i64.wrap (9223372036854775807 - first)=mf:=by rw[←hmf];exact IntWalk.i64_in _ (by omega)
 have h1:=h.allocRaw #[.int .i64 base,.int .i64 leader,.bool app,.bool txn,.bool ctl,.int .i64 last,.int .i64 first,.int .i64 maxt,.int .i64 prod,.int .i64 epoch,.int .i64 sq,.slice q l.length cap] 30;obtain⟨hb,hhb⟩:∃b,w.heap.size=b:=⟨_,rfl⟩;rw[hhb]at h1;obtain⟨x0,x1,x2,x3,x4,x5,x6,x7,x8,x9,x10,x11,y0,y1,y2,y3,y4,y5,y6,y7,y8,y9,y10,y11⟩:=zAa (b:=hb) (h1);have H:=hQd h1;clear h h1 hk hfit he htot hnf hmf hf;go_enter Tryz.func72,Tryz.ntmps72;go_upto_region 1 with (fail);have hs:=H.out.drew;clear H;have H:=hQd hs;clear hs
 go_region
 clear x0 y0 x1 y1 x2 y2 x3 y3 x4 y4 x5 y5 x6 y6 x7 y7 x8 y8 x9 y9 x10 y10 x11 y11;obtain⟨x0,x1,x2,x3,x4,x5,x6,x7,x8,x9,x10,x11,y0,y1,y2,y3,y4,y5,y6,y7,y8,y9,y10,y11⟩:=zAa (b:=hb) (H.out);go_wp2;clear x0 y0 x1 y1 x2 y2 x3 y3 x4 y4 x5 y5 x6 y6 x7 y7 x8 y8 x9 y9 x10 y10 x11 y11;go_loopw [3,4,6,12] (fun av gv _ iv wr=>∃(k:Nat) (ah g:Int),k≤l.length∧av=.int .i64 ah∧gv=.int .i64 g∧iv=.int .i64 k∧Hid (zIz first last ((l.map (·.1)).drop k) ah g=tot)∧St W0 wr K (.raw hb #[.int .i64 base,.int .i64 leader,.bool app,.bool txn,.bool ctl,.int .i64 last,.int .i64 first,.int .i64 maxt,.int .i64 prod,.int .i64 epoch,.int .i64 sq,.slice q l.length cap] 30::L)) (fun _ _ _ iv _=>l.length - (intOf iv).toNat)
 case atStart=>exact⟨0,-1,first,Nat.zero_le _,rfl,rfl,rfl,HT,H.out⟩
 case round=>
  obtain⟨k,ah,g,hkl,rfl,rfl,rfl,HC,hst⟩:=hrel;clear H;have H:=hQd hst;clear hst
  by_cases hlt:k<l.length
  · have hd:=zDR l k hlt _ rfl;obtain⟨b,off,hqq⟩:=zCE HK.out H.out (by omega);subst hqq;obtain⟨⟨x,vx⟩,hx⟩:∃x,l[k]=x:=⟨_,rfl⟩;have cc:=zBA HK.out H.out k hlt (x,vx) hx;have hmem:(x,vx)∈l:=hx ▸ List.getElem_mem hlt;have xf:x.R∧HFit x.hdrs∧x.sum≤1000000:=HFT.out (x,vx) hmem;have xk:K.has (Know.flat RHdr vx 3 x.hdrs):=zBz HK.out hmem;obtain⟨qx,capx,hvx⟩:=zAu xk H.out;subst hvx;simp only at cc;obtain⟨c0,c1,c2,c3,c4,c5,c6⟩:=cc;rw[←Nat.add_assoc]at c1 c2 c3 c4 c5 c6;have hx1:l[k].1=x:=by rw[hx]
    have XF:=hQd xf;have XK:=hQd xk;have HX:=hQd hx1;clear xf xk hx1 hx hmem;obtain⟨wE,hwE⟩:∃b,wr.heap.size=b:=⟨_,rfl⟩;have hki:(k:Int)<(l.length:Int):=by omega
    have h:=H.out.allocRaw #[.int .i64 x.time,.int .i64 x.off,.bool x.key.null,.string (bb x.key.data),.bool x.val.null,.string (bb x.val.data),.slice qx x.hdrs.length capx] 54;rw[hwE]at h;clear H;have H:=hQd h;clear h;rw[HX.out]at hd;have hc:=HC.out;rw[hd,zEg]at hc;obtain⟨ec0,ec1,ec2,ec3,ec4,ec5,ec6,ef0,ef1,ef2,ef3,ef4,ef5,ef6⟩:=raw7 (b:=wE) (H.out);obtain⟨x0,x1,x2,x3,x4,x5,x6,x7,x8,x9,x10,x11,y0,y1,y2,y3,y4,y5,y6,y7,y8,y9,y10,y11⟩:=zAa (b:=hb) (H.out.p1);clear hd
    by_cases c1:x.off≤ah
    · have d1:decide (x.off≤ah)=true:=decide_eq_true c1;rw[if_pos (.inl c1)]at hc;obtain rfl:13=e:=by have:=HE.out;rw[←hc]at this;exact this
      clear c1 hc;go_wp2;go_ret;exact⟨rfl,H.out.drop.drop⟩
    · have d1:decide (x.off≤ah)=false:=decide_eq_false c1
      by_cases c2:last<x.off
      · have d2:decide (last<x.off)=true:=decide_eq_true c2;rw[if_pos (.inr c2)]at hc;obtain rfl:13=e:=by have:=HE.out;rw[←hc]at this;exact this
        clear c1 c2 hc;go_wp2;go_ret;exact⟨rfl,H.out.drop.drop⟩
      · have d2:decide (last<x.off)=false:=decide_eq_false c2;rw[if_neg (by rintro(h|h);exact c1 h;exact c2 h)]at hc;clear c1 c2
        by_cases c3:x.time< -first∨9223372036854775807 - first<x.time
        · rw[if_pos c3]at hc;obtain rfl:11=e:=by have:=HE.out;rw[←hc]at this;exact this
          have HW:=hQd (show decide (nf≤x.time∧x.time≤mf)=false by
           rw[←HNF.out,←HMF.out]
           exact decide_eq_false (by omega))
          clear c3 hc;go_wp2_with (go_at_call 98;(with_reducible refine(zAT x.time nf mf false HW.out H.out).mono ?_);rintro e_ wn ⟨rfl,h⟩;replace H:=hQd h;clear h;obtain⟨ec0,ec1,ec2,ec3,ec4,ec5,ec6,ef0,ef1,ef2,ef3,ef4,ef5,ef6⟩:=raw7 (b:=wE) (H.out);obtain⟨x0,x1,x2,x3,x4,x5,x6,x7,x8,x9,x10,x11,y0,y1,y2,y3,y4,y5,y6,y7,y8,y9,y10,y11⟩:=zAa (b:=hb) (H.out.p1));go_ret;exact⟨rfl,H.out.drop.drop⟩
        · rw[if_neg c3]at hc
          have HW:=hQd (show decide (nf≤x.time∧x.time≤mf)=true by
           rw[←HNF.out,←HMF.out]
           exact decide_eq_true (by omega))
          obtain⟨ft,hft⟩:∃t,first+x.time=t:=⟨_,rfl⟩;have f1:wrap64 (first+x.time)=ft:=by have:=HF.out;rw[←hft];unfold wrap64;omega
          have f2:IntKind.i64.wrap (first+x.time)=ft:=by have:=HF.out;rw[←hft];exact IntWalk.i64_in _ (by omega)
          rw[hft]at hc;have HC2:=hQd hc;have EM:=hQd (show max g ft=(if g<ft then ft else g) by rw[Int.max_def];split<;>split<;>omega);clear c3 hc hft;go_upto_region 9 with (go_at_call 98;(with_reducible refine(zAT x.time nf mf true HW.out H.out).mono ?_);rintro e_ wn ⟨rfl,h⟩;replace H:=hQd h;clear h;obtain⟨ec0,ec1,ec2,ec3,ec4,ec5,ec6,ef0,ef1,ef2,ef3,ef4,ef5,ef6⟩:=raw7 (b:=wE) (H.out);obtain⟨x0,x1,x2,x3,x4,x5,x6,x7,x8,x9,x10,x11,y0,y1,y2,y3,y4,y5,y6,y7,y8,y9,y10,y11⟩:=zAa (b:=hb) (H.out.p1));have hs:=H.out.drew;clear H;have H:=hQd hs;clear hs x0 y0 x1 y1 x2 y2 x3 y3 x4 y4 x5 y5 x6 y6 x7 y7 x8 y8 x9 y9 x10 y10 x11 y11 ec0 ef0 ec1 ef1 ec2 ef2 ec3 ef3 ec4 ef4 ec5 ef5 ec6 ef6;obtain⟨ec0,ec1,ec2,ec3,ec4,ec5,ec6,ef0,ef1,ef2,ef3,ef4,ef5,ef6⟩:=raw7 (b:=wE) (H.out);obtain⟨x0,x1,x2,x3,x4,x5,x6,x7,x8,x9,x10,x11,y0,y1,y2,y3,y4,y5,y6,y7,y8,y9,y10,y11⟩:=zAa (b:=hb) (H.out.p1);refine wp_region_held_drew (S:=fun w'=>w'.cell? ⟨wE,0,none⟩=some (.int .i64 x.time)∧w'.cell? ⟨wE,1,none⟩=some (.int .i64 x.off)∧w'.cell? ⟨hb,6,none⟩=some (.int .i64 first)) (by kernel_rfl) ⟨ec0,ec1,x6⟩ (fun hHeld=> ?_);clear x0 y0 x1 y1 x2 y2 x3 y3 x4 y4 x5 y5 x6 y6 x7 y7 x8 y8 x9 y9 x10 y10 x11 y11 ec0 ef0 ec1 ef1 ec2 ef2 ec3 ef3 ec4 ef4 ec5 ef5 ec6 ef6 c0 c1 c2 c3 c4 c5 c6;refine tQ 0 ⟨some 37,.fieldAddr 54 (.tmp 6) 1,0,_,_,none⟩ ?_;simp only[Act.put,sA,sB,sC];refine tQ 1 ⟨some 38,.load 3 (.tmp 37),3,_,_,none⟩ ?_;simp only[Act.put,sA,sB,sC];refine tQ 2 ⟨some 39,.move (.tmp 4),3,_,_,none⟩ ?_;simp only[Act.put,sA,sB,sC];refine tQ 3 ⟨some 40,.fieldAddr 30 (.tmp 1) 6,0,_,_,none⟩ ?_;simp only[Act.put,sA,sB,sC];refine tQ 4 ⟨some 41,.load 3 (.tmp 40),3,_,_,none⟩ ?_;simp only[Act.put,sA,sB,sC];refine tQ 5 ⟨some 42,.fieldAddr 54 (.tmp 6) 0,0,_,_,none⟩ ?_;simp only[Act.put,sA,sB,sC];refine tQ 6 ⟨some 43,.load 3 (.tmp 42),3,_,_,none⟩ ?_;simp only[Act.put,sA,sB,sC];refine tQ 7 ⟨some 44,.binOp .add 3 (.tmp 41) (.tmp 43) 3,3,_,_,none⟩ ?_;simp only[Act.put,sA,sB,sC];refine tQ 8 ⟨some 45,.call {callee:=.builtin .max,args:= #[.tmp 39,.tmp 44],argTypes:= #[3,3]},3,_,_,none⟩ ?_;simp only[Act.put,sA,sB,sC];refine tQ 9 ⟨some 3,.assign (.tmp 38),3,_,_,none⟩ ?_;simp only[Act.put,sA,sB,sC];refine tQ 10 ⟨some 4,.assign (.tmp 45),3,_,_,none⟩ ?_;simp only[Act.put,sA,sB,sC];refine wpAnyH_done (by kernel_rfl) ?_ _;clear hHeld;go_wp2_with fail;go_roundw
          case rel=>exact⟨k+1,x.off,_,hlt,rfl,rfl,by go_num,hQd (by rw[←EM.out];exact HC2.out),H.out.drop⟩
          case measure=>first|(simp[intOf];done)|(simp[intOf];omega)
  · obtain rfl:l.length=k:=by omega
    have hc:=HC.out;rw[List.drop_of_length_le (by simp)]at hc;have hc:Except.ok g=tot:=hc;have hee:=HE.out;rw[←hc]at hee;simp only[zP6]at hee;obtain⟨x0,x1,x2,x3,x4,x5,x6,x7,x8,x9,x10,x11,y0,y1,y2,y3,y4,y5,y6,y7,y8,y9,y10,y11⟩:=zAa (b:=hb) (H.out)
    cases app with
    |true=>
      obtain rfl:0=e:=by rw[←hee];rfl
      clear hc hee;go_wp2;go_ret;exact⟨rfl,H.out.drop⟩
    |false=>
      by_cases c1:maxt=g
      · subst c1;obtain rfl:0=e:=by rw[←hee];simp
        clear hc hee;go_wp2;go_ret;exact⟨rfl,H.out.drop⟩
      · obtain rfl:11=e:=by rw[←hee];simp[c1]
        have b1:(maxt==g)=false:=by rw[beq_eq_false_iff_ne];exact c1
        clear hc hee c1;go_wp2;go_ret;exact⟨rfl,H.out.drop⟩
end Go.Proofs.YtenojajfacacoaaGreatDoor
