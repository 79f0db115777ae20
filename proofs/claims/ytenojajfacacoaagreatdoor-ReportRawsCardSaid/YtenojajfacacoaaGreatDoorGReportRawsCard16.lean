/- A text. -/
import Derived.Test.YtenojajfacacoaaGreatDoorGReportRawsCard4
import Derived.Test.YtenojajfacacoaaGreatDoorGReportRawsCard7
import Derived.Test.YtenojajfacacoaaGreatDoorGReportRawsCard15
import Derived.Test.YtenojajfacacoaaGreatDoorGReportRawsCard2
import Derived.Test.YtenojajfacacoaaGreatDoorGReportRawsCard10
import Derived.RegionTactic
import Derived.WalkMore
import Derived.Deep.RegionHeld3
import Derived.Deep.DeepCutAuto
import Derived.Test.YtenojajfacacoaaGreatDoorGReportRawsCard14
import Derived.Test.YtenojajfacacoaaGreatDoorGReportRawsCard8
/- A text. -/
namespace Go.Proofs.YtenojajfacacoaaGreatDoor
open Go.RowKit
variable {W0 w:World}{K:Know}{L:List Res}
def zJu (b:BatS):List Bs:=match zB5 b with
  |(_,_,k,_,c,true)=>[if k=1 then[99,111,109,109,105,116]else[97,98,111,114,116],numW c]
  | _=>[[100,97,116,97]]
def zIW (b:BatS):List Bs:=[[98,97,116,99,104],numW b.base,numW b.prod,numW (b.recs.length:Int)]
def zA9 (b:BatS):Bs:=zAP 32 (zIW b++zJu b)++[10]
def totT (P Q:Int):Bs:=zAP 32 [[116,111,116,97,108],numW P,numW Q]++[10]
def endW (V st e:Int):List Bs:=if st=0 then[[118,97,108,105,100],numW V,[99,108,101,97,110]]else if st=1 then[[118,97,108,105,100],numW V,[116,111,114,110]]else[[118,97,108,105,100],numW V,[98,97,100],numW e]
def endT (V st e:Int):Bs:=zAP 32 (endW V st e)++[10]
def sumE (bs:List BatS):Int:=(bs.map fun b=>(b.enc.length:Int)).sum
def sumR (bs:List BatS):Int:=(bs.map fun b=>(b.recs.length:Int)).sum
def zL8 (bs:List BatS) (V:Int) (st e:Int):Bs:=bs.flatMap zA9++(totT (sumE bs) (sumR bs)++endT V st e)
theorem zFa{b:BatS}{n1 n2 n3 n4 n5:Int}(h:zB5 b=(n1,n2,n3,n4,n5,false)):zJu b=[[100,97,116,97]]:=by unfold zJu;rw[h]
theorem zDd{b:BatS}{n1 n2 n3 n4 n5:Int}(h:zB5 b=(n1,n2,n3,n4,n5,true))(hk:n3=1):zJu b=[[99,111,109,109,105,116],numW n5]:=by unfold zJu;rw[h];simp only;rw[if_pos hk]
theorem zDX{b:BatS}{n1 n2 n3 n4 n5:Int}(h:zB5 b=(n1,n2,n3,n4,n5,true))(hk:¬n3=1):zJu b=[[97,98,111,114,116],numW n5]:=by unfold zJu;rw[h];simp only;rw[if_neg hk]
theorem zE6{ops:Array Oper}{rest:List Oper}{o:Oper}{a:Act}{Q:Exit→Act→World→Prop}(hgd:o.guard=none)(sl x:Operand)(t:TypeId)
    (ho:o.op=.call {callee:=.builtin .append,args:= #[sl,x],argTypes:= #[t,t]})
    (e:TypeId){z:Value}{size bytes:Nat}(ht:Tryz.prog.underlying t=some (.slice e))(he:zER Tryz.prog e z size bytes)
    (v:Value)(n:Nat)(xs:List Value)(hs:a.eval sl=v)(hst:St W0 w K (.row v e size n xs::L))
    (m:Nat)(news:List Value)(T:TypeId)(hx:a.eval x=.slice (some ⟨w.heap.size,0,none⟩) m m)(hl:news.length=m*size)(h1:∀u∈news,u.oneCell'=true)
    (h63:n+m≤maxLen)(hbytes:(n+m)*bytes≤140737488355328)
    (h:∀v' w',St W0 w' K (.row v' e size (n+m) (xs++news)::L)→wpList Tryz.prog ops Q rest (a.put o.dst v') w'):wpList Tryz.prog ops Q (o::rest) a (w.alloc (.cells news.toArray T)):=
  zCT hgd sl x t ho e ht he v n xs hs (hst.alloc _) ⟨w.heap.size,0,none⟩ m m news hx hl (zJc w news T) h1 h63 hbytes h
theorem St.rowLitEx(h:St W0 w K L)(c:List Value)(T:TypeId)(sz n:Nat)(hc:c.length=n*sz)(hn:n≤maxLen):∃wy b,w.alloc (.cells c.toArray T)=wy∧w.heap.size=b∧St W0 wy K (.row (.slice (some ⟨b,0,none⟩) n n) T sz n c::L):=⟨_,_,rfl,rfl,h.rowLit c T sz n hc hn⟩
theorem nl_cat(t tl:Bs)(h:t++[10]=tl):bb t++(⟨#[10]⟩:ByteArray)=bb tl:=by rw[←h];exact zAg t [10]
theorem zBw(n:Int)(hn:Rn n)(t:Bs)(ht:numW n=t){W0 w:World}{K:Know}{L:List Res}(hlib:K.has Know.lib)(h:St W0 w K L):
  Calls Tryz.prog 37 #[.int .i64 n] w fun en w'=>en=.returned (.string (bb t))∧St W0 w' K L:=by
 subst ht;unfold Rn at hn;exact zPd n hn.1 (by omega) hlib h
theorem zKg(a0 a1 a2 a3:ByteArray)(w:World):(Instr.buildSlice 69 4 #[(0,.string a0),(1,.string a1),(2,.string a2),(3,.string a3)]).run Tryz.prog w=.ok (.slice (some ⟨w.heap.size,0,none⟩) 4 4) (w.alloc (.cells #[.string a0,.string a1,.string a2,.string a3] 9 (0,0))):=by go_simp
theorem zCP{o:Oper}{ρ:Operand→Value}(ps:Array (Nat×Value))(v:Value)(w w':World)(ho:execOp ρ o=(do pure (Next.value (←Instr.buildSlice 69 4 ps))))(hb:(Instr.buildSlice 69 4 ps).run Tryz.prog w=.ok v w'):(execOp ρ o).run Tryz.prog w=.ok (.value v) w':=by
 rw[ho];simp[hb,Result.andThen]
theorem EncOk.fit{b:BatS}(so:EncOk b){l:List (RecS×Value)}(hl:l.map (·.1)=b.recs):FitB l:=by
 intro x hx;obtain⟨a,c,d⟩:=so.recs x.1 (by rw[←hl];exact List.mem_map.2 ⟨x,hx,rfl⟩);have:=zE0 x.1.hdrs 1000000 (by unfold RecS.sum at d;omega);exact⟨a,fun y hy=>by have:=this y hy;omega,d⟩
theorem EncOk.llen{b:BatS}(so:EncOk b){l:List (RecS×Value)}(hl:l.map (·.1)=b.recs):l.length≤1000:=by
 have h1:=congrArg List.length hl;rw[List.length_map]at h1;have:=so.len
 omega
theorem zFX(b:BatS)(l:List (RecS×Value))(q:Option Addr)(cap:Nat)(hl:l.map (·.1)=b.recs)(n1 n2 n3 n4 n5:Int)(ok:Bool)(he:zB5 b=(n1,n2,n3,n4,n5,ok))(so:EncOk b){W0 w:World}{K:Know}{L:List Res}(hk:K.has (Know.recs (.slice q l.length cap) l))(h:St W0 w K L):
  Calls Tryz.prog 108 #[.agg #[.int .i64 b.base,.int .i64 b.leader,.bool b.app,.bool b.txn,.bool b.ctl,.int .i64 b.last,.int .i64 b.first,.int .i64 b.maxt,.int .i64 b.prod,.int .i64 b.epoch,.int .i64 b.seq,.slice q l.length cap]] w fun en w'=>en=.returned (.tuple #[.agg #[.int .i64 n1,.int .i64 n2,.int .i64 n3,.int .i64 n4,.int .i64 n5],.bool ok])∧St W0 w' K L:=
 zOw b.base b.leader b.app b.txn b.ctl b.last b.first b.maxt b.prod b.epoch b.seq l q cap n1 n2 n3 n4 n5 ok (by rw[hl];exact he) (by have:=so.rng.2.2.2.1.2;omega) (so.fit hl) (by have:=so.llen hl;omega) hk h
theorem zL1(ok:Int→Bool)(e:Int)(s:Bs):Rn (zBS 4 ok e s).1:=by
 unfold zBS;have h0:Rn 0:=by unfold Rn;decide
 have h1:Rn (sInt ((s.drop 2).take 4)):=zCh _ (by rw[List.length_take];omega)
 repeat' split
 all_goals first|exact h0|exact h1
theorem zP3(x:RecS):Rn (zBM x).2.1:=by
 unfold zBM zBC;have h0:Rn 0:=by unfold Rn;decide
 repeat' split
 all_goals first|exact h0|exact zL1 _ _ _
theorem zDk{b:BatS}{n1 n2 n3 n4 n5:Int}{ok:Bool}(he:zB5 b=(n1,n2,n3,n4,n5,ok)):Rn n5:=by
 unfold zB5 at he
 split at he
 · split at he
   · rename_i x t _
     have e:(zBM x).2.1=n5:=congrArg (fun z=>z.2.2.2.2.1) he;rw[←e];exact zP3 x
   · have e:(0:Int)=n5:=congrArg (fun z=>z.2.2.2.2.1) he;rw[←e];unfold Rn;decide
 · have e:(0:Int)=n5:=congrArg (fun z=>z.2.2.2.2.1) he;rw[←e];unfold Rn;decide
def OkB (x:BatR):Prop:=x.l.map (·.1)=x.b.recs∧EncOk x.b
theorem EncOk.elen{b:BatS}(h:EncOk b):b.enc.length≤400061:=by rw[b.enc_len];have:=h.rows;omega
theorem zPD(x:BatR)(h:OkB x):(0≤ptP x.b∧ptP x.b≤401000)∧(0≤ptQ x.b∧ptQ x.b≤1000):=by
 have h0:=h.2.err;have h1:=h.2.elen;have h2:=h.2.len;unfold ptP ptQ;rw[if_pos h0,if_pos h0]
 omega
theorem zMo:∀(l:List BatR),(∀x∈l,OkB x)→(0≤sP l∧sP l≤401000*l.length)∧(0≤sQ l∧sQ l≤1000*l.length)
  |[],_=>by simp[sP,sQ]
  |x::t,h=>by
    have h1:=zPD x (h x (List.mem_cons_self));have h2:=zMo t (fun y hy=>h y (List.mem_cons_of_mem _ hy));have e1:sP (x::t)=ptP x.b+sP t:=by unfold sP;rw[List.map_cons,List.sum_cons]
    have e2:sQ (x::t)=ptQ x.b+sQ t:=by unfold sQ;rw[List.map_cons,List.sum_cons]
    rw[e1,e2,List.length_cons]
    omega
theorem zO4:∀(l:List BatR),(∀x∈l,OkB x)→sP l=sumE (l.map BatR.b)∧sQ l=sumR (l.map BatR.b)
  |[],_=>⟨rfl,rfl⟩
  |x::t,h=>by
    have h2:=zO4 t (fun y hy=>h y (List.mem_cons_of_mem _ hy));have h0:=(h x (List.mem_cons_self)).2.err;have e1:sP (x::t)=ptP x.b+sP t:=by unfold sP;rw[List.map_cons,List.sum_cons]
    have e2:sQ (x::t)=ptQ x.b+sQ t:=by unfold sQ;rw[List.map_cons,List.sum_cons]
    have e3:sumE ((x::t).map BatR.b)=(x.b.enc.length:Int)+sumE (t.map BatR.b):=by unfold sumE;rw[List.map_cons,List.map_cons,List.sum_cons]
    have e4:sumR ((x::t).map BatR.b)=(x.b.recs.length:Int)+sumR (t.map BatR.b):=by unfold sumR;rw[List.map_cons,List.map_cons,List.sum_cons]
    rw[e1,e2,e3,e4,h2.1,h2.2];unfold ptP ptQ;rw[if_pos h0,if_pos h0];exact⟨rfl,rfl⟩
theorem convR(x:Nat)(a:Int)(h:FI x a)(ha:Wh a)(w:World):(convert 119 3 (.float .f64 x)).run Tryz.prog w=.ok (.int .i64 a) w:=by
 refine run_convert_float_int w _ _ .f64 .i64 x a (by kernel_rfl) (by kernel_rfl) ?_;unfold floatToIntVal;rw[FI.toInt h];simp only;unfold Wh at ha;rw[if_pos]
 show -9223372036854775808≤a∧a≤9223372036854775807
 omega
theorem zM0{b:BatS}(so:EncOk b):(zA9 b).length≤1000:=by
 have hR:=so.rng;have hll:=so.len;have m1:=zAm _ hR.1;have m2:=zAm _ hR.2.2.2.2.2.1;have m3:=zAm (b.recs.length:Int) (by unfold Rn;omega);unfold zA9 zIW;obtain⟨⟨n1,n2,n3,n4,n5,ok⟩,he⟩:∃y,zB5 b=y:=⟨_,rfl⟩;have m5:=zAm _ (zDk he)
 cases ok with
 |false=>rw[zFa he];simp only[List.cons_append,List.nil_append,zAP,List.length_append,List.length_cons,List.length_nil];omega
 |true=>
  by_cases hk:n3=1
  · rw[zDd he hk];simp only[List.cons_append,List.nil_append,zAP,List.length_append,List.length_cons,List.length_nil];omega
  · rw[zDX he hk];simp only[List.cons_append,List.nil_append,zAP,List.length_append,List.length_cons,List.length_nil];omega
theorem zH7(bs:List BatS)(V st e:Int)(hok:∀b∈bs,EncOk b)(hbl:bs.length≤900)(hV:Rn V)(he:Rn e)(hP:Rn (sumE bs))(hQ:Rn (sumR bs)):(zL8 bs V st e).length≤1000000:=by
 have h1:=zKS zA9 1000 bs (fun b hb=>zM0 (hok b hb));have m1:=zAm _ hP;have m2:=zAm _ hQ;have m3:=zAm _ hV;have m4:=zAm _ he;have h2:(totT (sumE bs) (sumR bs)).length≤100:=by unfold totT;simp only[zAP,List.length_append,List.length_cons,List.length_nil];omega
 have h3:(endT V st e).length≤100:=by
  unfold endT endW
  repeat' split
  all_goals (simp only[zAP,List.length_append,List.length_cons,List.length_nil];omega)
 unfold zL8;rw[List.length_append,List.length_append]
 omega
theorem zHd:∀(l:List BatS),(∀b∈l,EncOk b)→(0≤sumE l∧sumE l≤401000*l.length)∧(0≤sumR l∧sumR l≤1000*l.length)
  |[],_=>by simp[sumE,sumR]
  |x::t,h=>by
    have h2:=zHd t (fun y hy=>h y (List.mem_cons_of_mem _ hy));have h0:=(h x (List.mem_cons_self)).elen;have h1:=(h x (List.mem_cons_self)).len;have e3:sumE (x::t)=(x.enc.length:Int)+sumE t:=by unfold sumE;rw[List.map_cons,List.sum_cons]
    have e4:sumR (x::t)=(x.recs.length:Int)+sumR t:=by unfold sumR;rw[List.map_cons,List.sum_cons]
    rw[e3,e4,List.length_cons]
    omega
def Er (e:Int):Prop:=0≤e∧e≤30
theorem er0:Er 0:=⟨by decide,by decide⟩
theorem zJ2(top:Nat):∀(f r n:Nat) (l:Bs) (e:Int),zAH top f r n l=.error e→Er e
  |f,r,n,[],e,h=>by rw[zCD]at h;injection h with h;subst h;exact⟨by decide,by decide⟩
  |0,r,n,c::t,e,h=>by rw[zFc]at h;injection h with h;subst h;exact⟨by decide,by decide⟩
  |f+1,r,n,c::t,e,h=>by
    simp only[zAH]at h
    split at h
    · injection h with h;subst h;exact⟨by decide,by decide⟩
    · split at h
      · exact zJ2 top f _ _ t e h
      · cases h
theorem er_I{l:Bs}{e:Int}(h:zA4 l=.error e):Er e:=by
 unfold zA4 at h
 cases hx:zAH 15 5 0 0 l with
 |ok x=>rw[hx]at h;cases h
 |error e2=>rw[hx]at h;injection h with h;subst h;exact zJ2 _ _ _ _ _ _ hx
theorem er_L{l:Bs}{e:Int}(h:zBR l=.error e):Er e:=by
 unfold zBR at h
 cases hx:zAH 1 10 0 0 l with
 |ok x=>rw[hx]at h;cases h
 |error e2=>rw[hx]at h;injection h with h;subst h;exact zJ2 _ _ _ _ _ _ hx
theorem er_got{s:Bs}{k:Nat}{n e:Int}(h:gotS s k n=.error e):Er e:=by
 unfold gotS at h
 repeat' split at h
 all_goals first|(cases h;done)|(injection h with h;subst h;exact⟨by decide,by decide⟩)
theorem zI1{s:Bs}{e:Int}(h:zAd s=.error e):Er e:=by
 unfold zAd at h
 cases hx:zA4 s with
 |ok x=>rw[hx]at h;exact er_got h
 |error e2=>rw[hx]at h;injection h with h;subst h;exact er_I hx
theorem er_hdr{s:Bs}{e:Int}(h:zBB s=.error e):Er e:=by
 unfold zBB at h
 cases hx:zAd s with
 |error e2=>rw[hx]at h;injection h with h;subst h;exact zI1 hx
 |ok x=>
  rw[hx]at h;simp only at h
  split at h
  · injection h with h;subst h;exact⟨by decide,by decide⟩
  · cases hy:zAd (s.drop x.2)with
    |error e2=>rw[hy]at h;injection h with h;subst h;exact zI1 hy
    |ok y=>rw[hy]at h;cases h
theorem zNp:∀(n:Nat) (s:Bs) (e:Int),zAS n s=.error e→Er e
  |0,s,e,h=>by cases h
  |n+1,s,e,h=>by
    unfold zAS at h
    cases hx:zBB s with
    |error e2=>rw[hx]at h;injection h with h;subst h;exact er_hdr hx
    |ok x=>
      rw[hx]at h;simp only at h
      cases hy:zAS n (s.drop x.2)with
      |error e2=>rw[hy]at h;injection h with h;subst h;exact zNp n _ _ hy
      |ok y=>rw[hy]at h;cases h
theorem zPZ{s:Bs}{e:Int}(h:zAE s=.error e):Er e:=by
 unfold zAE at h
 cases hx:zA4 s with
 |error e2=>rw[hx]at h;injection h with h;subst h;exact er_I hx
 |ok x=>
  rw[hx]at h;simp only at h
  split at h
  · injection h with h;subst h;exact⟨by decide,by decide⟩
  · split at h
    · injection h with h;subst h;exact⟨by decide,by decide⟩
    · cases hy:zAS x.1.toNat (s.drop x.2)with
      |error e2=>rw[hy]at h;injection h with h;subst h;exact zNp _ _ _ hy
      |ok y=>rw[hy]at h;cases h
theorem zOI{s:Bs}{e:Int}(h:zAz s=.error e):Er e:=by
 unfold zAz at h
 cases h1:zAG 1 s with
 |error e2=>
  rw[h1]at h;injection h with h;subst h;unfold zAG at h1
  split at h1
  · injection h1 with h1;subst h1;exact⟨by decide,by decide⟩
  · cases h1
 |ok a=>
  rw[h1]at h;simp only at h
  split at h
  · cases h2:zBR (s.drop 1)with
    |error e2=>rw[h2]at h;injection h with h;subst h;exact er_L h2
    |ok t=>
     rw[h2]at h;simp only at h
     cases h3:zA4 (s.drop (1+t.2))with
     |error e2=>rw[h3]at h;injection h with h;subst h;exact er_I h3
     |ok o=>
      rw[h3]at h;simp only at h
      split at h
      · injection h with h;subst h;exact⟨by decide,by decide⟩
      · cases h4:zAd (s.drop (1+t.2+o.2))with
        |error e2=>rw[h4]at h;injection h with h;subst h;exact zI1 h4
        |ok k=>
         rw[h4]at h;simp only at h
         cases h5:zAd (s.drop (1+t.2+o.2+k.2))with
         |error e2=>rw[h5]at h;injection h with h;subst h;exact zI1 h5
         |ok v=>
          rw[h5]at h;simp only at h
          cases h6:zAE (s.drop (1+t.2+o.2+k.2+v.2))with
          |error e2=>rw[h6]at h;injection h with h;subst h;exact zPZ h6
          |ok y=>
           rw[h6]at h;simp only at h
           split at h
           · cases h
           · injection h with h;subst h;exact⟨by decide,by decide⟩
  · injection h with h;subst h;exact⟨by decide,by decide⟩
theorem er_rec{s:Bs}{e:Int}(h:zBU s=.error e):Er e:=by
 unfold zBU at h
 cases hx:zAd s with
 |error e2=>rw[hx]at h;injection h with h;subst h;exact zI1 hx
 |ok b=>
  rw[hx]at h;simp only at h
  split at h
  · injection h with h;subst h;exact⟨by decide,by decide⟩
  · cases hy:zAz b.1.data with
    |error e2=>rw[hy]at h;injection h with h;subst h;exact zOI hy
    |ok y=>rw[hy]at h;cases h
theorem zO7:∀(n:Nat) (s:Bs) (e:Int),unpT n s=.error e→Er e
  |0,s,e,h=>by
    unfold unpT at h
    split at h
    · cases h
    · injection h with h;subst h;exact⟨by decide,by decide⟩
  |n+1,s,e,h=>by
    unfold unpT at h
    split at h
    · injection h with h;subst h;exact⟨by decide,by decide⟩
    · cases hx:zBU s with
      |error e2=>rw[hx]at h;injection h with h;subst h;exact er_rec hx
      |ok x=>
        rw[hx]at h;simp only at h;unfold zDn at h
        cases hy:unpT n (s.drop x.2)with
        |error e2=>rw[hy]at h;injection h with h;subst h;exact zO7 n _ _ hy
        |ok y=>rw[hy]at h;cases h
theorem zNo:∀l:List RecS,Er (zBT l)
  |[]=>⟨by decide,by decide⟩
  |r::t=>by
    unfold zBT
    split
    · exact zNo t
    · unfold zAZ
      repeat' split
      all_goals exact⟨by decide,by decide⟩
theorem zO6(k:Nat)(ok:Int→Bool)(e:Int)(s:Bs)(he:Er e):Er (zBS k ok e s).2:=by
 unfold zBS
 repeat' split
 all_goals first|exact he|exact er0|exact⟨by decide,by decide⟩
theorem er_ctl(r:RecS):Er (zBM r).2.2:=by
 unfold zBM zBC;have h1:=zO6 2 way 12 r.key.data ⟨by decide,by decide⟩;have h2:=zO6 4 zB8 11 r.val.data ⟨by decide,by decide⟩
 repeat' split
 all_goals first|exact h1|exact h2|exact er0|exact⟨by decide,by decide⟩
theorem zNn(first last:Int):∀(l:List RecS) (a g e:Int),zCH first last l a g=.error e→Er e
  |[],a,g,e,h=>by cases h
  |r::t,a,g,e,h=>by
    unfold zCH at h
    split at h
    · injection h with h;subst h;exact⟨by decide,by decide⟩
    · split at h
      · injection h with h;subst h;exact⟨by decide,by decide⟩
      · exact zNn first last t _ _ e h
theorem er_bat(b:BatS):Er (zAA b):=by
 have h1:=zNo b.recs
 have h2:Er b.ends:=by
  unfold BatS.ends
  split
  · exact⟨by decide,by decide⟩
  · exact er_ctl _
 have h3:Er b.rows:=by
  unfold BatS.rows zLf
  split
  · rename_i e he;exact zNn _ _ _ _ _ _ he
  · split<;>exact⟨by decide,by decide⟩
 unfold zAA
 repeat' split
 all_goals first|exact h1|exact h2|exact h3|exact⟨by decide,by decide⟩
theorem er_chk(n:Int):Er (chk n):=by
 unfold chk
 repeat' split
 all_goals exact⟨by decide,by decide⟩
theorem zOJ{R:Bs}{e:Int}(h:zAn R=.error e):Er e:=by
 unfold zAn at h
 split at h
 · cases h
 · cases hp:zAI R with
   |error e2=>
    rw[hp]at h;injection h with h;subst h;unfold zAI at hp
    repeat' split at hp
    all_goals first|(cases hp;done)|(injection hp with hp;subst hp;exact⟨by decide,by decide⟩)
   |ok x=>
    rw[hp]at h;simp only at h
    split at h
    · cases h
    · cases ha:asmB x (R.take 61) ((R.drop 61).take (x.len - 49).toNat)with
      |ok b=>rw[ha]at h;cases h
      |error e2=>
       rw[ha]at h;injection h with h;subst h;unfold asmB at ha
       split at ha
       · injection ha with ha;subst ha;exact⟨by decide,by decide⟩
       · split at ha
         · injection ha with ha;subst ha;exact er_chk _
         · rw[zDp _ _ 0 (Nat.zero_le _)]at ha
           cases hu:unpT x.count.toNat (((R.drop 61).take (x.len - 49).toNat).drop 0)with
           |error e3=>rw[hu]at ha;injection ha with ha;subst ha;exact zO7 _ _ _ hu
           |ok rs=>
            rw[hu]at ha;simp only at ha
            split at ha
            · cases ha
            · injection ha with ha;subst ha;exact er_bat _
theorem zPY:∀(f:Nat) (R:Bs),R.length≤f→Er (zAo R).2.2:=by
 intro f
 induction f with
 |zero=>
  intro R h;obtain rfl:R=[]:=List.eq_nil_of_length_eq_zero (by omega);rw[zAy zGY];exact er0
 |succ f ih=>
  intro R h
  cases hf:zAn R with
  |error e=>rw[zBH hf];exact zOJ hf
  |ok o=>
   cases o with
   |none=>rw[zAy hf];exact er0
   |some y=>
    obtain⟨c,n⟩:=y;have h3:=(zCt hf).1;rw[zBe hf];exact ih (R.drop n) (by rw[List.length_drop];omega)
structure ToldOk (A T:Bs) (bs:List BatS) (pv:Nat) (rest:Bs) (pe ps:Int):Prop where
  fin:finS A=(bs,pv,rest,pe)
  stop:zBy rest pe=ps
  len:A.length≤90000
  ok:∀b∈bs,EncOk b
  blen:bs.length≤900
  rv:Rn (pv:Nat)
  re:Rn pe
  txt:zL8 bs (pv:Nat) ps pe=T
theorem zD2(A:Bs)(hA:A.length≤1500):∃T bs pv rest pe ps,ToldOk A T bs pv rest pe ps:=by
 obtain⟨bs,V,rest,e,h1,h2,_,_,_,_,h3⟩:=zKp A hA;have he:e=(zAo A).2.2:=by have h9:=congrArg (fun z=>z.2.2.2) h1;exact h9.symm
 have hb:bs=(zAo A).1:=by have h9:=congrArg (fun z=>z.1) h1;exact h9.symm
 have hr:=zPY A.length A (Nat.le_refl _);rw[←he]at hr;obtain⟨k,hk,_,_,_,_,_,hl⟩:=zB3 A.length A (Nat.le_refl _);rw[←hb]at hl;exact⟨_,bs,V,rest,e,_,h1,rfl,by omega,fun b hb=>EncOk.mid (h3 b hb),by omega,by unfold Rn;omega,by unfold Rn;unfold Er at hr;omega,rfl⟩
theorem rr_all(A:Bs)(bs:List BatS)(pv:Nat)(rest:Bs)(pe ps:Int){T:Bs}(tk:ToldOk A T bs pv rest pe ps){W0 w:World}{K:Know}{L:List Res}(h:St W0 w K L):
  Calls Tryz.prog 32 #[.string (bb A)] w fun en w'=>∃(q:Option Addr) (cap:Nat) (lr:List BatR),en=.returned (.agg #[.slice q lr.length cap,.int .i64 (pv:Nat),.int .i64 ps,.int .i64 pe])∧lr.map BatR.b=bs∧(∀x∈lr,zDV x)∧St W0 w' (K.and (Know.bats (.slice q lr.length cap) lr)) L:=by
 refine(zLl A tk.len h).mono ?_;rintro en w' ⟨q,cap,lr,V,rs,e,st,rfl,h1,h2,h3,_,_,h5⟩;rw[tk.fin]at h2;have e1:bs=lr.map BatR.b:=congrArg (fun z=>z.1) h2;have e2:pv=V:=congrArg (fun z=>z.2.1) h2;have e3:rest=rs:=congrArg (fun z=>z.2.2.1) h2;have e4:pe=e:=congrArg (fun z=>z.2.2.2) h2;subst e2 e3 e4;have e5:st=ps:=h1.symm.trans tk.stop;subst e5;exact⟨q,cap,lr,rfl,e1.symm,h3,h5⟩
theorem zMa(l:List BatS)(b:BatS):sumE (l++[b])=sumE l+b.enc.length:=by unfold sumE;rw[List.map_append,List.sum_append];simp
theorem zL9(l:List BatS)(b:BatS):sumR (l++[b])=sumR l+b.recs.length:=by unfold sumR;rw[List.map_append,List.sum_append];simp
theorem zH8(lr:List BatR)(k:Nat)(hk:k<lr.length)(x:BatR)(hx:lr[k]=x):(lr.take (k+1)).map BatR.b=(lr.take k).map BatR.b++[x.b]:=by rw[List.take_succ_eq_append_getElem hk,hx,List.map_append];rfl
theorem zFq(t o:Int)(n1 n2:Bool)(d1 d2:Bs)(q:Option Addr)(ln cap:Nat)(r1 r2 r3:Int)(hr:zBC n1 n2 d1 d2 ln o=(r1,r2,r3))(hd1:d1.length≤140737488355328)(hd2:d2.length≤140737488355328)(h:St W0 w K L):
 Calls Tryz.prog 26 #[.agg #[.int .i64 t,.int .i64 o,.bool n1,.string (bb d1),.bool n2,.string (bb d2),.slice q ln cap]] w fun en w'=>en=.returned (.tuple #[.int .i64 r1,.int .i64 r2,.int .i64 r3])∧St W0 w' K L:=zEd t o n1 n2 d1 d2 q ln cap (r1,r2,r3) hr hd1 hd2 h
theorem zMM(base leader:Int)(app txn:Bool)(last first maxt prod epoch sq:Int)(recs:List RecS)(l:List (RecS×Value))(q:Option Addr)(cap:Nat)(hl:l.map (·.1)=recs)(so:EncOk (⟨base,leader,app,txn,true,last,first,maxt,prod,epoch,sq,recs⟩:BatS))(hk:K.has (Know.recs (.slice q l.length cap) l))(h:St W0 w K L):
  Calls Tryz.prog 8 #[.agg #[.int .i64 base,.int .i64 leader,.bool app,.bool txn,.bool true,.int .i64 last,.int .i64 first,.int .i64 maxt,.int .i64 prod,.int .i64 epoch,.int .i64 sq,.slice q l.length cap]] w fun en w'=>en=.returned (.int .i64 0)∧St W0 w' K L:=
 zDi base leader app txn true last first maxt prod epoch sq l q cap 0 (by rw[hl];exact so.err) (by have h9:first<9223372036854775808:=so.rng.2.2.2.1.2;omega) so.rng.1 (so.fit hl) (by have:=so.llen hl;omega) hk h
set_option maxHeartbeats 4000000
set_option maxRecDepth 100000
variable {W0 w:World}{K:Know}{L:List Res}
theorem zIi(base leader:Int)(app txn:Bool)(last first maxt prod epoch sq:Int)(recs:List RecS)(l:List (RecS×Value))(q:Option Addr)(cap:Nat)(hl:l.map (·.1)=recs)(n1 n2 n3 n4 n5:Int)(he:zB5 (⟨base,leader,app,txn,false,last,first,maxt,prod,epoch,sq,recs⟩:BatS)=(n1,n2,n3,n4,n5,false))(so:EncOk (⟨base,leader,app,txn,false,last,first,maxt,prod,epoch,sq,recs⟩:BatS))(tl:Bs)(htl:zA9 (⟨base,leader,app,txn,false,last,first,maxt,prod,epoch,sq,recs⟩:BatS)=tl)(hk:K.has (Know.recs (.slice q l.length cap) l))(h:St W0 w K L):
  Calls Tryz.prog 33 #[.agg #[.int .i64 base,.int .i64 leader,.bool app,.bool txn,.bool false,.int .i64 last,.int .i64 first,.int .i64 maxt,.int .i64 prod,.int .i64 epoch,.int .i64 sq,.slice q l.length cap]] w fun en w'=>en=.returned (.string (bb tl))∧St W0 w' K L:=by
 obtain⟨tb,htb⟩:∃b,w.heap.size=b:=⟨_,rfl⟩;have g1:=h.allocRaw #[.int .i64 base,.int .i64 leader,.bool app,.bool txn,.bool false,.int .i64 last,.int .i64 first,.int .i64 maxt,.int .i64 prod,.int .i64 epoch,.int .i64 sq,.slice q l.length cap] 30;rw[htb]at g1;have y0:=g1.rawCell 0;have y1:=g1.rawCell 1;have y2:=g1.rawCell 2;have y3:=g1.rawCell 3;have y4:=g1.rawCell 4;have y5:=g1.rawCell 5;have y6:=g1.rawCell 6;have y7:=g1.rawCell 7;have y8:=g1.rawCell 8;have y9:=g1.rawCell 9;have y10:=g1.rawCell 10;have y11:=g1.rawCell 11;simp at y0 y1 y2 y3 y4 y5 y6 y7 y8 y9 y10 y11;obtain⟨d1,hd1⟩:∃t,numW base=t:=⟨_,rfl⟩;obtain⟨d2,hd2⟩:∃t,numW prod=t:=⟨_,rfl⟩;obtain⟨d3,hd3⟩:∃t,numW (l.length:Int)=t:=⟨_,rfl⟩;obtain⟨d5,hd5⟩:∃t,numW n5=t:=⟨_,rfl⟩;have hR:=so.rng;have hlen:(recs.length:Int)=(l.length:Int):=by rw[←hl,List.length_map]
 have hll:=so.llen hl;have r1:Rn base:=hR.1;have r2:Rn prod:=hR.2.2.2.2.2.1;have r3:Rn (l.length:Int):=by unfold Rn;omega
 have r5:=zDk he;have m1:=zAm _ r1;have m2:=zAm _ r2;have m3:=zAm _ r3;have m5:=zAm _ r5;rw[hd1]at m1;rw[hd2]at m2;rw[hd3]at m3;rw[hd5]at m5;obtain⟨wt,hwt⟩:∃B:Bs,[100,97,116,97]=B:=⟨_,rfl⟩;have hwl:=congrArg List.length hwt;simp only[List.length_cons,List.length_nil]at hwl;obtain⟨P1,hP1⟩:∃B:Bs,[98,97,116,99,104,32]++d1=B:=⟨_,rfl⟩;obtain⟨P2,hP2⟩:∃B:Bs,P1++[32]=B:=⟨_,rfl⟩;obtain⟨P3,hP3⟩:∃B:Bs,P2++d2=B:=⟨_,rfl⟩;obtain⟨P4,hP4⟩:∃B:Bs,P3++[32]=B:=⟨_,rfl⟩;obtain⟨P5,hP5⟩:∃B:Bs,P4++d3=B:=⟨_,rfl⟩;obtain⟨P6,hP6⟩:∃B:Bs,P5++[32]=B:=⟨_,rfl⟩;obtain⟨P7,hP7⟩:∃B:Bs,P6++wt=B:=⟨_,rfl⟩;obtain⟨P8,hP8⟩:∃B:Bs,P7++[10]=B:=⟨_,rfl⟩;have eP1:=congrArg List.length hP1;have eP2:=congrArg List.length hP2;have eP3:=congrArg List.length hP3;have eP4:=congrArg List.length hP4;have eP5:=congrArg List.length hP5;have eP6:=congrArg List.length hP6;have eP7:=congrArg List.length hP7;have eP8:=congrArg List.length hP8;simp only[List.length_append,List.length_cons,List.length_nil]at eP1 eP2 eP3 eP4 eP5 eP6 eP7 eP8;have gP1:¬(9223372036854775807<6+d1.length):=by omega
 have kP1:(⟨#[98,97,116,99,104,32]⟩:ByteArray)++bb d1=bb P1:=by rw[←hP1];exact zAg _ _
 have gP2:¬(9223372036854775807<P1.length+1):=by omega
 have kP2:bb P1++(⟨#[32]⟩:ByteArray)=bb P2:=by rw[←hP2];exact zAg _ _
 have gP3:¬(9223372036854775807<P2.length+d2.length):=by omega
 have kP3:bb P2++bb d2=bb P3:=by rw[←hP3];exact zAg _ _
 have gP4:¬(9223372036854775807<P3.length+1):=by omega
 have kP4:bb P3++(⟨#[32]⟩:ByteArray)=bb P4:=by rw[←hP4];exact zAg _ _
 have gP5:¬(9223372036854775807<P4.length+d3.length):=by omega
 have kP5:bb P4++bb d3=bb P5:=by rw[←hP5];exact zAg _ _
 have gP6:¬(9223372036854775807<P5.length+1):=by omega
 have kP6:bb P5++(⟨#[32]⟩:ByteArray)=bb P6:=by rw[←hP6];exact zAg _ _
 have gP7:¬(9223372036854775807<P6.length+4):=by omega
 have kP7:bb P6++(⟨#[100,97,116,97]⟩:ByteArray)=bb P7:=by rw[←hP7,←hwt];exact zAg _ _
 have gP8:¬(9223372036854775807<P7.length+1):=by omega
 have kP8:bb P7++(⟨#[10]⟩:ByteArray)=bb P8:=by rw[←hP8];exact zAg _ _
 have HTL:=hQd (show P8=tl by
  rw[←htl];unfold zA9 zIW;rw[zFa he];simp only[hlen,hd1,hd2,hd3,hd5];rw[←hP8,←hP7,←hP6,←hP5,←hP4,←hP3,←hP2,←hP1,←hwt]
  simp[zAP])
 have HRB:=hQd r1;have HRP:=hQd r2;have HRL:=hQd r3;have HR5:=hQd r5;have HD1:=hQd hd1;have HD2:=hQd hd2;have HD3:=hQd hd3;have HD5:=hQd hd5;have HL:=hQd hl;have HSO:=hQd so;have HK:=hQd hk;have KP:=hQd (show ∀(w':World) (L':List Res),St W0 w' K (.raw tb #[.int .i64 base,.int .i64 leader,.bool app,.bool txn,.bool false,.int .i64 last,.int .i64 first,.int .i64 maxt,.int .i64 prod,.int .i64 epoch,.int .i64 sq,.slice q l.length cap] 30::L')→(w'.cell? ⟨tb,0,none⟩=some (.int .i64 base)∧w'.cell? ⟨tb,8,none⟩=some (.int .i64 prod)∧w'.cell? ⟨tb,11,none⟩=some (.slice q l.length cap))from fun w' L' h'=>⟨h'.rawCell 0,h'.rawCell 8,h'.rawCell 11⟩);have H:=hQd g1;clear h g1 hk hl he so htl hd1 hd2 hd3 hd5 hR hlen hll r1 r2 r3 r5 m1 m2 m3 m5 hP1 hP2 hP3 hP4 hP5 hP6 hP7 hP8 eP1 eP2 eP3 eP4 eP5 eP6 eP7 eP8 hwt hwl;go_enter Tryz.func33,Tryz.ntmps33;go_upto_region 7 with fail;have hs:=H.out.drew;clear H y0 y1 y2 y3 y4 y5 y6 y7 y8 y9 y10 y11;refine wp_region_held_drew (S:=fun w'=>w'.cell? ⟨tb,0,none⟩=some (.int .i64 base)∧w'.cell? ⟨tb,8,none⟩=some (.int .i64 prod)∧w'.cell? ⟨tb,11,none⟩=some (.slice q l.length cap)) (by kernel_rfl) (KP.out _ _ hs) (fun hHeld=> ?_);refine tQ 0 ⟨some 31,.fieldAddr 30 (.tmp 1) 0,0,_,_,none⟩ ?_;simp only[Act.put,sA,sB,sC];refine tQ 1 ⟨some 32,.load 3 (.tmp 31),3,_,_,none⟩ ?_;simp only[Act.put,sA,sB,sC];refine tQ 5 ⟨some 36,.fieldAddr 30 (.tmp 1) 8,0,_,_,none⟩ ?_;simp only[Act.put,sA,sB,sC];refine tQ 6 ⟨some 37,.load 3 (.tmp 36),3,_,_,none⟩ ?_;simp only[Act.put,sA,sB,sC];refine tQ 10 ⟨some 41,.fieldAddr 30 (.tmp 1) 11,0,_,_,none⟩ ?_;simp only[Act.put,sA,sB,sC];refine tQ 11 ⟨some 42,.load 28 (.tmp 41),28,_,_,none⟩ ?_;simp only[Act.put,sA,sB,sC];refine tQ 12 ⟨some 43,.call {callee:=.builtin .len,args:= #[.tmp 42],argTypes:= #[28]},3,_,_,none⟩ ?_;simp only[Act.put,sA,sB,sC];refine tQ 16 ⟨some 47,.move (.tmp 3),9,_,_,none⟩ ?_;simp only[Act.put,sA,sB,sC];refine wpAnyH_ready (rs:=[2]) (by kernel_rfl) (by simp) (AllReadyH.cons (o:=⟨some 33,.call {callee:=.value (.func 9),args:= #[.tmp 32],argTypes:= #[3]},9,_,_,none⟩) rfl (fun KK hK=> ?_) AllReadyH.nil);go_simp;go_at_call 9;with_reducible refine(zBI base HRB.out d1 HD1.out hs).mono ?_;rintro e wq ⟨rfl,hs⟩;refine hK.out _ _ (KP.out _ _ hs) (fun hHeld=> ?_);clear hK KK
 try simp only[Act.put,sA,sB,sC]
 refine tQ 3 ⟨some 34,.binOp .add 9 (.const (Value.string {data:= #[98,97,116,99,104,32]})) (.tmp 33) 9,9,_,_,none⟩ ?_;simp only[Act.put,sA,sB,sC];refine tQ 4 ⟨some 35,.binOp .add 9 (.tmp 34) (.const (Value.string {data:= #[32]})) 9,9,_,_,none⟩ ?_;simp only[Act.put,sA,sB,sC];refine wpAnyH_ready (rs:=[7]) (by kernel_rfl) (by simp) (AllReadyH.cons (o:=⟨some 38,.call {callee:=.value (.func 9),args:= #[.tmp 37],argTypes:= #[3]},9,_,_,none⟩) rfl (fun KK hK=> ?_) AllReadyH.nil);go_simp;go_at_call 9;with_reducible refine(zBI prod HRP.out d2 HD2.out hs).mono ?_;rintro e wq ⟨rfl,hs⟩;refine hK.out _ _ (KP.out _ _ hs) (fun hHeld=> ?_);clear hK KK
 try simp only[Act.put,sA,sB,sC]
 refine tQ 8 ⟨some 39,.binOp .add 9 (.tmp 35) (.tmp 38) 9,9,_,_,none⟩ ?_;simp only[Act.put,sA,sB,sC];refine tQ 9 ⟨some 40,.binOp .add 9 (.tmp 39) (.const (Value.string {data:= #[32]})) 9,9,_,_,none⟩ ?_;simp only[Act.put,sA,sB,sC];refine wpAnyH_ready (rs:=[13]) (by kernel_rfl) (by simp) (AllReadyH.cons (o:=⟨some 44,.call {callee:=.value (.func 9),args:= #[.tmp 43],argTypes:= #[3]},9,_,_,none⟩) rfl (fun KK hK=> ?_) AllReadyH.nil);go_simp;go_at_call 9;with_reducible refine(zBI (l.length:Int) HRL.out d3 HD3.out hs).mono ?_;rintro e wq ⟨rfl,hs⟩;refine hK.out _ _ (KP.out _ _ hs) (fun hHeld=> ?_);clear hK KK
 try simp only[Act.put,sA,sB,sC]
 refine tQ 14 ⟨some 45,.binOp .add 9 (.tmp 40) (.tmp 44) 9,9,_,_,none⟩ ?_;simp only[Act.put,sA,sB,sC];refine tQ 15 ⟨some 46,.binOp .add 9 (.tmp 45) (.const (Value.string {data:= #[32]})) 9,9,_,_,none⟩ ?_;simp only[Act.put,sA,sB,sC];refine tQ 17 ⟨some 48,.binOp .add 9 (.tmp 46) (.tmp 47) 9,9,_,_,none⟩ ?_;simp only[Act.put,sA,sB,sC];refine tQ 18 ⟨some 49,.binOp .add 9 (.tmp 48) (.const (Value.string {data:= #[10]})) 9,9,_,_,none⟩ ?_;simp only[Act.put,sA,sB,sC];refine tQ 19 ⟨some 2,.assign (.tmp 49),9,_,_,none⟩ ?_;simp only[Act.put,sA,sB,sC];refine wpAnyH_done (by kernel_rfl) ?_ _;clear hHeld;have H:=hQd hs;clear hs;go_wp2_with fail;go_ret;exact⟨by rw[←HTL.out];rfl,H.out.drop⟩
theorem zGj(base leader:Int)(app txn:Bool)(last first maxt prod epoch sq:Int)(recs:List RecS)(l:List (RecS×Value))(q:Option Addr)(cap:Nat)(hl:l.map (·.1)=recs)(n1 n2 n3 n4 n5:Int)(he:zB5 (⟨base,leader,app,txn,true,last,first,maxt,prod,epoch,sq,recs⟩:BatS)=(n1,n2,n3,n4,n5,true))(hk1:n3=1)(so:EncOk (⟨base,leader,app,txn,true,last,first,maxt,prod,epoch,sq,recs⟩:BatS))(tl:Bs)(htl:zA9 (⟨base,leader,app,txn,true,last,first,maxt,prod,epoch,sq,recs⟩:BatS)=tl)(hk:K.has (Know.recs (.slice q l.length cap) l))(h:St W0 w K L):
  Calls Tryz.prog 33 #[.agg #[.int .i64 base,.int .i64 leader,.bool app,.bool txn,.bool true,.int .i64 last,.int .i64 first,.int .i64 maxt,.int .i64 prod,.int .i64 epoch,.int .i64 sq,.slice q l.length cap]] w fun en w'=>en=.returned (.string (bb tl))∧St W0 w' K L:=by
 obtain⟨tb,htb⟩:∃b,w.heap.size=b:=⟨_,rfl⟩;have g1:=h.allocRaw #[.int .i64 base,.int .i64 leader,.bool app,.bool txn,.bool true,.int .i64 last,.int .i64 first,.int .i64 maxt,.int .i64 prod,.int .i64 epoch,.int .i64 sq,.slice q l.length cap] 30;rw[htb]at g1;have y0:=g1.rawCell 0;have y1:=g1.rawCell 1;have y2:=g1.rawCell 2;have y3:=g1.rawCell 3;have y4:=g1.rawCell 4;have y5:=g1.rawCell 5;have y6:=g1.rawCell 6;have y7:=g1.rawCell 7;have y8:=g1.rawCell 8;have y9:=g1.rawCell 9;have y10:=g1.rawCell 10;have y11:=g1.rawCell 11;simp at y0 y1 y2 y3 y4 y5 y6 y7 y8 y9 y10 y11;obtain⟨d1,hd1⟩:∃t,numW base=t:=⟨_,rfl⟩;obtain⟨d2,hd2⟩:∃t,numW prod=t:=⟨_,rfl⟩;obtain⟨d3,hd3⟩:∃t,numW (l.length:Int)=t:=⟨_,rfl⟩;obtain⟨d5,hd5⟩:∃t,numW n5=t:=⟨_,rfl⟩;have hR:=so.rng;have hlen:(recs.length:Int)=(l.length:Int):=by rw[←hl,List.length_map]
 have hll:=so.llen hl;have r1:Rn base:=hR.1;have r2:Rn prod:=hR.2.2.2.2.2.1;have r3:Rn (l.length:Int):=by unfold Rn;omega
 have r5:=zDk he;have m1:=zAm _ r1;have m2:=zAm _ r2;have m3:=zAm _ r3;have m5:=zAm _ r5;rw[hd1]at m1;rw[hd2]at m2;rw[hd3]at m3;rw[hd5]at m5;have hab:(97::98::111::114::116::32::d5:Bs).length≤50:=by simp only[List.length_cons];omega
 obtain⟨wa,hwa⟩:∃B:Bs,[97,98,111,114,116,32]++d5=B:=⟨_,rfl⟩;have ga:¬(9223372036854775807<6+d5.length):=by omega
 have ka:(⟨#[97,98,111,114,116,32]⟩:ByteArray)++bb d5=bb wa:=by rw[←hwa];exact zAg _ _
 obtain⟨wt,hwt⟩:∃B:Bs,[99,111,109,109,105,116,32]++d5=B:=⟨_,rfl⟩;have gc:¬(9223372036854775807<7+d5.length):=by omega
 have kc:(⟨#[99,111,109,109,105,116,32]⟩:ByteArray)++bb d5=bb wt:=by rw[←hwt];exact zAg _ _
 have hwl:=congrArg List.length hwt;simp only[List.length_append,List.length_cons,List.length_nil]at hwl;have e1:(n3==1)=true:=by rw[beq_iff_eq];exact hk1
 obtain⟨P1,hP1⟩:∃B:Bs,[98,97,116,99,104,32]++d1=B:=⟨_,rfl⟩;obtain⟨P2,hP2⟩:∃B:Bs,P1++[32]=B:=⟨_,rfl⟩;obtain⟨P3,hP3⟩:∃B:Bs,P2++d2=B:=⟨_,rfl⟩;obtain⟨P4,hP4⟩:∃B:Bs,P3++[32]=B:=⟨_,rfl⟩;obtain⟨P5,hP5⟩:∃B:Bs,P4++d3=B:=⟨_,rfl⟩;obtain⟨P6,hP6⟩:∃B:Bs,P5++[32]=B:=⟨_,rfl⟩;obtain⟨P7,hP7⟩:∃B:Bs,P6++wt=B:=⟨_,rfl⟩;obtain⟨P8,hP8⟩:∃B:Bs,P7++[10]=B:=⟨_,rfl⟩;have eP1:=congrArg List.length hP1;have eP2:=congrArg List.length hP2;have eP3:=congrArg List.length hP3;have eP4:=congrArg List.length hP4;have eP5:=congrArg List.length hP5;have eP6:=congrArg List.length hP6;have eP7:=congrArg List.length hP7;have eP8:=congrArg List.length hP8;simp only[List.length_append,List.length_cons,List.length_nil]at eP1 eP2 eP3 eP4 eP5 eP6 eP7 eP8;have gP1:¬(9223372036854775807<6+d1.length):=by omega
 have kP1:(⟨#[98,97,116,99,104,32]⟩:ByteArray)++bb d1=bb P1:=by rw[←hP1];exact zAg _ _
 have gP2:¬(9223372036854775807<P1.length+1):=by omega
 have kP2:bb P1++(⟨#[32]⟩:ByteArray)=bb P2:=by rw[←hP2];exact zAg _ _
 have gP3:¬(9223372036854775807<P2.length+d2.length):=by omega
 have kP3:bb P2++bb d2=bb P3:=by rw[←hP3];exact zAg _ _
 have gP4:¬(9223372036854775807<P3.length+1):=by omega
 have kP4:bb P3++(⟨#[32]⟩:ByteArray)=bb P4:=by rw[←hP4];exact zAg _ _
 have gP5:¬(9223372036854775807<P4.length+d3.length):=by omega
 have kP5:bb P4++bb d3=bb P5:=by rw[←hP5];exact zAg _ _
 have gP6:¬(9223372036854775807<P5.length+1):=by omega
 have kP6:bb P5++(⟨#[32]⟩:ByteArray)=bb P6:=by rw[←hP6];exact zAg _ _
 have gP7:¬(9223372036854775807<P6.length+wt.length):=by omega
 have kP7:bb P6++bb wt=bb P7:=by rw[←hP7];exact zAg _ _
 have gP8:¬(9223372036854775807<P7.length+1):=by omega
 have kP8:bb P7++(⟨#[10]⟩:ByteArray)=bb P8:=by rw[←hP8];exact zAg _ _
 have HTL:=hQd (show P8=tl by
  rw[←htl];unfold zA9 zIW;rw[zDd he hk1];simp only[hlen,hd1,hd2,hd3,hd5];rw[←hP8,←hP7,←hP6,←hP5,←hP4,←hP3,←hP2,←hP1,←hwt]
  simp[zAP])
 have HRB:=hQd r1;have HRP:=hQd r2;have HRL:=hQd r3;have HR5:=hQd r5;have HD1:=hQd hd1;have HD2:=hQd hd2;have HD3:=hQd hd3;have HD5:=hQd hd5;have HL:=hQd hl;have HSO:=hQd so;have HK:=hQd hk;have KP:=hQd (show ∀(w':World) (L':List Res),St W0 w' K (.raw tb #[.int .i64 base,.int .i64 leader,.bool app,.bool txn,.bool true,.int .i64 last,.int .i64 first,.int .i64 maxt,.int .i64 prod,.int .i64 epoch,.int .i64 sq,.slice q l.length cap] 30::L')→(w'.cell? ⟨tb,0,none⟩=some (.int .i64 base)∧w'.cell? ⟨tb,8,none⟩=some (.int .i64 prod)∧w'.cell? ⟨tb,11,none⟩=some (.slice q l.length cap))from fun w' L' h'=>⟨h'.rawCell 0,h'.rawCell 8,h'.rawCell 11⟩);have H:=hQd g1;obtain⟨x,hx,hx0,_,_⟩:=zC6 _ so.err rfl;have hx:recs=[x]:=hx;obtain⟨e3,he3⟩:∃r,(zBM x).2.2=r:=⟨_,rfl⟩;have he2:=he;unfold zB5 at he2;rw[if_pos ⟨rfl,so.err⟩]at he2;simp only[hx]at he2;have hn3:(zBM x).1=n3:=congrArg (fun z=>z.2.2.1) he2;have hn5:(zBM x).2.1=n5:=congrArg (fun z=>z.2.2.2.2.1) he2;have HCR:=hQd (show zBC x.key.null x.val.null x.key.data x.val.data x.hdrs.length x.off=(n3,n5,e3)from Prod.ext hn3 (Prod.ext hn5 he3));have hmem:x∈recs:=by rw[hx];simp
 have hxs:=(so.recs x hmem).2.2;have HKD:=hQd (show x.key.data.length≤140737488355328 by unfold RecS.sum at hxs;omega);have HVD:=hQd (show x.val.data.length≤140737488355328 by unfold RecS.sum at hxs;omega)
 obtain⟨⟨x',v⟩,hlx⟩:∃y,l=[y]:=by
  rw[hx]at hl
  match l,hl with
  |[y],_=>exact⟨y,rfl⟩
 have hx':x'=x:=by rw[hlx,hx]at hl;simpa using hl
 subst hx';have hl0:0<l.length:=by rw[hlx];simp
 have hlg:l[0]=(x',v):=by simp[hlx]
 obtain⟨eb,eo,hqq⟩:=zBQ hk g1 hl0;subst hqq;have hHK0:=zA5 hk (x:=(x',v)) (by rw[hlx];simp);obtain⟨hq,hcap,hvh⟩:=zNh hHK0 g1;simp only at hvh;subst hvh
 have KR:=hQd (show ∀(w':World) (L':List Res),St W0 w' K L'→(w'.cell? ⟨eb,eo,none⟩=some (.int .i64 x'.time)∧w'.cell? ⟨eb,eo+1,none⟩=some (.int .i64 x'.off)∧w'.cell? ⟨eb,eo+2,none⟩=some (.bool x'.key.null)∧w'.cell? ⟨eb,eo+3,none⟩=some (.string (bb x'.key.data))∧w'.cell? ⟨eb,eo+4,none⟩=some (.bool x'.val.null)∧w'.cell? ⟨eb,eo+5,none⟩=some (.string (bb x'.val.data))∧w'.cell? ⟨eb,eo+6,none⟩=some (.slice hq x'.hdrs.length hcap))from fun w' L' h'=>by
  have cc:=zAY hk h' 0 hl0 _ hlg;simp only[←Nat.add_assoc,Nat.zero_mul,Nat.add_zero]at cc
  exact cc)
 have hlli:(0:Int)<(l.length:Int):=by omega
 clear h g1 hk hl he so htl hd1 hd2 hd3 hd5 hR hlen hll r1 r2 r3 r5 m1 m2 m3 m5 hP1 hP2 hP3 hP4 hP5 hP6 hP7 hP8 eP1 eP2 eP3 eP4 eP5 eP6 eP7 eP8 hab hwt hwl hwa hx hx0 he3 he2 hn3 hn5 hmem hxs hlx hl0 hlg hHK0 hk1;go_enter Tryz.func33,Tryz.ntmps33
 go_upto_region 7 with (first
  |(go_at_call 8;(try clear y0 y1 y2 y3 y4 y5 y6 y7 y8 y9 y10 y11);(with_reducible refine(zMM base leader app txn last first maxt prod epoch sq recs l (some ⟨eb,eo,none⟩) cap HL.out HSO.out HK.out H.out).mono ?_);rintro e_ wn ⟨rfl,h⟩;have y0:=h.rawCell 0;have y1:=h.rawCell 1;have y2:=h.rawCell 2;have y3:=h.rawCell 3;have y4:=h.rawCell 4;have y5:=h.rawCell 5;have y6:=h.rawCell 6;have y7:=h.rawCell 7;have y8:=h.rawCell 8;have y9:=h.rawCell 9;have y10:=h.rawCell 10;have y11:=h.rawCell 11;simp at y0 y1 y2 y3 y4 y5 y6 y7 y8 y9 y10 y11;obtain⟨c0,c1,c2,c3,c4,c5,c6⟩:=KR.out _ _ h;replace H:=hQd h;clear h)
  |(go_at_call 26;(with_reducible refine(zFq x'.time x'.off x'.key.null x'.val.null x'.key.data x'.val.data hq x'.hdrs.length hcap n3 n5 e3 HCR.out HKD.out HVD.out H.out).mono ?_);rintro e_ wn ⟨rfl,h⟩;replace H:=hQd h;clear h)
  |(go_at_call 9;(with_reducible refine(zBI n5 HR5.out d5 HD5.out H.out).mono ?_);rintro e_ wn ⟨rfl,h⟩;replace H:=hQd h;clear h))
 have hs:=H.out.drew;clear H y0 y1 y2 y3 y4 y5 y6 y7 y8 y9 y10 y11;refine wp_region_held_drew (S:=fun w'=>w'.cell? ⟨tb,0,none⟩=some (.int .i64 base)∧w'.cell? ⟨tb,8,none⟩=some (.int .i64 prod)∧w'.cell? ⟨tb,11,none⟩=some (.slice (some ⟨eb,eo,none⟩) l.length cap)) (by kernel_rfl) (KP.out _ _ hs) (fun hHeld=> ?_);refine tQ 0 ⟨some 31,.fieldAddr 30 (.tmp 1) 0,0,_,_,none⟩ ?_;simp only[Act.put,sA,sB,sC];refine tQ 1 ⟨some 32,.load 3 (.tmp 31),3,_,_,none⟩ ?_;simp only[Act.put,sA,sB,sC];refine tQ 5 ⟨some 36,.fieldAddr 30 (.tmp 1) 8,0,_,_,none⟩ ?_;simp only[Act.put,sA,sB,sC];refine tQ 6 ⟨some 37,.load 3 (.tmp 36),3,_,_,none⟩ ?_;simp only[Act.put,sA,sB,sC];refine tQ 10 ⟨some 41,.fieldAddr 30 (.tmp 1) 11,0,_,_,none⟩ ?_;simp only[Act.put,sA,sB,sC];refine tQ 11 ⟨some 42,.load 28 (.tmp 41),28,_,_,none⟩ ?_;simp only[Act.put,sA,sB,sC];refine tQ 12 ⟨some 43,.call {callee:=.builtin .len,args:= #[.tmp 42],argTypes:= #[28]},3,_,_,none⟩ ?_;simp only[Act.put,sA,sB,sC];refine tQ 16 ⟨some 47,.move (.tmp 3),9,_,_,none⟩ ?_;simp only[Act.put,sA,sB,sC];refine wpAnyH_ready (rs:=[2]) (by kernel_rfl) (by simp) (AllReadyH.cons (o:=⟨some 33,.call {callee:=.value (.func 9),args:= #[.tmp 32],argTypes:= #[3]},9,_,_,none⟩) rfl (fun KK hK=> ?_) AllReadyH.nil);go_simp;go_at_call 9;with_reducible refine(zBI base HRB.out d1 HD1.out hs).mono ?_;rintro e wq ⟨rfl,hs⟩;refine hK.out _ _ (KP.out _ _ hs) (fun hHeld=> ?_);clear hK KK
 try simp only[Act.put,sA,sB,sC]
 refine tQ 3 ⟨some 34,.binOp .add 9 (.const (Value.string {data:= #[98,97,116,99,104,32]})) (.tmp 33) 9,9,_,_,none⟩ ?_;simp only[Act.put,sA,sB,sC];refine tQ 4 ⟨some 35,.binOp .add 9 (.tmp 34) (.const (Value.string {data:= #[32]})) 9,9,_,_,none⟩ ?_;simp only[Act.put,sA,sB,sC];refine wpAnyH_ready (rs:=[7]) (by kernel_rfl) (by simp) (AllReadyH.cons (o:=⟨some 38,.call {callee:=.value (.func 9),args:= #[.tmp 37],argTypes:= #[3]},9,_,_,none⟩) rfl (fun KK hK=> ?_) AllReadyH.nil);go_simp;go_at_call 9;with_reducible refine(zBI prod HRP.out d2 HD2.out hs).mono ?_;rintro e wq ⟨rfl,hs⟩;refine hK.out _ _ (KP.out _ _ hs) (fun hHeld=> ?_);clear hK KK
 try simp only[Act.put,sA,sB,sC]
 refine tQ 8 ⟨some 39,.binOp .add 9 (.tmp 35) (.tmp 38) 9,9,_,_,none⟩ ?_;simp only[Act.put,sA,sB,sC];refine tQ 9 ⟨some 40,.binOp .add 9 (.tmp 39) (.const (Value.string {data:= #[32]})) 9,9,_,_,none⟩ ?_;simp only[Act.put,sA,sB,sC];refine wpAnyH_ready (rs:=[13]) (by kernel_rfl) (by simp) (AllReadyH.cons (o:=⟨some 44,.call {callee:=.value (.func 9),args:= #[.tmp 43],argTypes:= #[3]},9,_,_,none⟩) rfl (fun KK hK=> ?_) AllReadyH.nil);go_simp;go_at_call 9;with_reducible refine(zBI (l.length:Int) HRL.out d3 HD3.out hs).mono ?_;rintro e wq ⟨rfl,hs⟩;refine hK.out _ _ (KP.out _ _ hs) (fun hHeld=> ?_);clear hK KK
 try simp only[Act.put,sA,sB,sC]
 refine tQ 14 ⟨some 45,.binOp .add 9 (.tmp 40) (.tmp 44) 9,9,_,_,none⟩ ?_;simp only[Act.put,sA,sB,sC];refine tQ 15 ⟨some 46,.binOp .add 9 (.tmp 45) (.const (Value.string {data:= #[32]})) 9,9,_,_,none⟩ ?_;simp only[Act.put,sA,sB,sC];refine tQ 17 ⟨some 48,.binOp .add 9 (.tmp 46) (.tmp 47) 9,9,_,_,none⟩ ?_;simp only[Act.put,sA,sB,sC];refine tQ 18 ⟨some 49,.binOp .add 9 (.tmp 48) (.const (Value.string {data:= #[10]})) 9,9,_,_,none⟩ ?_;simp only[Act.put,sA,sB,sC];refine tQ 19 ⟨some 2,.assign (.tmp 49),9,_,_,none⟩ ?_;simp only[Act.put,sA,sB,sC];refine wpAnyH_done (by kernel_rfl) ?_ _;clear hHeld;have H:=hQd hs;clear hs;go_wp2_with fail;go_ret;exact⟨by rw[←HTL.out];rfl,H.out.drop⟩
theorem zHg(base leader:Int)(app txn:Bool)(last first maxt prod epoch sq:Int)(recs:List RecS)(l:List (RecS×Value))(q:Option Addr)(cap:Nat)(hl:l.map (·.1)=recs)(n1 n2 n3 n4 n5:Int)(he:zB5 (⟨base,leader,app,txn,true,last,first,maxt,prod,epoch,sq,recs⟩:BatS)=(n1,n2,n3,n4,n5,true))(hk1:¬n3=1)(so:EncOk (⟨base,leader,app,txn,true,last,first,maxt,prod,epoch,sq,recs⟩:BatS))(tl:Bs)(htl:zA9 (⟨base,leader,app,txn,true,last,first,maxt,prod,epoch,sq,recs⟩:BatS)=tl)(hk:K.has (Know.recs (.slice q l.length cap) l))(h:St W0 w K L):
  Calls Tryz.prog 33 #[.agg #[.int .i64 base,.int .i64 leader,.bool app,.bool txn,.bool true,.int .i64 last,.int .i64 first,.int .i64 maxt,.int .i64 prod,.int .i64 epoch,.int .i64 sq,.slice q l.length cap]] w fun en w'=>en=.returned (.string (bb tl))∧St W0 w' K L:=by
 obtain⟨tb,htb⟩:∃b,w.heap.size=b:=⟨_,rfl⟩;have g1:=h.allocRaw #[.int .i64 base,.int .i64 leader,.bool app,.bool txn,.bool true,.int .i64 last,.int .i64 first,.int .i64 maxt,.int .i64 prod,.int .i64 epoch,.int .i64 sq,.slice q l.length cap] 30;rw[htb]at g1;have y0:=g1.rawCell 0;have y1:=g1.rawCell 1;have y2:=g1.rawCell 2;have y3:=g1.rawCell 3;have y4:=g1.rawCell 4;have y5:=g1.rawCell 5;have y6:=g1.rawCell 6;have y7:=g1.rawCell 7;have y8:=g1.rawCell 8;have y9:=g1.rawCell 9;have y10:=g1.rawCell 10;have y11:=g1.rawCell 11;simp at y0 y1 y2 y3 y4 y5 y6 y7 y8 y9 y10 y11;obtain⟨d1,hd1⟩:∃t,numW base=t:=⟨_,rfl⟩;obtain⟨d2,hd2⟩:∃t,numW prod=t:=⟨_,rfl⟩;obtain⟨d3,hd3⟩:∃t,numW (l.length:Int)=t:=⟨_,rfl⟩;obtain⟨d5,hd5⟩:∃t,numW n5=t:=⟨_,rfl⟩;have hR:=so.rng;have hlen:(recs.length:Int)=(l.length:Int):=by rw[←hl,List.length_map]
 have hll:=so.llen hl;have r1:Rn base:=hR.1;have r2:Rn prod:=hR.2.2.2.2.2.1;have r3:Rn (l.length:Int):=by unfold Rn;omega
 have r5:=zDk he;have m1:=zAm _ r1;have m2:=zAm _ r2;have m3:=zAm _ r3;have m5:=zAm _ r5;rw[hd1]at m1;rw[hd2]at m2;rw[hd3]at m3;rw[hd5]at m5;have hab:(97::98::111::114::116::32::d5:Bs).length≤50:=by simp only[List.length_cons];omega
 obtain⟨wt,hwt⟩:∃B:Bs,[97,98,111,114,116,32]++d5=B:=⟨_,rfl⟩;have ga:¬(9223372036854775807<6+d5.length):=by omega
 have ka:(⟨#[97,98,111,114,116,32]⟩:ByteArray)++bb d5=bb wt:=by rw[←hwt];exact zAg _ _
 have hwl:=congrArg List.length hwt;simp only[List.length_append,List.length_cons,List.length_nil]at hwl;have e1:(n3==1)=false:=by rw[beq_eq_false_iff_ne];exact hk1
 obtain⟨P1,hP1⟩:∃B:Bs,[98,97,116,99,104,32]++d1=B:=⟨_,rfl⟩;obtain⟨P2,hP2⟩:∃B:Bs,P1++[32]=B:=⟨_,rfl⟩;obtain⟨P3,hP3⟩:∃B:Bs,P2++d2=B:=⟨_,rfl⟩;obtain⟨P4,hP4⟩:∃B:Bs,P3++[32]=B:=⟨_,rfl⟩;obtain⟨P5,hP5⟩:∃B:Bs,P4++d3=B:=⟨_,rfl⟩;obtain⟨P6,hP6⟩:∃B:Bs,P5++[32]=B:=⟨_,rfl⟩;obtain⟨P7,hP7⟩:∃B:Bs,P6++wt=B:=⟨_,rfl⟩;obtain⟨P8,hP8⟩:∃B:Bs,P7++[10]=B:=⟨_,rfl⟩;have eP1:=congrArg List.length hP1;have eP2:=congrArg List.length hP2;have eP3:=congrArg List.length hP3;have eP4:=congrArg List.length hP4;have eP5:=congrArg List.length hP5;have eP6:=congrArg List.length hP6;have eP7:=congrArg List.length hP7;have eP8:=congrArg List.length hP8;simp only[List.length_append,List.length_cons,List.length_nil]at eP1 eP2 eP3 eP4 eP5 eP6 eP7 eP8;have gP1:¬(9223372036854775807<6+d1.length):=by omega
 have kP1:(⟨#[98,97,116,99,104,32]⟩:ByteArray)++bb d1=bb P1:=by rw[←hP1];exact zAg _ _
 have gP2:¬(9223372036854775807<P1.length+1):=by omega
 have kP2:bb P1++(⟨#[32]⟩:ByteArray)=bb P2:=by rw[←hP2];exact zAg _ _
 have gP3:¬(9223372036854775807<P2.length+d2.length):=by omega
 have kP3:bb P2++bb d2=bb P3:=by rw[←hP3];exact zAg _ _
 have gP4:¬(9223372036854775807<P3.length+1):=by omega
 have kP4:bb P3++(⟨#[32]⟩:ByteArray)=bb P4:=by rw[←hP4];exact zAg _ _
 have gP5:¬(9223372036854775807<P4.length+d3.length):=by omega
 have kP5:bb P4++bb d3=bb P5:=by rw[←hP5];exact zAg _ _
 have gP6:¬(9223372036854775807<P5.length+1):=by omega
 have kP6:bb P5++(⟨#[32]⟩:ByteArray)=bb P6:=by rw[←hP6];exact zAg _ _
 have gP7:¬(9223372036854775807<P6.length+wt.length):=by omega
 have kP7:bb P6++bb wt=bb P7:=by rw[←hP7];exact zAg _ _
 have gP8:¬(9223372036854775807<P7.length+1):=by omega
 have kP8:bb P7++(⟨#[10]⟩:ByteArray)=bb P8:=by rw[←hP8];exact zAg _ _
 have HTL:=hQd (show P8=tl by
  rw[←htl];unfold zA9 zIW;rw[zDX he hk1];simp only[hlen,hd1,hd2,hd3,hd5];rw[←hP8,←hP7,←hP6,←hP5,←hP4,←hP3,←hP2,←hP1,←hwt]
  simp[zAP])
 have HRB:=hQd r1;have HRP:=hQd r2;have HRL:=hQd r3;have HR5:=hQd r5;have HD1:=hQd hd1;have HD2:=hQd hd2;have HD3:=hQd hd3;have HD5:=hQd hd5;have HL:=hQd hl;have HSO:=hQd so;have HK:=hQd hk;have KP:=hQd (show ∀(w':World) (L':List Res),St W0 w' K (.raw tb #[.int .i64 base,.int .i64 leader,.bool app,.bool txn,.bool true,.int .i64 last,.int .i64 first,.int .i64 maxt,.int .i64 prod,.int .i64 epoch,.int .i64 sq,.slice q l.length cap] 30::L')→(w'.cell? ⟨tb,0,none⟩=some (.int .i64 base)∧w'.cell? ⟨tb,8,none⟩=some (.int .i64 prod)∧w'.cell? ⟨tb,11,none⟩=some (.slice q l.length cap))from fun w' L' h'=>⟨h'.rawCell 0,h'.rawCell 8,h'.rawCell 11⟩);have H:=hQd g1;obtain⟨x,hx,hx0,_,_⟩:=zC6 _ so.err rfl;have hx:recs=[x]:=hx;obtain⟨e3,he3⟩:∃r,(zBM x).2.2=r:=⟨_,rfl⟩;have he2:=he;unfold zB5 at he2;rw[if_pos ⟨rfl,so.err⟩]at he2;simp only[hx]at he2;have hn3:(zBM x).1=n3:=congrArg (fun z=>z.2.2.1) he2;have hn5:(zBM x).2.1=n5:=congrArg (fun z=>z.2.2.2.2.1) he2;have HCR:=hQd (show zBC x.key.null x.val.null x.key.data x.val.data x.hdrs.length x.off=(n3,n5,e3)from Prod.ext hn3 (Prod.ext hn5 he3));have hmem:x∈recs:=by rw[hx];simp
 have hxs:=(so.recs x hmem).2.2;have HKD:=hQd (show x.key.data.length≤140737488355328 by unfold RecS.sum at hxs;omega);have HVD:=hQd (show x.val.data.length≤140737488355328 by unfold RecS.sum at hxs;omega)
 obtain⟨⟨x',v⟩,hlx⟩:∃y,l=[y]:=by
  rw[hx]at hl
  match l,hl with
  |[y],_=>exact⟨y,rfl⟩
 have hx':x'=x:=by rw[hlx,hx]at hl;simpa using hl
 subst hx';have hl0:0<l.length:=by rw[hlx];simp
 have hlg:l[0]=(x',v):=by simp[hlx]
 obtain⟨eb,eo,hqq⟩:=zBQ hk g1 hl0;subst hqq;have hHK0:=zA5 hk (x:=(x',v)) (by rw[hlx];simp);obtain⟨hq,hcap,hvh⟩:=zNh hHK0 g1;simp only at hvh;subst hvh
 have KR:=hQd (show ∀(w':World) (L':List Res),St W0 w' K L'→(w'.cell? ⟨eb,eo,none⟩=some (.int .i64 x'.time)∧w'.cell? ⟨eb,eo+1,none⟩=some (.int .i64 x'.off)∧w'.cell? ⟨eb,eo+2,none⟩=some (.bool x'.key.null)∧w'.cell? ⟨eb,eo+3,none⟩=some (.string (bb x'.key.data))∧w'.cell? ⟨eb,eo+4,none⟩=some (.bool x'.val.null)∧w'.cell? ⟨eb,eo+5,none⟩=some (.string (bb x'.val.data))∧w'.cell? ⟨eb,eo+6,none⟩=some (.slice hq x'.hdrs.length hcap))from fun w' L' h'=>by
  have cc:=zAY hk h' 0 hl0 _ hlg;simp only[←Nat.add_assoc,Nat.zero_mul,Nat.add_zero]at cc
  exact cc)
 have hlli:(0:Int)<(l.length:Int):=by omega
 clear h g1 hk hl he so htl hd1 hd2 hd3 hd5 hR hlen hll r1 r2 r3 r5 m1 m2 m3 m5 hP1 hP2 hP3 hP4 hP5 hP6 hP7 hP8 eP1 eP2 eP3 eP4 eP5 eP6 eP7 eP8 hab hwt hwl hx hx0 he3 he2 hn3 hn5 hmem hxs hlx hl0 hlg hHK0 hk1;go_enter Tryz.func33,Tryz.ntmps33
 go_upto_region 7 with (first
  |(go_at_call 8;(try clear y0 y1 y2 y3 y4 y5 y6 y7 y8 y9 y10 y11);(with_reducible refine(zMM base leader app txn last first maxt prod epoch sq recs l (some ⟨eb,eo,none⟩) cap HL.out HSO.out HK.out H.out).mono ?_);rintro e_ wn ⟨rfl,h⟩;have y0:=h.rawCell 0;have y1:=h.rawCell 1;have y2:=h.rawCell 2;have y3:=h.rawCell 3;have y4:=h.rawCell 4;have y5:=h.rawCell 5;have y6:=h.rawCell 6;have y7:=h.rawCell 7;have y8:=h.rawCell 8;have y9:=h.rawCell 9;have y10:=h.rawCell 10;have y11:=h.rawCell 11;simp at y0 y1 y2 y3 y4 y5 y6 y7 y8 y9 y10 y11;obtain⟨c0,c1,c2,c3,c4,c5,c6⟩:=KR.out _ _ h;replace H:=hQd h;clear h)
  |(go_at_call 26;(with_reducible refine(zFq x'.time x'.off x'.key.null x'.val.null x'.key.data x'.val.data hq x'.hdrs.length hcap n3 n5 e3 HCR.out HKD.out HVD.out H.out).mono ?_);rintro e_ wn ⟨rfl,h⟩;replace H:=hQd h;clear h)
  |(go_at_call 9;(with_reducible refine(zBI n5 HR5.out d5 HD5.out H.out).mono ?_);rintro e_ wn ⟨rfl,h⟩;replace H:=hQd h;clear h))
 have hs:=H.out.drew;clear H y0 y1 y2 y3 y4 y5 y6 y7 y8 y9 y10 y11;refine wp_region_held_drew (S:=fun w'=>w'.cell? ⟨tb,0,none⟩=some (.int .i64 base)∧w'.cell? ⟨tb,8,none⟩=some (.int .i64 prod)∧w'.cell? ⟨tb,11,none⟩=some (.slice (some ⟨eb,eo,none⟩) l.length cap)) (by kernel_rfl) (KP.out _ _ hs) (fun hHeld=> ?_);refine tQ 0 ⟨some 31,.fieldAddr 30 (.tmp 1) 0,0,_,_,none⟩ ?_;simp only[Act.put,sA,sB,sC];refine tQ 1 ⟨some 32,.load 3 (.tmp 31),3,_,_,none⟩ ?_;simp only[Act.put,sA,sB,sC];refine tQ 5 ⟨some 36,.fieldAddr 30 (.tmp 1) 8,0,_,_,none⟩ ?_;simp only[Act.put,sA,sB,sC];refine tQ 6 ⟨some 37,.load 3 (.tmp 36),3,_,_,none⟩ ?_;simp only[Act.put,sA,sB,sC];refine tQ 10 ⟨some 41,.fieldAddr 30 (.tmp 1) 11,0,_,_,none⟩ ?_;simp only[Act.put,sA,sB,sC];refine tQ 11 ⟨some 42,.load 28 (.tmp 41),28,_,_,none⟩ ?_;simp only[Act.put,sA,sB,sC];refine tQ 12 ⟨some 43,.call {callee:=.builtin .len,args:= #[.tmp 42],argTypes:= #[28]},3,_,_,none⟩ ?_;simp only[Act.put,sA,sB,sC];refine tQ 16 ⟨some 47,.move (.tmp 3),9,_,_,none⟩ ?_;simp only[Act.put,sA,sB,sC];refine wpAnyH_ready (rs:=[2]) (by kernel_rfl) (by simp) (AllReadyH.cons (o:=⟨some 33,.call {callee:=.value (.func 9),args:= #[.tmp 32],argTypes:= #[3]},9,_,_,none⟩) rfl (fun KK hK=> ?_) AllReadyH.nil);go_simp;go_at_call 9;with_reducible refine(zBI base HRB.out d1 HD1.out hs).mono ?_;rintro e wq ⟨rfl,hs⟩;refine hK.out _ _ (KP.out _ _ hs) (fun hHeld=> ?_);clear hK KK
 try simp only[Act.put,sA,sB,sC]
 refine tQ 3 ⟨some 34,.binOp .add 9 (.const (Value.string {data:= #[98,97,116,99,104,32]})) (.tmp 33) 9,9,_,_,none⟩ ?_;simp only[Act.put,sA,sB,sC];refine tQ 4 ⟨some 35,.binOp .add 9 (.tmp 34) (.const (Value.string {data:= #[32]})) 9,9,_,_,none⟩ ?_;simp only[Act.put,sA,sB,sC];refine wpAnyH_ready (rs:=[7]) (by kernel_rfl) (by simp) (AllReadyH.cons (o:=⟨some 38,.call {callee:=.value (.func 9),args:= #[.tmp 37],argTypes:= #[3]},9,_,_,none⟩) rfl (fun KK hK=> ?_) AllReadyH.nil);go_simp;go_at_call 9;with_reducible refine(zBI prod HRP.out d2 HD2.out hs).mono ?_;rintro e wq ⟨rfl,hs⟩;refine hK.out _ _ (KP.out _ _ hs) (fun hHeld=> ?_);clear hK KK
 try simp only[Act.put,sA,sB,sC]
 refine tQ 8 ⟨some 39,.binOp .add 9 (.tmp 35) (.tmp 38) 9,9,_,_,none⟩ ?_;simp only[Act.put,sA,sB,sC];refine tQ 9 ⟨some 40,.binOp .add 9 (.tmp 39) (.const (Value.string {data:= #[32]})) 9,9,_,_,none⟩ ?_;simp only[Act.put,sA,sB,sC];refine wpAnyH_ready (rs:=[13]) (by kernel_rfl) (by simp) (AllReadyH.cons (o:=⟨some 44,.call {callee:=.value (.func 9),args:= #[.tmp 43],argTypes:= #[3]},9,_,_,none⟩) rfl (fun KK hK=> ?_) AllReadyH.nil);go_simp;go_at_call 9;with_reducible refine(zBI (l.length:Int) HRL.out d3 HD3.out hs).mono ?_;rintro e wq ⟨rfl,hs⟩;refine hK.out _ _ (KP.out _ _ hs) (fun hHeld=> ?_);clear hK KK
 try simp only[Act.put,sA,sB,sC]
 refine tQ 14 ⟨some 45,.binOp .add 9 (.tmp 40) (.tmp 44) 9,9,_,_,none⟩ ?_;simp only[Act.put,sA,sB,sC];refine tQ 15 ⟨some 46,.binOp .add 9 (.tmp 45) (.const (Value.string {data:= #[32]})) 9,9,_,_,none⟩ ?_;simp only[Act.put,sA,sB,sC];refine tQ 17 ⟨some 48,.binOp .add 9 (.tmp 46) (.tmp 47) 9,9,_,_,none⟩ ?_;simp only[Act.put,sA,sB,sC];refine tQ 18 ⟨some 49,.binOp .add 9 (.tmp 48) (.const (Value.string {data:= #[10]})) 9,9,_,_,none⟩ ?_;simp only[Act.put,sA,sB,sC];refine tQ 19 ⟨some 2,.assign (.tmp 49),9,_,_,none⟩ ?_;simp only[Act.put,sA,sB,sC];refine wpAnyH_done (by kernel_rfl) ?_ _;clear hHeld;have H:=hQd hs;clear hs;go_wp2_with fail;go_ret;exact⟨by rw[←HTL.out];rfl,H.out.drop⟩
theorem zPl(b:BatS)(l:List (RecS×Value))(q:Option Addr)(cap:Nat)(hl:l.map (·.1)=b.recs)(so:EncOk b)(tl:Bs)(htl:zA9 b=tl)(hk:K.has (Know.recs (.slice q l.length cap) l))(h:St W0 w K L):
  Calls Tryz.prog 33 #[.agg #[.int .i64 b.base,.int .i64 b.leader,.bool b.app,.bool b.txn,.bool b.ctl,.int .i64 b.last,.int .i64 b.first,.int .i64 b.maxt,.int .i64 b.prod,.int .i64 b.epoch,.int .i64 b.seq,.slice q l.length cap]] w fun en w'=>en=.returned (.string (bb tl))∧St W0 w' K L:=by
 obtain⟨⟨n1,n2,n3,n4,n5,ok⟩,he⟩:∃y,zB5 b=y:=⟨_,rfl⟩;obtain⟨base,leader,app,txn,ctl,last,first,maxt,prod,epoch,sq,recs⟩:=b
 cases ctl with
 |false=>
  have hok:ok=false:=by
   have h2:=he;unfold zB5 at h2;rw[if_neg (by simp)]at h2;exact(congrArg (fun z=>z.2.2.2.2.2) h2).symm
  subst hok;exact zIi base leader app txn last first maxt prod epoch sq recs l q cap hl n1 n2 n3 n4 n5 he so tl htl hk h
 |true=>
  have hok:ok=true:=by
   have h2:=he;obtain⟨x,hx,_⟩:=zC6 _ so.err rfl;have hx:recs=[x]:=hx;unfold zB5 at h2;rw[if_pos ⟨rfl,so.err⟩]at h2;simp only[hx]at h2;exact(congrArg (fun z=>z.2.2.2.2.2) h2).symm
  subst hok
  by_cases hk1:n3=1
  · exact zGj base leader app txn last first maxt prod epoch sq recs l q cap hl n1 n2 n3 n4 n5 he hk1 so tl htl hk h
  · exact zHg base leader app txn last first maxt prod epoch sq recs l q cap hl n1 n2 n3 n4 n5 he hk1 so tl htl hk h
variable {W0 w:World}{K:Know}{L:List Res}
theorem zPo(V e:Int)(st:Int)(hst:st=0)(hV:Rn V)(he:Rn e)(tl:Bs)(htl:zAP 32 [[118,97,108,105,100],numW V,[99,108,101,97,110]]++[10]=tl)(h:St W0 w K L):
  Calls Tryz.prog 34 #[.int .i64 V,.int .i64 st,.int .i64 e] w fun en w'=>en=.returned (.string (bb tl))∧St W0 w' K L:=by
 obtain⟨d2,hd2⟩:∃t,numW V=t:=⟨_,rfl⟩;obtain⟨d4,hd4⟩:∃t,numW e=t:=⟨_,rfl⟩;have n2:=zAm V hV;have n4:=zAm e he;rw[hd2]at n2;rw[hd4]at n4;obtain⟨P1,hP1⟩:∃B:Bs,[118,97,108,105,100,32]++d2=B:=⟨_,rfl⟩;obtain⟨P2,hP2⟩:∃B:Bs,P1++[32,99,108,101,97,110,10]=B:=⟨_,rfl⟩;have eP1:=congrArg List.length hP1;have eP2:=congrArg List.length hP2;simp only[List.length_append,List.length_cons,List.length_nil]at eP1 eP2;have gP1:¬(9223372036854775807<6+d2.length):=by omega
 have kP1:(⟨#[118,97,108,105,100,32]⟩:ByteArray)++bb d2=bb P1:=by rw[←hP1];exact zAg _ _
 have gP2:¬(9223372036854775807<P1.length+7):=by omega
 have kP2:bb P1++(⟨#[32,99,108,101,97,110,10]⟩:ByteArray)=bb P2:=by rw[←hP2];exact zAg _ _
 have HTL:=hQd (show P2=tl by rw[←htl,←hP2,←hP1,←hd2];simp[zAP]);have H:=hQd h;have HVR:=hQd hV;have HER:=hQd he;have HD2:=hQd hd2;have HD4:=hQd hd4;have t1:True:=trivial;subst hst;have q1:((0:Int)==0)=true:=rfl;clear h hV he hd2 hd4 htl n2 n4 hP1 eP1 hP2 eP2;go_enter Tryz.func34,Tryz.ntmps34
 go_wp2_with (first
  |(go_at_call 9;have _t:=t1;clear _t;(with_reducible refine(zBI V HVR.out d2 HD2.out H.out).mono ?_);rintro e_ wn ⟨rfl,h⟩;replace H:=hQd h;clear h;clear t1))
 go_ret;exact⟨by rw[←HTL.out];rfl,H.out⟩
theorem zPn(V e:Int)(st:Int)(hst:st=1)(hV:Rn V)(he:Rn e)(tl:Bs)(htl:zAP 32 [[118,97,108,105,100],numW V,[116,111,114,110]]++[10]=tl)(h:St W0 w K L):
  Calls Tryz.prog 34 #[.int .i64 V,.int .i64 st,.int .i64 e] w fun en w'=>en=.returned (.string (bb tl))∧St W0 w' K L:=by
 obtain⟨d2,hd2⟩:∃t,numW V=t:=⟨_,rfl⟩;obtain⟨d4,hd4⟩:∃t,numW e=t:=⟨_,rfl⟩;have n2:=zAm V hV;have n4:=zAm e he;rw[hd2]at n2;rw[hd4]at n4;obtain⟨P1,hP1⟩:∃B:Bs,[118,97,108,105,100,32]++d2=B:=⟨_,rfl⟩;obtain⟨P2,hP2⟩:∃B:Bs,P1++[32,116,111,114,110,10]=B:=⟨_,rfl⟩;have eP1:=congrArg List.length hP1;have eP2:=congrArg List.length hP2;simp only[List.length_append,List.length_cons,List.length_nil]at eP1 eP2;have gP1:¬(9223372036854775807<6+d2.length):=by omega
 have kP1:(⟨#[118,97,108,105,100,32]⟩:ByteArray)++bb d2=bb P1:=by rw[←hP1];exact zAg _ _
 have gP2:¬(9223372036854775807<P1.length+6):=by omega
 have kP2:bb P1++(⟨#[32,116,111,114,110,10]⟩:ByteArray)=bb P2:=by rw[←hP2];exact zAg _ _
 have HTL:=hQd (show P2=tl by rw[←htl,←hP2,←hP1,←hd2];simp[zAP]);have H:=hQd h;have HVR:=hQd hV;have HER:=hQd he;have HD2:=hQd hd2;have HD4:=hQd hd4;have t1:True:=trivial;subst hst;have q1:((1:Int)==0)=false:=rfl;have q2:((1:Int)==1)=true:=rfl;clear h hV he hd2 hd4 htl n2 n4 hP1 eP1 hP2 eP2;go_enter Tryz.func34,Tryz.ntmps34
 go_wp2_with (first
  |(go_at_call 9;have _t:=t1;clear _t;(with_reducible refine(zBI V HVR.out d2 HD2.out H.out).mono ?_);rintro e_ wn ⟨rfl,h⟩;replace H:=hQd h;clear h;clear t1))
 go_ret;exact⟨by rw[←HTL.out];rfl,H.out⟩
theorem zPm(V e:Int)(st:Int)(hs0:¬st=0)(hs1:¬st=1)(hV:Rn V)(he:Rn e)(tl:Bs)(htl:zAP 32 [[118,97,108,105,100],numW V,[98,97,100],numW e]++[10]=tl)(h:St W0 w K L):
  Calls Tryz.prog 34 #[.int .i64 V,.int .i64 st,.int .i64 e] w fun en w'=>en=.returned (.string (bb tl))∧St W0 w' K L:=by
 obtain⟨d2,hd2⟩:∃t,numW V=t:=⟨_,rfl⟩;obtain⟨d4,hd4⟩:∃t,numW e=t:=⟨_,rfl⟩;have n2:=zAm V hV;have n4:=zAm e he;rw[hd2]at n2;rw[hd4]at n4;obtain⟨P1,hP1⟩:∃B:Bs,[118,97,108,105,100,32]++d2=B:=⟨_,rfl⟩;obtain⟨P2,hP2⟩:∃B:Bs,P1++[32,98,97,100,32]=B:=⟨_,rfl⟩;obtain⟨P3,hP3⟩:∃B:Bs,P2++d4=B:=⟨_,rfl⟩;obtain⟨P4,hP4⟩:∃B:Bs,P3++[10]=B:=⟨_,rfl⟩;have eP1:=congrArg List.length hP1;have eP2:=congrArg List.length hP2;have eP3:=congrArg List.length hP3;have eP4:=congrArg List.length hP4;simp only[List.length_append,List.length_cons,List.length_nil]at eP1 eP2 eP3 eP4;have gP1:¬(9223372036854775807<6+d2.length):=by omega
 have kP1:(⟨#[118,97,108,105,100,32]⟩:ByteArray)++bb d2=bb P1:=by rw[←hP1];exact zAg _ _
 have gP2:¬(9223372036854775807<P1.length+5):=by omega
 have kP2:bb P1++(⟨#[32,98,97,100,32]⟩:ByteArray)=bb P2:=by rw[←hP2];exact zAg _ _
 have gP3:¬(9223372036854775807<P2.length+d4.length):=by omega
 have kP3:bb P2++bb d4=bb P3:=by rw[←hP3];exact zAg _ _
 have gP4:¬(9223372036854775807<P3.length+1):=by omega
 have kP4:bb P3++(⟨#[10]⟩:ByteArray)=bb P4:=by rw[←hP4];exact zAg _ _
 have HTL:=hQd (show P4=tl by rw[←htl,←hP4,←hP3,←hP2,←hP1,←hd2,←hd4];simp[zAP]);have H:=hQd h;have HVR:=hQd hV;have HER:=hQd he;have HD2:=hQd hd2;have HD4:=hQd hd4;have t1:True:=trivial;have q1:(st==0)=false:=by rw[beq_eq_false_iff_ne];exact hs0
 have q2:(st==1)=false:=by rw[beq_eq_false_iff_ne];exact hs1
 clear h hV he hd2 hd4 htl n2 n4 hP1 eP1 hP2 eP2 hP3 eP3 hP4 eP4 hs0 hs1;go_enter Tryz.func34,Tryz.ntmps34
 go_wp2_with (first
  |(go_at_call 9;have _t:=t1;clear _t;(with_reducible refine(zBI V HVR.out d2 HD2.out H.out).mono ?_);rintro e_ wn ⟨rfl,h⟩;replace H:=hQd h;clear h;clear t1)
  |(go_at_call 9;(with_reducible refine(zBI e HER.out d4 HD4.out H.out).mono ?_);rintro e_ wn ⟨rfl,h⟩;replace H:=hQd h;clear h))
 go_ret;exact⟨by rw[←HTL.out];rfl,H.out⟩
theorem rr_end(V st e:Int)(hV:Rn V)(he:Rn e)(tl:Bs)(htl:endT V st e=tl)(h:St W0 w K L):
   Calls Tryz.prog 34 #[.int .i64 V,.int .i64 st,.int .i64 e] w fun en w'=>en=.returned (.string (bb tl))∧St W0 w' K L:=by
 unfold endT endW at htl
 by_cases h0:st=0
 · rw[if_pos h0]at htl;exact zPo V e st h0 hV he tl htl h
 by_cases h1:st=1
 · rw[if_neg h0,if_pos h1]at htl;exact zPn V e st h1 hV he tl htl h
 · rw[if_neg h0,if_neg h1]at htl;exact zPm V e st h0 h1 hV he tl htl h
set_option maxHeartbeats 16000000
theorem zJA{A T:Bs}{bs:List BatS}{pv:Nat}{rest:Bs}{pe ps:Int}(tk:ToldOk A T bs pv rest pe ps){W0 w:World}{K:Know}{L:List Res}(h:St W0 w K L):
  Calls Tryz.prog 11 #[.string (bb A)] w fun en w'=>en=.returned (.string (bb T))∧St W0 w' K L:=by
 have hsm:=zHd bs tk.ok;have hbl:=tk.blen;have hp0:Rn (sumE bs):=by unfold Rn;omega
 have hq0:Rn (sumR bs):=by unfold Rn;omega
 have hTl:T.length≤1000000:=by rw[←tk.txt];exact zH7 bs _ ps pe tk.ok tk.blen tk.rv tk.re hp0 hq0
 obtain⟨P,hP⟩:∃P,sumE bs=P:=⟨_,rfl⟩;obtain⟨Q,hQ⟩:∃Q,sumR bs=Q:=⟨_,rfl⟩;obtain⟨tl,htl⟩:∃t,totT P Q=t:=⟨_,rfl⟩;obtain⟨tn,htn⟩:∃t,endT (pv:Nat) ps pe=t:=⟨_,rfl⟩;obtain⟨d1,hd1⟩:∃t,numW P=t:=⟨_,rfl⟩;obtain⟨d2,hd2⟩:∃t,numW Q=t:=⟨_,rfl⟩;have hT2:bs.flatMap zA9++(tl++tn)=T:=by rw[←tk.txt,←htl,←htn,←hP,←hQ];rfl
 have H:=hQd h;have HTK:=hQd tk;have HT2:=hQd hT2;have HTL:=hQd hTl;have HTE:=hQd htn;have HTO:=hQd (show[116,111,116,97,108]++32::(d1++32::(d2++[10]))=tl by rw[←htl,←hd1,←hd2];unfold totT;simp[zAP]);have HPQ0:=hQd (show sumE bs=P∧sumR bs=Q from⟨hP,hQ⟩);have HRP:=hQd (show Rn P by rw[←hP];exact hp0);have HRQ:=hQd (show Rn Q by rw[←hQ];exact hq0);have HRV:=hQd tk.rv;have HRE:=hQd tk.re;have HBL:=hQd hbl;have HBO:=hQd tk.ok;have HD1:=hQd hd1;have HD2:=hQd hd2;clear h tk hT2 hTl hP hQ htl htn hd1 hd2 hp0 hq0 hsm hbl;go_enter Tryz.func11,Tryz.ntmps11;go_wp2_with (go_at_call 32;(with_reducible refine(rr_all A bs pv rest pe ps HTK.out H.out).mono ?_);rintro e_ wn ⟨q2,cap2,lr,rfl,hb2,hlite,h⟩;have HB2:=hQd hb2;have HLI:=hQd hlite;clear hb2 hlite;obtain⟨gb,hgb⟩:∃y,wn.heap.size=y:=⟨_,rfl⟩;have h:=h.allocRaw #[.slice q2 lr.length cap2,.int .i64 (pv:Nat),.int .i64 ps,.int .i64 pe] 63;rw[hgb]at h;have z0:=h.rawCell 0;simp at z0;replace H:=hQd h;clear h);clear z0;have HOK:=hQd (show ∀x∈lr,OkB x from fun x hx=>⟨(HLI.out x hx).1,HBO.out x.b (by rw[←HB2.out];exact List.mem_map.2 ⟨x,hx,rfl⟩)⟩);have HLR:=hQd (show lr.length≤900 by have h9:=congrArg List.length HB2.out;rw[List.length_map]at h9;have:=HBL.out;omega);have HKB:=hQd (Know.has_right (a:=K) (Know.has_refl (Know.bats (.slice q2 lr.length cap2) lr)))
 have HS0:=hQd (show[]++((lr.drop 0).flatMap (fun x:BatR=>zA9 x.b)++(tl++tn))=T by
  have e:lr.flatMap (fun x:BatR=>zA9 x.b)=bs.flatMap zA9:=by rw[←HB2.out,List.flatMap_map]
  rw[List.drop_zero,e];exact HT2.out)
 go_loopw [4,5,6,14] (fun sv pvv qvv iv wr=>∃(k:Nat) (E:Bs) (X Y:Int),k≤lr.length∧iv=.int .i64 k∧sv=.string (bb E)∧pvv=.int .i64 X∧qvv=.int .i64 Y∧Hid (E++((lr.drop k).flatMap (fun x:BatR=>zA9 x.b)++(tl++tn))=T)∧Hid (X=sumE ((lr.take k).map BatR.b))∧Hid (Y=sumR ((lr.take k).map BatR.b))∧St W0 wr (K.and (Know.bats (.slice q2 lr.length cap2) lr)) (.raw gb #[.slice q2 lr.length cap2,.int .i64 (pv:Nat),.int .i64 ps,.int .i64 pe] 63::L)) (fun _ _ _ iv _=>lr.length - (intOf iv).toNat)
 case atStart=>exact⟨0,[],0,0,Nat.zero_le _,rfl,rfl,rfl,rfl,HS0,hQd rfl,hQd rfl,H.out⟩
 case round=>
  obtain⟨k,E,X,Y,hk',rfl,rfl,rfl,rfl,HE,HX,HY,hst⟩:=hrel;clear H;have H:=hQd hst;clear hst;have hlri:(lr.length:Int)≤900:=by have:=HLR.out;omega
  have hb9:∀b∈(lr.take k).map BatR.b,EncOk b:=fun b hb=>by
    obtain⟨x,hx,rfl⟩:=List.mem_map.1 hb;exact(HOK.out x (List.mem_of_mem_take hx)).2
  have hsb:=zHd _ hb9;rw[←HX.out,←HY.out,List.length_map,List.length_take]at hsb;have hX:0≤X∧X≤1000000000:=by omega
  have hY:0≤Y∧Y≤1000000000:=by omega
  obtain⟨hX0,hX1⟩:=hX;obtain⟨hY0,hY1⟩:=hY;clear hsb hb9
  by_cases hk:k<lr.length
  · obtain⟨bk,off,hqq⟩:=zGc HKB.out H.out (by omega);subst hqq;obtain⟨x,hx⟩:∃x,lr[k]=x:=⟨_,rfl⟩;have hmem:x∈lr:=hx ▸ List.getElem_mem hk;have hxk:=zCQ HKB.out hmem;have cc:=zDQ HKB.out H.out k hk x hx;have hox:=HOK.out x hmem;obtain⟨t,ht⟩:∃t,zA9 x.b=t:=⟨_,rfl⟩;obtain⟨E2,hE2⟩:∃E2,E++t=E2:=⟨_,rfl⟩
    have hE3:E2++((lr.drop (k+1)).flatMap (fun x:BatR=>zA9 x.b)++(tl++tn))=T:=by
     rw[←HE.out,zIY (fun x:BatR=>zA9 x.b) lr k hk x hx,←hE2,←ht];simp only[List.append_assoc]
    have hle:=zK0 hE3 HTL.out;have hle2:=congrArg List.length hE2;rw[List.length_append]at hle2;have gE:¬(9223372036854775807<E.length+t.length):=by omega
    have kE:bb E++bb t=bb E2:=by rw[←hE2];exact zAg _ _
    have hpn:X+(x.b.enc.length:Int)=sumE ((lr.take (k+1)).map BatR.b):=by rw[zH8 lr k hk x hx,zMa,HX.out]
    have hqn:Y+(x.b.recs.length:Int)=sumR ((lr.take (k+1)).map BatR.b):=by rw[zH8 lr k hk x hx,zL9,HY.out]
    obtain⟨b,xl,xq,xcap⟩:=x;obtain⟨c0,c1,c2,c3,c4,c5,c6,c7,c8,c9,c10,c11⟩:=cc;obtain⟨bs1,hbs⟩:∃s,b.enc=s:=⟨_,rfl⟩;have hel:=hox.2.elen;have hrl:(b.recs.length:Int)=(xl.length:Int):=by have h9:=hox.1;simp only at h9;rw[←h9,List.length_map]
    have hxll:=hox.2.llen hox.1;simp only at hpn hqn hel hxll;rw[hbs]at hpn hel;rw[hrl]at hqn;have HXL:=hQd (show xl.map (·.1)=b.recs from hox.1);have HSO:=hQd (show EncOk b from hox.2);have HXK:=hQd (show Know.has _ (Know.recs (.slice xq xl.length xcap) xl)from hxk);have HT:=hQd (show zA9 b=t from ht);have HBS:=hQd hbs;have HE3:=hQd (hQd hE3);have hw1:IntKind.i64.wrap (X+(bs1.length:Int))=X+(bs1.length:Int):=IntWalk.i64_in _ (by omega);have hw2:IntKind.i64.wrap (Y+(xl.length:Int))=Y+(xl.length:Int):=IntWalk.i64_in _ (by omega);have HPN:=hQd (hQd (hw1.trans hpn));have HQN:=hQd (hQd (hw2.trans hqn));have hsl:(bs1.length:Int)≤400061:=by omega
    have hxli:(xl.length:Int)≤1000:=by omega
    obtain⟨tb,htb⟩:∃b,wr.heap.size=b:=⟨_,rfl⟩;have g1:=H.out.allocRaw #[.int .i64 b.base,.int .i64 b.leader,.bool b.app,.bool b.txn,.bool b.ctl,.int .i64 b.last,.int .i64 b.first,.int .i64 b.maxt,.int .i64 b.prod,.int .i64 b.epoch,.int .i64 b.seq,.slice xq xl.length xcap] 30;rw[htb]at g1;have y0:=g1.rawCell 0;have y1:=g1.rawCell 1;have y2:=g1.rawCell 2;have y3:=g1.rawCell 3;have y4:=g1.rawCell 4;have y5:=g1.rawCell 5;have y6:=g1.rawCell 6;have y7:=g1.rawCell 7;have y8:=g1.rawCell 8;have y9:=g1.rawCell 9;have y10:=g1.rawCell 10;have y11:=g1.rawCell 11;simp at y0 y1 y2 y3 y4 y5 y6 y7 y8 y9 y10 y11;have KP7:=hQd (show ∀(w':World) (L':List Res),St W0 w' _ (.raw tb #[.int .i64 b.base,.int .i64 b.leader,.bool b.app,.bool b.txn,.bool b.ctl,.int .i64 b.last,.int .i64 b.first,.int .i64 b.maxt,.int .i64 b.prod,.int .i64 b.epoch,.int .i64 b.seq,.slice xq xl.length xcap] 30::L')→(w'.cell? ⟨tb,0,none⟩=some (.int .i64 b.base)∧w'.cell? ⟨tb,1,none⟩=some (.int .i64 b.leader)∧w'.cell? ⟨tb,2,none⟩=some (.bool b.app)∧w'.cell? ⟨tb,3,none⟩=some (.bool b.txn)∧w'.cell? ⟨tb,4,none⟩=some (.bool b.ctl)∧w'.cell? ⟨tb,5,none⟩=some (.int .i64 b.last)∧w'.cell? ⟨tb,6,none⟩=some (.int .i64 b.first)∧w'.cell? ⟨tb,7,none⟩=some (.int .i64 b.maxt)∧w'.cell? ⟨tb,8,none⟩=some (.int .i64 b.prod)∧w'.cell? ⟨tb,9,none⟩=some (.int .i64 b.epoch)∧w'.cell? ⟨tb,10,none⟩=some (.int .i64 b.seq)∧w'.cell? ⟨tb,11,none⟩=some (.slice xq xl.length xcap))from fun w' L' h'=>⟨(show St W0 w' (K.and (Know.bats (.slice (some ⟨bk,off,none⟩) lr.length cap2) lr)) _ from h').rawCell 0,(show St W0 w' (K.and (Know.bats (.slice (some ⟨bk,off,none⟩) lr.length cap2) lr)) _ from h').rawCell 1,(show St W0 w' (K.and (Know.bats (.slice (some ⟨bk,off,none⟩) lr.length cap2) lr)) _ from h').rawCell 2,(show St W0 w' (K.and (Know.bats (.slice (some ⟨bk,off,none⟩) lr.length cap2) lr)) _ from h').rawCell 3,(show St W0 w' (K.and (Know.bats (.slice (some ⟨bk,off,none⟩) lr.length cap2) lr)) _ from h').rawCell 4,(show St W0 w' (K.and (Know.bats (.slice (some ⟨bk,off,none⟩) lr.length cap2) lr)) _ from h').rawCell 5,(show St W0 w' (K.and (Know.bats (.slice (some ⟨bk,off,none⟩) lr.length cap2) lr)) _ from h').rawCell 6,(show St W0 w' (K.and (Know.bats (.slice (some ⟨bk,off,none⟩) lr.length cap2) lr)) _ from h').rawCell 7,(show St W0 w' (K.and (Know.bats (.slice (some ⟨bk,off,none⟩) lr.length cap2) lr)) _ from h').rawCell 8,(show St W0 w' (K.and (Know.bats (.slice (some ⟨bk,off,none⟩) lr.length cap2) lr)) _ from h').rawCell 9,(show St W0 w' (K.and (Know.bats (.slice (some ⟨bk,off,none⟩) lr.length cap2) lr)) _ from h').rawCell 10,(show St W0 w' (K.and (Know.bats (.slice (some ⟨bk,off,none⟩) lr.length cap2) lr)) _ from h').rawCell 11⟩);have hki:(k:Int)<(lr.length:Int):=by omega
    clear H hw1 hw2 hxk hmem hox hx ht hE2 hE3 hle hle2 hpn hqn hbs hel hrl hxll;have H:=hQd g1;clear g1;go_upto_region 7 with (go_at_call 33;(with_reducible refine(zPl b xl xq xcap HXL.out HSO.out t HT.out HXK.out H.out).mono ?_);rintro e_ wn ⟨rfl,h⟩;replace H:=hQd h;clear h);have hs:=H.out.drew;clear H y0 c0 y1 c1 y2 c2 y3 c3 y4 c4 y5 c5 y6 c6 y7 c7 y8 c8 y9 c9 y10 c10 y11 c11;refine wp_region_held_drew (S:=fun w'=>w'.cell? ⟨tb,0,none⟩=some (.int .i64 b.base)∧w'.cell? ⟨tb,1,none⟩=some (.int .i64 b.leader)∧w'.cell? ⟨tb,2,none⟩=some (.bool b.app)∧w'.cell? ⟨tb,3,none⟩=some (.bool b.txn)∧w'.cell? ⟨tb,4,none⟩=some (.bool b.ctl)∧w'.cell? ⟨tb,5,none⟩=some (.int .i64 b.last)∧w'.cell? ⟨tb,6,none⟩=some (.int .i64 b.first)∧w'.cell? ⟨tb,7,none⟩=some (.int .i64 b.maxt)∧w'.cell? ⟨tb,8,none⟩=some (.int .i64 b.prod)∧w'.cell? ⟨tb,9,none⟩=some (.int .i64 b.epoch)∧w'.cell? ⟨tb,10,none⟩=some (.int .i64 b.seq)∧w'.cell? ⟨tb,11,none⟩=some (.slice xq xl.length xcap)) (by kernel_rfl) (KP7.out _ _ hs) (fun hHeld=> ?_);refine tQ 0 ⟨some 22,.move (.tmp 5),3,_,_,none⟩ ?_;simp only[Act.put,sA,sB,sC];refine tQ 1 ⟨some 23,.load 30 (.tmp 8),30,_,_,none⟩ ?_;simp only[Act.put,sA,sB,sC];refine tQ 5 ⟨some 27,.move (.tmp 6),3,_,_,none⟩ ?_;simp only[Act.put,sA,sB,sC];refine tQ 6 ⟨some 28,.fieldAddr 30 (.tmp 8) 11,0,_,_,none⟩ ?_;simp only[Act.put,sA,sB,sC];refine tQ 7 ⟨some 29,.load 28 (.tmp 28),28,_,_,none⟩ ?_;simp only[Act.put,sA,sB,sC];refine tQ 8 ⟨some 30,.call {callee:=.builtin .len,args:= #[.tmp 29],argTypes:= #[28]},3,_,_,none⟩ ?_;simp only[Act.put,sA,sB,sC];refine tQ 9 ⟨some 31,.binOp .add 3 (.tmp 27) (.tmp 30) 3,3,_,_,none⟩ ?_;simp only[Act.put,sA,sB,sC];refine wpAnyH_ready (rs:=[2]) (by kernel_rfl) (by simp) (AllReadyH.cons (o:=⟨some 24,.call {callee:=.value (.func 10),args:= #[.tmp 23],argTypes:= #[30]},9,_,_,none⟩) rfl (fun KK hK=> ?_) AllReadyH.nil);go_simp;go_at_call 10;with_reducible refine(zHj b bs1 HBS.out xl xq xcap HXL.out HSO.out HXK.out hs).mono ?_;rintro e wq ⟨rfl,hs⟩;refine hK.out _ _ (KP7.out _ _ hs) (fun hHeld=> ?_);clear hK KK
    try simp only[Act.put,sA,sB,sC]
    refine tQ 3 ⟨some 25,.call {callee:=.builtin .len,args:= #[.tmp 24],argTypes:= #[9]},3,_,_,none⟩ ?_;simp only[Act.put,sA,sB,sC];refine tQ 4 ⟨some 26,.binOp .add 3 (.tmp 22) (.tmp 25) 3,3,_,_,none⟩ ?_;simp only[Act.put,sA,sB,sC];refine tQ 10 ⟨some 5,.assign (.tmp 26),3,_,_,none⟩ ?_;simp only[Act.put,sA,sB,sC];refine tQ 11 ⟨some 6,.assign (.tmp 31),3,_,_,none⟩ ?_;simp only[Act.put,sA,sB,sC];refine wpAnyH_done (by kernel_rfl) ?_ _;clear hHeld;have hs:=hs.drop;have H:=hQd hs;clear hs;go_wp2_with fail;go_roundw
    case rel=>exact⟨k+1,E2,_,_,hk,by go_num,rfl,rfl,rfl,HE3.out,HPN.out,HQN.out,H.out⟩
    case measure=>first|(simp[intOf];done)|(simp[intOf];omega)
  · have hq1:k=lr.length:=by omega
    have h9:E++(tl++tn)=T:=by have h9:=HE.out;rw[hq1,List.drop_length]at h9;exact h9
    obtain rfl:X=P:=by have h8:=HX.out;rw[hq1,List.take_length,HB2.out,HPQ0.out.1]at h8;exact h8
    obtain rfl:Y=Q:=by have h8:=HY.out;rw[hq1,List.take_length,HB2.out,HPQ0.out.2]at h8;exact h8
    obtain⟨P1,hP1⟩:∃B:Bs,E++[116,111,116,97,108,32]=B:=⟨_,rfl⟩;obtain⟨P2,hP2⟩:∃B:Bs,P1++d1=B:=⟨_,rfl⟩;obtain⟨P3,hP3⟩:∃B:Bs,P2++[32]=B:=⟨_,rfl⟩;obtain⟨P4,hP4⟩:∃B:Bs,P3++d2=B:=⟨_,rfl⟩;obtain⟨P5,hP5⟩:∃B:Bs,P4++[10]=B:=⟨_,rfl⟩;obtain⟨P6,hP6⟩:∃B:Bs,P5++tn=B:=⟨_,rfl⟩;have eP1:=congrArg List.length hP1;have eP2:=congrArg List.length hP2;have eP3:=congrArg List.length hP3;have eP4:=congrArg List.length hP4;have eP5:=congrArg List.length hP5;have eP6:=congrArg List.length hP6;simp only[List.length_append,List.length_cons,List.length_nil]at eP1 eP2 eP3 eP4 eP5 eP6
    have h8:P6=T:=by
     rw[←h9,←HTO.out,←hP6,←hP5,←hP4,←hP3,←hP2,←hP1]
     simp
    have h7:=HTL.out;rw[←h8]at h7;have gP1:¬(9223372036854775807<E.length+6):=by omega
    have kP1:bb E++(⟨#[116,111,116,97,108,32]⟩:ByteArray)=bb P1:=by rw[←hP1];exact zAg _ _
    have gP2:¬(9223372036854775807<P1.length+d1.length):=by omega
    have kP2:bb P1++bb d1=bb P2:=by rw[←hP2];exact zAg _ _
    have gP3:¬(9223372036854775807<P2.length+1):=by omega
    have kP3:bb P2++(⟨#[32]⟩:ByteArray)=bb P3:=by rw[←hP3];exact zAg _ _
    have gP4:¬(9223372036854775807<P3.length+d2.length):=by omega
    have kP4:bb P3++bb d2=bb P4:=by rw[←hP4];exact zAg _ _
    have gP5:¬(9223372036854775807<P4.length+1):=by omega
    have kP5:bb P4++(⟨#[10]⟩:ByteArray)=bb P5:=by rw[←hP5];exact zAg _ _
    have gP6:¬(9223372036854775807<P5.length+tn.length):=by omega
    have kP6:bb P5++bb tn=bb P6:=by rw[←hP6];exact zAg _ _
    have HTL2:=hQd h8;have KP9:=hQd (show ∀(w':World) (L':List Res),St W0 w' (K.and (Know.bats (.slice q2 lr.length cap2) lr)) (.raw gb #[.slice q2 lr.length cap2,.int .i64 (pv:Nat),.int .i64 ps,.int .i64 pe] 63::L')→(w'.cell? ⟨gb,1,none⟩=some (.int .i64 (pv:Nat))∧w'.cell? ⟨gb,2,none⟩=some (.int .i64 ps)∧w'.cell? ⟨gb,3,none⟩=some (.int .i64 pe))from fun w' L' h'=>⟨h'.rawCell 1,h'.rawCell 2,h'.rawCell 3⟩);have hki:¬((k:Int)<(lr.length:Int)):=by omega
    clear h9 h8 h7 hq1 hP1 eP1 hP2 eP2 hP3 eP3 hP4 eP4 hP5 eP5 hP6 eP6;go_upto_region 9 with fail;have hs:=H.out.drew;clear H;refine wp_region_held_drew (S:=fun w'=>w'.cell? ⟨gb,1,none⟩=some (.int .i64 (pv:Nat))∧w'.cell? ⟨gb,2,none⟩=some (.int .i64 ps)∧w'.cell? ⟨gb,3,none⟩=some (.int .i64 pe)) (by kernel_rfl) (KP9.out _ _ hs) (fun hHeld=> ?_);refine tQ 0 ⟨some 33,.move (.tmp 4),9,_,_,none⟩ ?_;simp only[Act.put,sA,sB,sC];refine tQ 1 ⟨some 34,.binOp .add 9 (.tmp 33) (.const (Value.string {data:= #[116,111,116,97,108,32]})) 9,9,_,_,none⟩ ?_;simp only[Act.put,sA,sB,sC];refine tQ 2 ⟨some 35,.move (.tmp 5),3,_,_,none⟩ ?_;simp only[Act.put,sA,sB,sC];refine tQ 6 ⟨some 39,.move (.tmp 6),3,_,_,none⟩ ?_;simp only[Act.put,sA,sB,sC];refine tQ 10 ⟨some 43,.fieldAddr 63 (.tmp 3) 1,0,_,_,none⟩ ?_;simp only[Act.put,sA,sB,sC];refine tQ 11 ⟨some 44,.load 3 (.tmp 43),3,_,_,none⟩ ?_;simp only[Act.put,sA,sB,sC];refine tQ 12 ⟨some 45,.fieldAddr 63 (.tmp 3) 2,0,_,_,none⟩ ?_;simp only[Act.put,sA,sB,sC];refine tQ 13 ⟨some 46,.load 3 (.tmp 45),3,_,_,none⟩ ?_;simp only[Act.put,sA,sB,sC];refine tQ 14 ⟨some 47,.fieldAddr 63 (.tmp 3) 3,0,_,_,none⟩ ?_;simp only[Act.put,sA,sB,sC];refine tQ 15 ⟨some 48,.load 3 (.tmp 47),3,_,_,none⟩ ?_;simp only[Act.put,sA,sB,sC];refine wpAnyH_ready (rs:=[3]) (by kernel_rfl) (by simp) (AllReadyH.cons (o:=⟨some 36,.call {callee:=.value (.func 9),args:= #[.tmp 35],argTypes:= #[3]},9,_,_,none⟩) rfl (fun KK hK=> ?_) AllReadyH.nil);go_simp;go_at_call 9;with_reducible refine(zBI X HRP.out d1 HD1.out hs).mono ?_;rintro e wq ⟨rfl,hs⟩;refine hK.out _ _ (KP9.out _ _ hs) (fun hHeld=> ?_);clear hK KK
    try simp only[Act.put,sA,sB,sC]
    refine tQ 4 ⟨some 37,.binOp .add 9 (.tmp 34) (.tmp 36) 9,9,_,_,none⟩ ?_;simp only[Act.put,sA,sB,sC];refine tQ 5 ⟨some 38,.binOp .add 9 (.tmp 37) (.const (Value.string {data:= #[32]})) 9,9,_,_,none⟩ ?_;simp only[Act.put,sA,sB,sC];refine wpAnyH_ready (rs:=[7]) (by kernel_rfl) (by simp) (AllReadyH.cons (o:=⟨some 40,.call {callee:=.value (.func 9),args:= #[.tmp 39],argTypes:= #[3]},9,_,_,none⟩) rfl (fun KK hK=> ?_) AllReadyH.nil);go_simp;go_at_call 9;with_reducible refine(zBI Y HRQ.out d2 HD2.out hs).mono ?_;rintro e wq ⟨rfl,hs⟩;refine hK.out _ _ (KP9.out _ _ hs) (fun hHeld=> ?_);clear hK KK
    try simp only[Act.put,sA,sB,sC]
    refine tQ 8 ⟨some 41,.binOp .add 9 (.tmp 38) (.tmp 40) 9,9,_,_,none⟩ ?_;simp only[Act.put,sA,sB,sC];refine tQ 9 ⟨some 42,.binOp .add 9 (.tmp 41) (.const (Value.string {data:= #[10]})) 9,9,_,_,none⟩ ?_;simp only[Act.put,sA,sB,sC];refine wpAnyH_ready (rs:=[16]) (by kernel_rfl) (by simp) (AllReadyH.cons (o:=⟨some 49,.call {callee:=.value (.func 34),args:= #[.tmp 44,.tmp 46,.tmp 48],argTypes:= #[3,3,3]},9,_,_,none⟩) rfl (fun KK hK=> ?_) AllReadyH.nil);go_simp;go_at_call 34;with_reducible refine(rr_end (pv:Nat) ps pe HRV.out HRE.out tn HTE.out hs).mono ?_;rintro e wq ⟨rfl,hs⟩;refine hK.out _ _ (KP9.out _ _ hs) (fun hHeld=> ?_);clear hK KK
    try simp only[Act.put,sA,sB,sC]
    refine tQ 17 ⟨some 50,.binOp .add 9 (.tmp 42) (.tmp 49) 9,9,_,_,none⟩ ?_;simp only[Act.put,sA,sB,sC];refine tQ 18 ⟨some 2,.assign (.tmp 50),9,_,_,none⟩ ?_;simp only[Act.put,sA,sB,sC];refine wpAnyH_done (by kernel_rfl) ?_ _;clear hHeld;have H:=hQd hs;clear hs;go_wp2_with fail;go_ret;exact⟨by rw[←HTL2.out];rfl,(H.out.drop).know (Know.has_left (Know.has_refl _))⟩
theorem kcx:Lib.cut [120,10] [10]=([120],[],true):=by decide+kernel
theorem kwx:zDW [120]=([[120]]:List Bs).map bb:=by decide+kernel
theorem khx:hexV [48]=([],false):=by decide+kernel
variable {W0 w:World}{K:Know}{L:List Res}
theorem zKF(ws:List Bs)(t tl:Bs)(wb n cap:Nat)(hn:n=ws.length)(hnc:n≤cap)(hl:ws.length≤1000000)(ht:zAP 32 ws=t)(htn:t++[10]=tl)(htl:t.length≤1000000)(hk:K.has (Know.strw wb 0 ws))(h:St W0 w K L):
  Calls Tryz.prog 36 #[.slice (some ⟨wb,0,none⟩) n cap] w fun en w'=>en=.returned (.string (bb tl))∧St W0 w' K L:=by
 have H:=hQd h;have HK:=hQd hk;have HN:=hQd hn;have HNC:=hQd hnc;have HWL:=hQd hl;have HT:=hQd ht;have HTL:=hQd htl;have k1:=nl_cat t tl htn;have g1:¬(9223372036854775807<t.length+1):=by omega
 clear h hk hn hnc hl ht htl htn;go_enter Tryz.func36,Tryz.ntmps36;go_wp2_with (go_at_call 73;(with_reducible refine(zPf ws t wb n cap HN.out HNC.out HWL.out HT.out HTL.out HK.out H.out).mono ?_);rintro e_ wn ⟨rfl,h⟩;replace H:=hQd h;clear h);go_ret;exact⟨rfl,H.out⟩
theorem zCY(ws:List Bs)(t tl:Bs)(wb n:Nat)(cs:Array Value)(hcs:cs=(ws.map fun x=>Value.string (bb x)).toArray)(hn:n=ws.length)(hl:ws.length≤1000000)(ht:zAP 32 ws=t)(htn:t++[10]=tl)(htl:t.length≤1000000){T:TypeId}(h:St W0 w K (.raw wb cs T::L)):
  Calls Tryz.prog 36 #[.slice (some ⟨wb,0,none⟩) n n] w fun en w'=>en=.returned (.string (bb tl))∧St W0 w' K L:=by
 subst hcs;refine(zKF ws t tl wb n n hn (Nat.le_refl _) hl ht htn htl (Know.has_right (Know.has_refl _)) h.strs).mono ?_;rintro en w' ⟨rfl,h3⟩;exact⟨rfl,h3.know (Know.has_left (Know.has_refl _))⟩
theorem zHi(ws:List Bs)(t tl:Bs)(wb n cv:Nat)(cs:List Value)(hcs:cs=ws.flatMap zKB)(hn:n=ws.length)(h0:0<n)(hl:ws.length≤1000000)(ht:zAP 32 ws=t)(htn:t++[10]=tl)(htl:t.length≤1000000)(h:St W0 w K (.row (.slice (some ⟨wb,0,none⟩) n cv) 9 1 n cs::L)):
  Calls Tryz.prog 36 #[.slice (some ⟨wb,0,none⟩) n cv] w fun en w'=>en=.returned (.string (bb tl))∧St W0 w' K L:=by
 subst hcs hn;obtain⟨wb3,cv3,hv3,hle3,h10⟩:=h.rowStrs h0;injection hv3 with hv4 hv5 hv6;injection hv4 with hv4;injection hv4 with hv4;subst hv4 hv6;refine(zKF ws t tl wb ws.length cv rfl hle3 hl ht htn htl (Know.has_right (Know.has_refl _)) h10).mono ?_;rintro en w' ⟨rfl,h3⟩;exact⟨rfl,h3.know (Know.has_left (Know.has_refl _))⟩
end Go.Proofs.YtenojajfacacoaaGreatDoor
