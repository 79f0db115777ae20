/- A text. -/
import Derived.Test.YteldcbljedeeiaaGreatDoorGWholeStrictCard10
import Derived.Test.YteldcbljedeeiaaGreatDoorGWholeStrictCard9
import Derived.Test.YteldcbljedeeiaaGreatDoorGWholeStrictCard8
import Derived.Test.YteldcbljedeeiaaGreatDoorGWholeStrictCard3
import Derived.Test.YteldcbljedeeiaaGreatDoorGWholeStrictCard4
import Derived.RegionTactic
import Derived.Deep.RegionHeld3
import Derived.Deep.DeepCutAuto
import Derived.WalkMore
import Derived.Test.YteldcbljedeeiaaGreatDoorGWholeStrictCard7
import Derived.Test.YteldcbljedeeiaaGreatDoorGWholeStrictCard2
import Derived.Deep.OwnRows
import Derived.IntWalk
import Derived.Test.YteldcbljedeeiaaGreatDoorGWholeStrictCard6
/- A text. -/
namespace Go.Proofs.YteldcbljedeeiaaGreatDoor
open Go.RowKit

theorem reBat_ck {s:Bs}{b:BatS}{n:Nat}(h:reBat s=.ok (b,n)) (hs:s.length≤1000000) (x:BatR) (hb:x.b=b) (hl:x.l.map (·.1)=x.b.recs):CkR x:=by
 obtain⟨y,hy,_,hn,ha⟩:=reBat_ok h;obtain⟨_,_,_,_,_,r6⟩:=pre_ranges hy;obtain⟨_,_,rs,hu,_,hbb⟩:=asmB_ok ha;have hr:b.recs=rs:=by rw[hbb]
 have hf:b.first=y.first:=by rw[hbb]
 have hrl:(((s.drop 61).take (y.len - 49).toNat)).length≤1000000:=by rw[List.length_take,List.length_drop];omega
 obtain⟨f1,f2⟩:=unp_fitB (l:=x.l) hu (by rw[hl,hb,hr]) hrl;exact⟨hl,by rw[hb,hf];exact r6,f1,f2⟩
def BsOk (M:Nat) (l:List BatS):Prop:=l.length≤M∧∀b∈l,∃t n,reBat t=.ok (b,n)∧t.length≤M
def PpOk (M:Nat) (x:Int×List BatS):Prop:=BsOk M x.2
def PtOk (M:Nat) (x:Bs×List (Int×List BatS)):Prop:=x.1.length≤M∧x.2.length≤M∧∀y∈x.2,PpOk M y
theorem batsE_of {M:Nat}:∀(f:Nat) (s:Bs) (l:List BatS),batsE f s=.ok l→s.length≤M→61*l.length≤s.length∧∀b∈l,∃t n,reBat t=.ok (b,n)∧t.length≤M
  |0,s,l,h,_=>by
    have h:Except.ok []=Except.ok l:=h;injection h with h;subst h;exact⟨Nat.zero_le _,fun b hb=>by cases hb⟩
  |f+1,s,l,h,hs=>by
    have h:(if s=[]then Except.ok []else match reBat s with
      | .error e=>Except.error e
      | .ok y=>consB y.1 (batsE f (s.drop y.2)))=.ok l:=h
    by_cases c:s=[]
    · rw[if_pos c]at h;injection h with h;subst h;exact⟨Nat.zero_le _,fun b hb=>by cases hb⟩
    · rw[if_neg c]at h
      cases hr:reBat s with
      |error e=>rw[hr]at h;cases h
      |ok y=>
        obtain⟨b,n⟩:=y;rw[hr]at h;have h:consB b (batsE f (s.drop n))=.ok l:=h;obtain⟨x,_,hn,hl,_⟩:=reBat_ok hr
        cases ht:batsE f (s.drop n)with
        |error e=>rw[ht]at h;cases h
        |ok t=>
          rw[ht]at h;have h:Except.ok (b::t)=Except.ok l:=h;injection h with h;subst h;obtain⟨g1,g2⟩:=batsE_of (M:=M) f (s.drop n) t ht (by rw[List.length_drop];omega);rw[List.length_drop]at g1;refine⟨by rw[List.length_cons];omega,fun z hz=> ?_⟩
          rcases List.mem_cons.1 hz with hz|hz
          · subst hz;exact⟨s,n,hr,hs⟩
          · exact g2 z hz
theorem ppart_ok {M:Nat}(i:InS) (hd:i.s.length≤M):PpOk M i.ppart.1:=by
 have h1:=part_len12 i;unfold InS.ppart;simp only
 split
 · rename_i l hl
   obtain⟨g1,g2⟩:=batsE_of (M:=M) _ _ l hl (by omega);exact⟨by show l.length≤M;omega,g2⟩
 · exact⟨Nat.zero_le _,fun b hb=>by cases hb⟩
theorem ppartsN_ok {M:Nat}:∀(n:Nat) (acc:List (Int×List BatS)) (i:InS),i.s.length≤M→(∀x∈acc,PpOk M x)→(InS.ppartsN n acc i).1.length≤acc.length+n∧∀x∈(InS.ppartsN n acc i).1,PpOk M x
  |0,acc,i,_,ha=>⟨Nat.le_refl _,ha⟩
  |n+1,acc,i,hd,ha=>by
    show(if i.ppart.2.err=0 then InS.ppartsN n (acc++[i.ppart.1]) i.ppart.2 else([],i.ppart.2)).1.length≤acc.length+(n+1)∧∀x∈(if i.ppart.2.err=0 then InS.ppartsN n (acc++[i.ppart.1]) i.ppart.2 else([],i.ppart.2)).1,PpOk M x
    split
    · obtain⟨g1,g2⟩:=ppartsN_ok n (acc++[i.ppart.1]) i.ppart.2 (by rw[ppart_s12];exact hd) (fun x hx=>by
        rcases List.mem_append.1 hx with hx|hx
        · exact ha x hx
        · rw[List.mem_singleton.1 hx];exact ppart_ok i hd)
      rw[List.length_append,List.length_singleton]at g1;exact⟨by omega,g2⟩
    · exact⟨Nat.zero_le _,fun x hx=>by cases hx⟩
theorem cnt_le13 (i:InS) (each:Nat) (he:1≤each):(i.cnt each).1≤i.s.length:=by
 unfold InS.cnt InS.count;simp only
 split
 · exact Nat.zero_le _
 · split
   · exact Nat.zero_le _
   · rename_i h1 h2
     have h3:(i.int 4).1≤(((i.int 4).2.left:Nat):Int) / each:=by omega
     have h4:(((i.int 4).2.left:Nat):Int) / each≤((i.int 4).2.left:Nat):=Int.ediv_le_self _ (by omega);have h5:(i.int 4).2.left≤i.s.length:=by unfold InS.left;rw[int_s12];omega
     omega
theorem ptop_ok {M:Nat}(i:InS) (hd:i.s.length≤M):PtOk M i.ptop.1:=by
 have h0:i.text.1.length≤i.s.length:=(fixed_s12 i 2).2;have h1:=cnt_le13 i.text.2 8 (by decide);have h2:=cnt_s12 i.text.2 8;rw[text_s12]at h1 h2;obtain⟨g1,g2⟩:=ppartsN_ok (i.text.2.cnt 8).1 [] (i.text.2.cnt 8).2 (by rw[h2];exact hd) (fun x hx=>by cases hx);rw[List.length_nil]at g1;exact⟨by show i.text.1.length≤M;omega,by show(InS.ppartsN (i.text.2.cnt 8).1 [] (i.text.2.cnt 8).2).1.length≤M;omega,g2⟩
def PTop.pt (x:PTop):Bs×List (Int×List BatS):=(x.name,x.l.map PartR.pb)
theorem ck_top {M:Nat}(hM:M≤1000000) (x:PTop) (h:PtOk M x.pt) (hm:∀y∈x.l,∀z∈y.l,z.l.map (·.1)=z.b.recs):CkT x:=by
 obtain⟨h1,h2,h3⟩:=h;have h2:(x.l.map PartR.pb).length≤M:=h2;rw[List.length_map]at h2;have h1:x.name.length≤M:=h1;refine⟨by omega,by omega,fun y hy=> ?_⟩;obtain⟨g1,g2⟩:=h3 y.pb (List.mem_map_of_mem hy);have g1:(y.l.map BatR.b).length≤M:=g1;rw[List.length_map]at g1;refine⟨by omega,fun z hz=> ?_⟩;obtain⟨t,n,hr,ht⟩:=g2 z.b (List.mem_map_of_mem hz);exact reBat_ck hr (by omega) z rfl (hm y hy z hz)
def InS.ptopsN:Nat→List (Bs×List (Int×List BatS))→InS→List (Bs×List (Int×List BatS))×InS
  |0,acc,i=>(acc,i)
  |n+1,acc,i=>if i.ptop.2.err=0 then InS.ptopsN n (acc++[i.ptop.1]) i.ptop.2 else([],i.ptop.2)
theorem ptopsN_ok {M:Nat}:∀(n:Nat) (acc:List (Bs×List (Int×List BatS))) (i:InS),i.s.length≤M→(∀x∈acc,PtOk M x)→(InS.ptopsN n acc i).1.length≤acc.length+n∧∀x∈(InS.ptopsN n acc i).1,PtOk M x
  |0,acc,i,_,ha=>⟨Nat.le_refl _,ha⟩
  |n+1,acc,i,hd,ha=>by
    show(if i.ptop.2.err=0 then InS.ptopsN n (acc++[i.ptop.1]) i.ptop.2 else([],i.ptop.2)).1.length≤acc.length+(n+1)∧∀x∈(if i.ptop.2.err=0 then InS.ptopsN n (acc++[i.ptop.1]) i.ptop.2 else([],i.ptop.2)).1,PtOk M x
    split
    · obtain⟨g1,g2⟩:=ptopsN_ok n (acc++[i.ptop.1]) i.ptop.2 (by rw[ptop_s12];exact hd) (fun x hx=>by
        rcases List.mem_append.1 hx with hx|hx
        · exact ha x hx
        · rw[List.mem_singleton.1 hx];exact ptop_ok i hd)
      rw[List.length_append,List.length_singleton]at g1;exact⟨by omega,g2⟩
    · exact⟨Nat.zero_le _,fun x hx=>by cases hx⟩

theorem elem_topP:ElemT Tryz.prog 178 (.agg #[.string ⟨#[]⟩,.slice none 0 0]) 2 40:=elemT_of (by kernel_rfl) rfl (by decide)
theorem St.freezeTopsP {W0 w:World}{K:Know}{L:List Res}{v:Value}{T:TypeId}{l:List PTop}(h:St W0 w K (.row v T 2 l.length (l.flatMap ptcells)::L)) (ht:∀x∈l,K.has (Know.pparts (.slice x.q x.l.length x.cap) x.l)):St W0 w (K.and (Know.ptops v l)) L:=by
 have hf:=h.freezeRow (R:=RPTop) (fun x _=>⟨rfl,rfl⟩);exact hf.know (K':=K.and (Know.ptops v l)) (fun w F hh=>⟨hh.1,hh.2,fun x hx=>ht x hx _ _ hh.1⟩)
abbrev PartV:=Int×List BatS
abbrev TopV:=Bs×List PartV
theorem batsE_ne:∀(f:Nat) (s:Bs) (e:Int),batsE f s=.error e→e≠0
  |0,s,e,h=>by cases h
  |f+1,s,e,h=>by
    have h:(if s=[]then Except.ok []else match reBat s with
      | .error e=>Except.error e
      | .ok y=>consB y.1 (batsE f (s.drop y.2)))=.error e:=h
    by_cases c:s=[]
    · rw[if_pos c]at h;cases h
    · rw[if_neg c]at h
      cases hr:reBat s with
      |error e2=>rw[hr]at h;cases h;exact reBat_ne hr
      |ok y=>
        rw[hr]at h;have h:consB y.1 (batsE f (s.drop y.2))=.error e:=h
        cases ht:batsE f (s.drop y.2)with
        |error e2=>rw[ht]at h;have h:Except.error e2=Except.error e:=h;cases h;exact batsE_ne f _ e ht
        |ok t=>rw[ht]at h;cases h
theorem batsS_ne {s:Bs}{e:Int}(h:batsS s=.error e):e≠0:=batsE_ne _ _ _ h
def ppartP (s:Bs):Except Int (PartV×Nat):=
  if s.length<4 then .error 1 else match refixed 4 (s.drop 4)with
  | .error e=> .error e
  | .ok x=>if x.1.null then .error 4 else match batsS x.1.data with
    | .error e=> .error e
    | .ok l=> .ok ((sInt (s.take 4),l),4+x.2)
def ppartN:Nat→Bs→Except Int (List PartV×Nat)
  |0,_=> .ok ([],0)
  |n+1,s=>match ppartP s with
    | .error e=> .error e
    | .ok x=>match ppartN n (s.drop x.2)with
      | .error e=> .error e
      | .ok y=> .ok (x.1::y.1,x.2+y.2)
def ptopP (s:Bs):Except Int (TopV×Nat):=match textP s with
  | .error e=> .error e
  | .ok x=>match cntP 8 (s.drop x.2)with
    | .error e=> .error e
    | .ok n=>match ppartN n.1 (s.drop (x.2+4))with
      | .error e=> .error e
      | .ok y=> .ok ((x.1,y.1),x.2+4+y.2)
def ptopN:Nat→Bs→Except Int (List TopV×Nat)
  |0,_=> .ok ([],0)
  |n+1,s=>match ptopP s with
    | .error e=> .error e
    | .ok x=>match ptopN n (s.drop x.2)with
      | .error e=> .error e
      | .ok y=> .ok (x.1::y.1,x.2+y.2)
theorem refixed_nullK {k:Nat}{s:Bs}{x:BlobS×Nat}(h:refixed k s=.ok x) (hn:x.1.null=true):x.1.data=[]:=by
 exact zq21
theorem ppartA {s:Bs}{pos:Nat}{x:PartV}{m:Nat}(hp:pos≤s.length) (h:ppartP (s.drop pos)=.ok (x,m)):pos+m≤s.length∧(⟨s,pos,0⟩:InS).ppart=(x,⟨s,pos+m,0⟩):=by
 unfold ppartP at h
 by_cases h4:(s.drop pos).length<4
 · rw[if_pos h4]at h;cases h
 rw[if_neg h4]at h;obtain⟨g1,g2⟩:=int4_ok s pos hp (by omega);rw[List.drop_drop]at h
 cases hr:refixed 4 (s.drop (pos+4))with
 |error e=>rw[hr]at h;cases h
 |ok b=>
  rw[hr]at h;obtain⟨g3,g4⟩:=(rds_fixed 4 (by decide) (by decide)).ok s (pos+4) b.1 b.2 g1 hr;have g4:(⟨s,pos+4,0⟩:InS).fixed 4=(b.1,⟨s,pos+4+b.2,0⟩):=g4
  (try simp only at h)
  cases hn:b.1.null with
  |true=>rw[hn,if_pos rfl]at h;cases h
  |false=>
   rw[hn,if_neg (by decide)]at h
   cases hb:batsS b.1.data with
   |error e=>rw[hb]at h;cases h
   |ok l=>
    rw[hb]at h
    cases h
    refine⟨by omega,?_⟩;unfold InS.ppart;simp only[g2,g4,hn,hb];rw[Nat.add_assoc]
    rfl
theorem ppartB {s:Bs}{pos:Nat}{e:Int}(hp:pos≤s.length) (h:ppartP (s.drop pos)=.error e):e≠0∧∃q,q≤s.length∧(⟨s,pos,0⟩:InS).ppart.2=⟨s,q,e⟩:=by
 unfold ppartP at h
 by_cases h4:(s.drop pos).length<4
 · rw[if_pos h4]at h
   cases h
   obtain⟨q,g1,g2⟩:=int4_short s pos hp h4;have g3:(⟨s,q,1⟩:InS).fixed 4=(⟨false,[]⟩,⟨s,q,1⟩):=(rds_fixed 4 (by decide) (by decide)).stuck ⟨s,q,1⟩ (by show(1:Int)≠0;decide);refine⟨by decide,q,g1,?_⟩;unfold InS.ppart;simp only[g2,g3,batsS_nil]
   rfl
 rw[if_neg h4]at h;obtain⟨g1,g2⟩:=int4_ok s pos hp (by omega);rw[List.drop_drop]at h
 cases hr:refixed 4 (s.drop (pos+4))with
 |error e2=>
   rw[hr]at h
   cases h
   obtain⟨g3,q,g4,g5⟩:=(rds_fixed 4 (by decide) (by decide)).err s (pos+4) e g1 hr;refine⟨g3,q,g4,?_⟩;have g5:(⟨s,pos+4,0⟩:InS).fixed 4=(⟨false,[]⟩,⟨s,q,e⟩):=g5;unfold InS.ppart;simp only[g2,g5,batsS_nil]
   rfl
 |ok b=>
   rw[hr]at h;obtain⟨g3,g4⟩:=(rds_fixed 4 (by decide) (by decide)).ok s (pos+4) b.1 b.2 g1 hr;have g4:(⟨s,pos+4,0⟩:InS).fixed 4=(b.1,⟨s,pos+4+b.2,0⟩):=g4
   (try simp only at h)
   cases hn:b.1.null with
   |true=>
    rw[hn,if_pos rfl]at h
    cases h
    refine⟨by decide,pos+4+b.2,g3,?_⟩;unfold InS.ppart;simp only[g2,g4,hn,if_true,refixed_nullK hr hn,batsS_nil]
    rfl
   |false=>
    rw[hn,if_neg (by decide)]at h
    cases hb:batsS b.1.data with
    |error e2=>
     rw[hb]at h
     cases h
     refine⟨batsS_ne hb,pos+4+b.2,g3,?_⟩;unfold InS.ppart;simp only[g2,g4,hn,hb]
     rfl
    |ok l=>rw[hb]at h;cases h
theorem ppartsN_at:∀(n:Nat) (acc:List PartV) (s:Bs) (pos:Nat),pos≤s.length→
    (∀t k,ppartN n (s.drop pos)=.ok (t,k)→pos+k≤s.length∧InS.ppartsN n acc ⟨s,pos,0⟩=(acc++t,⟨s,pos+k,0⟩))∧
    (∀e,ppartN n (s.drop pos)=.error e→e≠0∧∃q,q≤s.length∧InS.ppartsN n acc ⟨s,pos,0⟩=([],⟨s,q,e⟩))
  |0,acc,s,pos,hp=>⟨fun t k h=>(by cases h;simp[InS.ppartsN];exact hp),fun e h=>(by cases h)⟩
  |n+1,acc,s,pos,hp=>by
    unfold ppartN InS.ppartsN
    cases h1:ppartP (s.drop pos)with
    |error e1=>
      refine⟨fun t k h=>(by cases h),fun e h=> ?_⟩
      cases h
      obtain⟨g1,q,g2,g3⟩:=ppartB hp h1;refine⟨g1,q,g2,?_⟩;rw[g3,if_neg g1]
    |ok x=>
      obtain⟨g1,g2⟩:=ppartA hp h1;have ih:=ppartsN_at n (acc++[x.1]) s (pos+x.2) g1;rw[g2];simp only[if_true];rw[List.drop_drop];refine⟨fun t k h=> ?_,fun e h=> ?_⟩
      · cases h2:ppartN n (s.drop (pos+x.2))with
        |error e2=>rw[h2]at h;cases h
        |ok y=>
          exact zq16
      · cases h2:ppartN n (s.drop (pos+x.2))with
        |error e2=>
          rw[h2]at h
          cases h
          exact ih.2 e h2
        |ok y=>rw[h2]at h;cases h
theorem ptopA {s:Bs}{pos:Nat}{x:TopV}{m:Nat}(hp:pos≤s.length) (h:ptopP (s.drop pos)=.ok (x,m)):pos+m≤s.length∧(⟨s,pos,0⟩:InS).ptop=(x,⟨s,pos+m,0⟩):=by
 unfold ptopP at h
 cases h1:textP (s.drop pos)with
 |error e1=>rw[h1]at h;cases h
 |ok t=>
  rw[h1]at h;obtain⟨g1,g2⟩:=rds_text.ok s pos t.1 t.2 hp h1;simp only[List.drop_drop]at h
  cases h2:cntP 8 (s.drop (pos+t.2))with
  |error e2=>rw[h2]at h;cases h
  |ok c=>
   rw[h2]at h;obtain⟨g3,g4⟩:=(rds_cnt 8 (by decide)).ok s (pos+t.2) c.1 c.2 g1 h2;obtain⟨c1,_,_,_⟩:=cntP_ok (by decide) h2;have g4:(⟨s,pos+t.2,0⟩:InS).cnt 8=(c.1,⟨s,pos+t.2+c.2,0⟩):=g4
   (try simp only at h)
   rw[c1]at g3 g4
   cases h3:ppartN c.1 (s.drop (pos+(t.2+4)))with
   |error e3=>rw[h3]at h;cases h
   |ok y=>
    rw[h3]at h
    cases h
    rw[←Nat.add_assoc]at h3;obtain⟨a,b⟩:=(ppartsN_at c.1 [] s (pos+t.2+4) g3).1 y.1 y.2 h3;refine⟨by omega,?_⟩;unfold InS.ptop;rw[g2];simp only[g4,b,List.nil_append];rw[show pos+(t.2+4+y.2)=pos+t.2+4+y.2 by omega]
theorem ptopB {s:Bs}{pos:Nat}{e:Int}(hp:pos≤s.length) (h:ptopP (s.drop pos)=.error e):e≠0∧∃q,q≤s.length∧(⟨s,pos,0⟩:InS).ptop.2=⟨s,q,e⟩:=by
 unfold ptopP at h
 cases h1:textP (s.drop pos)with
 |error e1=>
  rw[h1]at h
  cases h
  obtain⟨g1,q,g2,g3⟩:=rds_text.err s pos e hp h1;have g4:(⟨s,q,e⟩:InS).cnt 8=(0,⟨s,q,e⟩):=(rds_cnt 8 (by decide)).stuck ⟨s,q,e⟩ g1;refine⟨g1,q,g2,?_⟩;unfold InS.ptop;rw[g3];simp only[g4]
  rfl
 |ok t=>
  rw[h1]at h;obtain⟨g1,g2⟩:=rds_text.ok s pos t.1 t.2 hp h1;simp only[List.drop_drop]at h
  cases h2:cntP 8 (s.drop (pos+t.2))with
  |error e2=>
   rw[h2]at h
   cases h
   obtain⟨g3,q,g4,g5⟩:=(rds_cnt 8 (by decide)).err s (pos+t.2) e g1 h2;have g5:(⟨s,pos+t.2,0⟩:InS).cnt 8=(0,⟨s,q,e⟩):=g5;refine⟨g3,q,g4,?_⟩;unfold InS.ptop;rw[g2];simp only[g5]
   rfl
  |ok c=>
   rw[h2]at h;obtain⟨g3,g4⟩:=(rds_cnt 8 (by decide)).ok s (pos+t.2) c.1 c.2 g1 h2;obtain⟨c1,_,_,_⟩:=cntP_ok (by decide) h2;have g4:(⟨s,pos+t.2,0⟩:InS).cnt 8=(c.1,⟨s,pos+t.2+c.2,0⟩):=g4
   (try simp only at h)
   rw[c1]at g3 g4
   cases h3:ppartN c.1 (s.drop (pos+(t.2+4)))with
   |error e3=>
    rw[h3]at h
    cases h
    rw[←Nat.add_assoc]at h3;obtain⟨g5,q,g6,g7⟩:=(ppartsN_at c.1 [] s (pos+t.2+4) g3).2 e h3;refine⟨g5,q,g6,?_⟩;unfold InS.ptop;rw[g2];simp only[g4,g7]
   |ok y=>rw[h3]at h;cases h
theorem ptopsN_at:∀(n:Nat) (acc:List TopV) (s:Bs) (pos:Nat),pos≤s.length→
    (∀t k,ptopN n (s.drop pos)=.ok (t,k)→pos+k≤s.length∧InS.ptopsN n acc ⟨s,pos,0⟩=(acc++t,⟨s,pos+k,0⟩))∧
    (∀e,ptopN n (s.drop pos)=.error e→e≠0∧∃q,q≤s.length∧InS.ptopsN n acc ⟨s,pos,0⟩=([],⟨s,q,e⟩))
  |0,acc,s,pos,hp=>⟨fun t k h=>(by cases h;simp[InS.ptopsN];exact hp),fun e h=>(by cases h)⟩
  |n+1,acc,s,pos,hp=>by
    unfold ptopN InS.ptopsN
    cases h1:ptopP (s.drop pos)with
    |error e1=>
      refine⟨fun t k h=>(by cases h),fun e h=> ?_⟩
      cases h
      obtain⟨g1,q,g2,g3⟩:=ptopB hp h1;refine⟨g1,q,g2,?_⟩;rw[g3,if_neg g1]
    |ok x=>
      obtain⟨g1,g2⟩:=ptopA hp h1;have ih:=ptopsN_at n (acc++[x.1]) s (pos+x.2) g1;rw[g2];simp only[if_true];rw[List.drop_drop];refine⟨fun t k h=> ?_,fun e h=> ?_⟩
      · cases h2:ptopN n (s.drop (pos+x.2))with
        |error e2=>rw[h2]at h;cases h
        |ok y=>
          exact zq16
      · cases h2:ptopN n (s.drop (pos+x.2))with
        |error e2=>
          rw[h2]at h
          cases h
          exact ih.2 e h2
        |ok y=>rw[h2]at h;cases h
set_option maxHeartbeats 1000000 in
set_option maxRecDepth 100000 in
theorem parts_rise (l:List PartR) (q:Option Addr) (cap:Nat) (r:Bool) (hr:riseP (-1) l=r) (hll:l.length≤4398046511104){W0 w:World}{K:Know}{L:List Res}(hk:K.has (Know.pparts (.slice q l.length cap) l)) (h:St W0 w K L):
  Calls Tryz.prog 239 #[.slice q l.length cap] w fun en w'=>en=.returned (.bool r)∧St W0 w' K L:=by
 have H:=Lib.hid h;have HK:=Lib.hid hk;have HR:=Lib.hid (show riseP (-1) (l.drop 0)=r by rw[List.drop_zero];exact hr);have hni:(l.length:Int)≤4398046511104:=by omega
 clear h hk hr hll;go_enter Tryz.func239,Tryz.ntmps239;go_wp2;go_loopw [3,8] (fun av iv wr=>∃(k:Nat) (a:Int),k≤l.length∧iv=.int .i64 k∧av=.int .i64 a∧Hid (riseP a (l.drop k)=r)∧St W0 wr K L) (fun _ iv _=>l.length - (intOf iv).toNat)
 case atStart=>exact⟨0,-1,Nat.zero_le _,rfl,rfl,HR,H.out⟩
 case round=>
  obtain⟨k,a,hkl,rfl,rfl,HC,hst⟩:=hrel;clear H HR;have H:=Lib.hid hst;clear hst
  by_cases hlt:k<l.length
  · obtain⟨bk,off,hqq⟩:=pparts_at HK.out H.out (by omega);subst hqq;obtain⟨x,hx⟩:∃x,l[k]=x:=⟨_,rfl⟩;obtain⟨c0,c1⟩:=pparts_cell HK.out H.out k hlt x hx;have hc:=HC.out;rw[List.drop_eq_getElem_cons hlt,hx,riseP_cons]at hc;have hkn:(k:Int)<(l.length:Int):=by omega
    obtain⟨i,hi⟩:∃i,x.idx=i:=⟨_,rfl⟩;rw[hi]at c0 hc
    by_cases c2:a<i
    · have d1:decide (i≤a)=false:=decide_eq_false (by omega)
      by_cases c3:i≤2147483647
      · have d2:decide (2147483647<i)=false:=decide_eq_false (by omega);rw[decide_eq_true c2,decide_eq_true c3,Bool.true_and,Bool.true_and]at hc;have HC2:=Lib.hid hc;clear hc hx hi c2 c3;go_wp2_with fail;go_roundw
        case rel=>
         refine⟨k+1,i,hlt,by go_num,rfl,HC2,?_⟩
         first|exact H.out|exact H.out.alloc _
        case measure=>first|(simp[intOf];done)|(simp[intOf];omega)
      · have d2:decide (2147483647<i)=true:=decide_eq_true (by omega);rw[decide_eq_false c3,Bool.and_false,Bool.false_and]at hc;subst hc;clear hx hi c2 c3;go_wp2_with fail;go_ret;exact⟨rfl,by first|exact H.out|exact H.out.alloc _⟩
    · have d1:decide (i≤a)=true:=decide_eq_true (by omega);rw[decide_eq_false c2,Bool.false_and,Bool.false_and]at hc;subst hc;clear hx hi c2;go_wp2_with fail;go_ret;exact⟨rfl,by first|exact H.out|exact H.out.alloc _⟩
  · obtain rfl:k=l.length:=by omega
    have hc:=HC.out;rw[List.drop_length]at hc;have hc:true=r:=hc;subst hc;go_wp2_with fail;go_ret;exact⟨rfl,H.out⟩

theorem zq25 {p:Prop}(h:p:=by
  obtain rfl:k=l.length:=by omega
  have hc:=HC.out;rw[List.drop_length]at hc;have hc:0=e:=hc;subst hc;go_wp2_with fail;go_ret;exact⟨rfl,H.out⟩):p:=h
set_option maxHeartbeats 2000000 in
set_option maxRecDepth 100000 in
theorem check_batches (txn:Bool) (l:List BatR) (q:Option Addr) (cap:Nat) (e:Int) (he:errBs txn l=e) (hf:∀x∈l,CkR x) (hll:l.length≤4398046511104){W0 w:World}{K:Know}{L:List Res}(hk:K.has (Know.bats (.slice q l.length cap) l)) (h:St W0 w K L):
  Calls Tryz.prog 240 #[.slice q l.length cap,.bool txn] w fun en w'=>en=.returned (.int .i64 e)∧St W0 w' K L:=by
 have H:=Lib.hid h;have HK:=Lib.hid hk;have HF:=Lib.hid hf;have HR:=Lib.hid (show errBs txn (l.drop 0)=e by rw[List.drop_zero];exact he);have hni:(l.length:Int)≤4398046511104:=by omega
 clear h hk he hll hf;go_enter Tryz.func240,Tryz.ntmps240;go_wp2;go_loopw [10] (fun iv wr=>∃(k:Nat),k≤l.length∧iv=.int .i64 k∧Hid (errBs txn (l.drop k)=e)∧St W0 wr K L) (fun iv _=>l.length - (intOf iv).toNat)
 case atStart=>exact⟨0,Nat.zero_le _,rfl,HR,H.out⟩
 case round=>
  obtain⟨k,hkl,rfl,HC,hst⟩:=hrel;clear H HR;have H:=Lib.hid hst;clear hst
  by_cases hlt:k<l.length
  · obtain⟨bk,off,hqq⟩:=bats_at HK.out H.out (by omega);subst hqq;obtain⟨x,hx⟩:∃x,l[k]=x:=⟨_,rfl⟩;have hmem:x∈l:=hx ▸ List.getElem_mem hlt;have hck:=HF.out x hmem;have hcell0:=bats_cell HK.out H.out k hlt x hx;have HXK0:=bats_recs HK.out hmem;have hc:=HC.out;rw[List.drop_eq_getElem_cons hlt,hx,errBs_cons]at hc;have hkn:(k:Int)<(l.length:Int):=by omega
    obtain⟨⟨base,leader,app,txn2,ctl,last,first,maxt,prod,epoch,sq,rcs⟩,xl,xq,xcap⟩:=x;have hcell:wr.cell? ⟨bk,off+k*12,none⟩=some (.int .i64 base)∧wr.cell? ⟨bk,off+k*12+1,none⟩=some (.int .i64 leader)∧wr.cell? ⟨bk,off+k*12+2,none⟩=some (.bool app)∧wr.cell? ⟨bk,off+k*12+3,none⟩=some (.bool txn2)∧wr.cell? ⟨bk,off+k*12+4,none⟩=some (.bool ctl)∧wr.cell? ⟨bk,off+k*12+5,none⟩=some (.int .i64 last)∧wr.cell? ⟨bk,off+k*12+6,none⟩=some (.int .i64 first)∧wr.cell? ⟨bk,off+k*12+7,none⟩=some (.int .i64 maxt)∧wr.cell? ⟨bk,off+k*12+8,none⟩=some (.int .i64 prod)∧wr.cell? ⟨bk,off+k*12+9,none⟩=some (.int .i64 epoch)∧wr.cell? ⟨bk,off+k*12+10,none⟩=some (.int .i64 sq)∧wr.cell? ⟨bk,off+k*12+11,none⟩=some (.slice xq xl.length xcap):=hcell0;obtain⟨c0,c1,c2,c3,c4,c5,c6,c7,c8,c9,c10,c11⟩:=hcell;have HXK:=Lib.hid (show K.has (Know.recs (.slice xq xl.length xcap) xl)from HXK0);have HFI:=Lib.hid (show first≤9223372036854775807 from hck.first);have HFB:=Lib.hid (show FitB xl from hck.fit);have HLN:=Lib.hid (show xl.length≤1000000 from hck.len);obtain⟨be,hbe⟩:∃n,batErr ⟨base,leader,app,txn2,ctl,last,first,maxt,prod,epoch,sq,rcs⟩=n:=⟨_,rfl⟩;have HBE:=Lib.hid (show batErr ⟨base,leader,app,txn2,ctl,last,first,maxt,prod,epoch,sq,xl.map (·.1)⟩=be by rw[show xl.map (·.1)=rcs from hck.recs];exact hbe);have hc:(if be≠0 then be else if ctl=true then 12 else if txn2≠txn then 8 else errBs txn (l.drop (k+1)))=e:=by rw[←hbe];exact hc
    clear hx hmem hck hcell0 HXK0 hbe
    by_cases b0:be=0
    · subst b0;rw[if_neg (by simp)]at hc
      cases ctl with
      |true=>
       rw[if_pos rfl]at hc;subst hc;go_wp2_with (go_at_call 82;(with_reducible refine(bat_check base leader app txn2 true last first maxt prod epoch sq xl xq xcap 0 HBE.out HFI.out HFB.out HLN.out HXK.out (H.out.allocRaw #[.int .i64 base,.int .i64 leader,.bool app,.bool txn2,.bool true,.int .i64 last,.int .i64 first,.int .i64 maxt,.int .i64 prod,.int .i64 epoch,.int .i64 sq,.slice xq xl.length xcap] 101)).mono ?_);rintro e_ wn ⟨rfl,h⟩;have y3:=h.rawCell 3;have y4:=h.rawCell 4;simp at y3 y4;replace H:=Lib.hid h;clear h);go_ret;exact⟨rfl,H.out.drop⟩
      |false=>
       rw[if_neg (by simp)]at hc
       cases txn2 with
       |true=>
        cases txn with
        |true=>
         rw[if_neg (by simp)]at hc;have HC2:=Lib.hid hc;clear hc;go_wp2_with (go_at_call 82;(with_reducible refine(bat_check base leader app true false last first maxt prod epoch sq xl xq xcap 0 HBE.out HFI.out HFB.out HLN.out HXK.out (H.out.allocRaw #[.int .i64 base,.int .i64 leader,.bool app,.bool true,.bool false,.int .i64 last,.int .i64 first,.int .i64 maxt,.int .i64 prod,.int .i64 epoch,.int .i64 sq,.slice xq xl.length xcap] 101)).mono ?_);rintro e_ wn ⟨rfl,h⟩;have y3:=h.rawCell 3;have y4:=h.rawCell 4;simp at y3 y4;replace H:=Lib.hid h;clear h);go_roundw
         case rel=>
          refine⟨k+1,hlt,by go_num,HC2,?_⟩;exact H.out.drop
         case measure=>first|(simp[intOf];done)|(simp[intOf];omega)
        |false=>
         rw[if_pos (by simp)]at hc;subst hc;go_wp2_with (go_at_call 82;(with_reducible refine(bat_check base leader app true false last first maxt prod epoch sq xl xq xcap 0 HBE.out HFI.out HFB.out HLN.out HXK.out (H.out.allocRaw #[.int .i64 base,.int .i64 leader,.bool app,.bool true,.bool false,.int .i64 last,.int .i64 first,.int .i64 maxt,.int .i64 prod,.int .i64 epoch,.int .i64 sq,.slice xq xl.length xcap] 101)).mono ?_);rintro e_ wn ⟨rfl,h⟩;have y3:=h.rawCell 3;have y4:=h.rawCell 4;simp at y3 y4;replace H:=Lib.hid h;clear h);go_ret;exact⟨rfl,H.out.drop⟩
       |false=>
        cases txn with
        |true=>
         rw[if_pos (by simp)]at hc;subst hc;go_wp2_with (go_at_call 82;(with_reducible refine(bat_check base leader app false false last first maxt prod epoch sq xl xq xcap 0 HBE.out HFI.out HFB.out HLN.out HXK.out (H.out.allocRaw #[.int .i64 base,.int .i64 leader,.bool app,.bool false,.bool false,.int .i64 last,.int .i64 first,.int .i64 maxt,.int .i64 prod,.int .i64 epoch,.int .i64 sq,.slice xq xl.length xcap] 101)).mono ?_);rintro e_ wn ⟨rfl,h⟩;have y3:=h.rawCell 3;have y4:=h.rawCell 4;simp at y3 y4;replace H:=Lib.hid h;clear h);go_ret;exact⟨rfl,H.out.drop⟩
        |false=>
         rw[if_neg (by simp)]at hc;have HC2:=Lib.hid hc;clear hc;go_wp2_with (go_at_call 82;(with_reducible refine(bat_check base leader app false false last first maxt prod epoch sq xl xq xcap 0 HBE.out HFI.out HFB.out HLN.out HXK.out (H.out.allocRaw #[.int .i64 base,.int .i64 leader,.bool app,.bool false,.bool false,.int .i64 last,.int .i64 first,.int .i64 maxt,.int .i64 prod,.int .i64 epoch,.int .i64 sq,.slice xq xl.length xcap] 101)).mono ?_);rintro e_ wn ⟨rfl,h⟩;have y3:=h.rawCell 3;have y4:=h.rawCell 4;simp at y3 y4;replace H:=Lib.hid h;clear h);go_roundw
         case rel=>
          refine⟨k+1,hlt,by go_num,HC2,?_⟩;exact H.out.drop
         case measure=>first|(simp[intOf];done)|(simp[intOf];omega)
    · rw[if_pos b0]at hc;subst hc;have g1:(be==0)=false:=by rw[beq_eq_false_iff_ne];exact b0
      have g2:(be !=0)=true:=by simp[bne,g1]
      clear b0;go_wp2_with (go_at_call 82;(with_reducible refine(bat_check base leader app txn2 ctl last first maxt prod epoch sq xl xq xcap be HBE.out HFI.out HFB.out HLN.out HXK.out (H.out.allocRaw #[.int .i64 base,.int .i64 leader,.bool app,.bool txn2,.bool ctl,.int .i64 last,.int .i64 first,.int .i64 maxt,.int .i64 prod,.int .i64 epoch,.int .i64 sq,.slice xq xl.length xcap] 101)).mono ?_);rintro e_ wn ⟨rfl,h⟩;have y3:=h.rawCell 3;have y4:=h.rawCell 4;simp at y3 y4;replace H:=Lib.hid h;clear h);go_ret;exact⟨rfl,H.out.drop⟩
  · exact zq25
set_option maxHeartbeats 2000000 in
set_option maxRecDepth 100000 in
theorem check_topics (l:List PTop) (q:Option Addr) (cap:Nat) (e:Int) (he:errTops l=e) (hf:∀x∈l,x.name.length≤140737488355328∧x.l.length≤4398046511104) (hll:l.length≤4398046511104){W0 w:World}{K:Know}{L:List Res}(hk:K.has (Know.ptops (.slice q l.length cap) l)) (h:St W0 w K L):
   Calls Tryz.prog 206 #[.slice q l.length cap] w fun en w'=>en=.returned (.int .i64 e)∧St W0 w' K L:=by
 have H:=Lib.hid h;have HK:=Lib.hid hk;have HF:=Lib.hid hf;have hni:(l.length:Int)≤4398046511104:=by omega
 unfold errTops at he;clear h hk hf
 by_cases h0:l.length=0
 · rw[if_pos h0]at he;subst he;rw[h0];clear hni hll h0;go_enter Tryz.func206,Tryz.ntmps206;go_wp2;go_ret;exact⟨rfl,H.out⟩
 rw[if_neg h0]at he;have HR:=Lib.hid (show errT [] (l.drop 0)=e by rw[List.drop_zero];exact he);have hz:((l.length:Int)==0)=false:=by rw[beq_eq_false_iff_ne];omega
 have hz2:¬l.length=0:=h0;clear he hll h0;go_enter Tryz.func206,Tryz.ntmps206;go_wp2;go_loopw [3,11] (fun av iv wr=>∃(k:Nat) (a:Bs),k≤l.length∧iv=.int .i64 k∧av=.string (bb a)∧Hid (errT a (l.drop k)=e)∧St W0 wr K L) (fun _ iv _=>l.length - (intOf iv).toNat)
 case atStart=>exact⟨0,[],Nat.zero_le _,rfl,rfl,HR,H.out⟩
 case round=>
   obtain⟨k,a,hkl,rfl,rfl,HC,hst⟩:=hrel;clear H HR;have H:=Lib.hid hst;clear hst
   by_cases hlt:k<l.length
   · obtain⟨bk,off,hqq⟩:=ptops_at HK.out H.out (by omega);subst hqq;obtain⟨x,hx⟩:∃x,l[k]=x:=⟨_,rfl⟩;have hmem:x∈l:=hx ▸ List.getElem_mem hlt;obtain⟨hn1,hn2⟩:=HF.out x hmem;obtain⟨c0,c1⟩:=ptops_cell HK.out H.out k hlt x hx;have HXK0:=ptops_parts HK.out hmem;have hc:=HC.out;rw[List.drop_eq_getElem_cons hlt,hx,errT_cons]at hc;have hkn:(k:Int)<(l.length:Int):=by omega
     obtain⟨nm,xl,xq,xcap⟩:=x;simp only at c0 c1 hc hn1 hn2 HXK0;have HXK:=Lib.hid HXK0;have HNM:=Lib.hid hn1;have HLN:=Lib.hid hn2;clear hx hmem hn1 HXK0
     by_cases z:xl.length=0
     · rw[if_pos z]at hc;subst hc;rw[z]at c1;clear z hn2;go_wp2_with fail;go_ret;exact⟨rfl,H.out.alloc _⟩
     rw[if_neg z]at hc;have z1:((xl.length:Int)==0)=false:=by rw[beq_eq_false_iff_ne];omega
     have z2:¬xl.length=0:=z;obtain⟨kr,hkr⟩:∃r,keyRight nm=r:=⟨_,rfl⟩;obtain⟨rp,hrp⟩:∃r,riseP (-1) xl=r:=⟨_,rfl⟩;rw[hkr,hrp]at hc;have HKR:=Lib.hid hkr;have HRP:=Lib.hid hrp;clear z hn2 hkr hrp
     cases kr with
     |false=>
       simp only[Bool.false_and,Bool.false_eq_true,if_false]at hc;subst hc
       go_wp2_with (first
   |(go_at_call 88;(with_reducible refine(key_rightQ nm false HKR.out HNM.out (H.out.allocRaw #[.string (bb nm),.slice xq xl.length xcap] 178)).mono ?_);rintro e_ wn ⟨rfl,h⟩;have y0:=h.rawCell 0;have y1:=h.rawCell 1;simp at y0 y1;replace H:=Lib.hid h;clear h))
       go_ret;exact⟨rfl,H.out.drop⟩
     |true=>
       simp only[Bool.true_and]at hc
       cases hp:Op.bytesLess a nm with
       |false=>
        rw[hp]at hc;simp only[Bool.false_and,Bool.false_eq_true,if_false]at hc;subst hc
        rcases leq_cases nm a hp with g1|⟨g1,g2⟩
        · clear hp
          go_wp2_with (first
   |(go_at_call 88;(with_reducible refine(key_rightQ nm true HKR.out HNM.out (H.out.allocRaw #[.string (bb nm),.slice xq xl.length xcap] 178)).mono ?_);rintro e_ wn ⟨rfl,h⟩;have y0:=h.rawCell 0;have y1:=h.rawCell 1;simp at y0 y1;replace H:=Lib.hid h;clear h))
          go_ret;exact⟨rfl,H.out.drop⟩
        · clear hp
          go_wp2_with (first
   |(go_at_call 88;(with_reducible refine(key_rightQ nm true HKR.out HNM.out (H.out.allocRaw #[.string (bb nm),.slice xq xl.length xcap] 178)).mono ?_);rintro e_ wn ⟨rfl,h⟩;have y0:=h.rawCell 0;have y1:=h.rawCell 1;simp at y0 y1;replace H:=Lib.hid h;clear h))
          go_ret;exact⟨rfl,H.out.drop⟩
       |true=>
        rw[hp]at hc;simp only[Bool.true_and]at hc;obtain⟨g1,g2⟩:=leq_parts nm a hp;clear hp
        cases rp with
        |false=>
          simp only[Bool.false_eq_true,if_false]at hc;subst hc
          go_wp2_with (first
   |(go_at_call 88;(with_reducible refine(key_rightQ nm true HKR.out HNM.out (H.out.allocRaw #[.string (bb nm),.slice xq xl.length xcap] 178)).mono ?_);rintro e_ wn ⟨rfl,h⟩;have y0:=h.rawCell 0;have y1:=h.rawCell 1;simp at y0 y1;replace H:=Lib.hid h;clear h)
   |(go_at_call 239;clear y0 y1;(with_reducible refine(parts_rise xl xq xcap false HRP.out HLN.out HXK.out H.out).mono ?_);rintro e_ wn ⟨rfl,h⟩;have y0:=h.rawCell 0;simp at y0;replace H:=Lib.hid h;clear h))
          go_ret;exact⟨rfl,H.out.drop⟩
        |true=>
          rw[if_pos rfl]at hc;have HC2:=Lib.hid hc;clear hc
          go_wp2_with (first
   |(go_at_call 88;(with_reducible refine(key_rightQ nm true HKR.out HNM.out (H.out.allocRaw #[.string (bb nm),.slice xq xl.length xcap] 178)).mono ?_);rintro e_ wn ⟨rfl,h⟩;have y0:=h.rawCell 0;have y1:=h.rawCell 1;simp at y0 y1;replace H:=Lib.hid h;clear h)
   |(go_at_call 239;clear y0 y1;(with_reducible refine(parts_rise xl xq xcap true HRP.out HLN.out HXK.out H.out).mono ?_);rintro e_ wn ⟨rfl,h⟩;have y0:=h.rawCell 0;simp at y0;replace H:=Lib.hid h;clear h))
          go_roundw
          case rel=>
           refine⟨k+1,nm,hlt,by go_num,rfl,HC2,?_⟩;exact H.out.drop
          case measure=>first|(simp[intOf];done)|(simp[intOf];omega)
   · exact zq25
theorem zq9 {p:Prop}(h:p:=by
  clear n0 he2 hv v3
  by_cases e0:e2=0
  · subst e0;rw[if_neg (by simp)]at hep;rw[←hep]at hc;have HC2:=Lib.hid hc;clear hc;go_wp2_with (go_at_call 240;(with_reducible refine(check_batches (!nl) yl yq ycap 0 HBE.out HCK.out HYL.out HYK.out (H.out.allocRaw #[.int .i64 yi,.slice yq yl.length ycap] 181)).mono ?_);rintro e_ wn ⟨rfl,h⟩;have h:=h.drop;replace H:=Lib.hid h;clear h);go_roundw
    case rel=>
     refine⟨j+1,hjt,by go_num,HC2,?_⟩;exact H.out
    case measure=>first|(simp[intOf];done)|(simp[intOf];omega)
  · rw[if_pos e0]at hep;subst hep;rw[if_pos e0]at hc;subst hc;have e1:(e2==0)=false:=by rw[beq_eq_false_iff_ne];exact e0
    have e3:(e2 !=0)=true:=by simp[bne,e1]
    clear e0;go_wp2_with (go_at_call 240;(with_reducible refine(check_batches (!nl) yl yq ycap e2 HBE.out HCK.out HYL.out HYK.out (H.out.allocRaw #[.int .i64 yi,.slice yq yl.length ycap] 181)).mono ?_);rintro e_ wn ⟨rfl,h⟩;have h:=h.drop;replace H:=Lib.hid h;clear h);go_ret;exact⟨rfl,H.out.drop⟩):p:=h
set_option maxHeartbeats 4000000 in
set_option maxRecDepth 100000 in
theorem check_parts (nl:Bool) (dd:Bs) (ac tm v:Int) (l:List PTop) (q:Option Addr) (cap:Nat) (e:Int) (he:errPT (!nl) v l=e) (hf:∀x∈l,CkT x) (hll:l.length≤4398046511104){W0 w:World}{K:Know}{L:List Res}(hk:K.has (Know.ptops (.slice q l.length cap) l)) (h:St W0 w K L):
  Calls Tryz.prog 207 #[.agg #[.bool nl,.string (bb dd),.int .i64 ac,.int .i64 tm,.slice q l.length cap],.int .i64 v] w fun en w'=>en=.returned (.int .i64 e)∧St W0 w' K L:=by
 obtain⟨rb,hrb⟩:∃b,w.heap.size=b:=⟨_,rfl⟩;have g1:=h.allocRaw #[.bool nl,.string (bb dd),.int .i64 ac,.int .i64 tm,.slice q l.length cap] 36;rw[hrb]at g1;have z0:=g1.rawCell 0;have z3:=g1.rawCell 4;simp at z0 z3;have H:=Lib.hid g1;have HK:=Lib.hid hk;have HF:=Lib.hid hf;have HR:=Lib.hid (show errPT (!nl) v (l.drop 0)=e by rw[List.drop_zero];exact he);have hni:(l.length:Int)≤4398046511104:=by omega
 clear h g1 hk hf he hll;go_enter Tryz.func207,Tryz.ntmps207;go_wp2;clear z0 z3;go_loopw [13] (fun iv wr=>∃(k:Nat),k≤l.length∧iv=.int .i64 k∧Hid (errPT (!nl) v (l.drop k)=e)∧St W0 wr K (.raw rb #[.bool nl,.string (bb dd),.int .i64 ac,.int .i64 tm,.slice q l.length cap] 36::L)) (fun iv _=>l.length - (intOf iv).toNat)
 case atStart=>exact⟨0,Nat.zero_le _,rfl,HR,H.out⟩
 case round=>
  obtain⟨k,hkl,rfl,HC,hst⟩:=hrel;clear H HR;have H:=Lib.hid hst;clear hst
  by_cases hlt:k<l.length
  · obtain⟨bk,off,hqq⟩:=ptops_at HK.out H.out (by omega);obtain⟨x,hx⟩:∃x,l[k]=x:=⟨_,rfl⟩;have hmem:x∈l:=hx ▸ List.getElem_mem hlt;have hck:=HF.out x hmem;have HK':=HK.out;rw[hqq]at HK';obtain⟨c0,c1⟩:=ptops_cell HK' H.out k hlt x hx;have HXK0:=ptops_parts HK.out hmem;have hc:=HC.out;rw[List.drop_eq_getElem_cons hlt,hx,errPT_cons]at hc;have hkn:(k:Int)<(l.length:Int):=by omega
    obtain⟨nm,xl,xq,xcap⟩:=x;simp only at c0 c1 hc HXK0;have HXK:=Lib.hid HXK0;have HPF:=Lib.hid (show ∀y∈xl,CkP y from hck.parts);have hxl:xl.length≤4398046511104:=hck.len;have hxi:(xl.length:Int)≤4398046511104:=by omega
    have HIR:=Lib.hid (show(if errPs (!nl) v (xl.drop 0)≠0 then errPs (!nl) v (xl.drop 0)else errPT (!nl) v (l.drop (k+1)))=e by rw[List.drop_zero];exact hc);have HS:=Lib.hid (H.out.alloc (.cells #[.string (bb nm),.slice xq xl.length xcap] 178 (0,0)));subst hqq;clear hx hmem hck HK' HXK0 hc hxl;go_wp2_with fail;go_loopw [20] (fun jv wr=>∃(j:Nat),j≤xl.length∧jv=.int .i64 j∧Hid ((if errPs (!nl) v (xl.drop j)≠0 then errPs (!nl) v (xl.drop j)else errPT (!nl) v (l.drop (k+1)))=e)∧St W0 wr K (.raw rb #[.bool nl,.string (bb dd),.int .i64 ac,.int .i64 tm,.slice (some ⟨bk,off,none⟩) l.length cap] 36::L)) (fun jv _=>xl.length - (intOf jv).toNat)
    case atStart=>exact⟨0,Nat.zero_le _,rfl,HIR,HS.out⟩
    case round=>
     obtain⟨j,hjl,rfl,HIC,hst⟩:=hrel;clear H HIR HS c0 c1;have H:=Lib.hid hst;clear hst
     by_cases hjt:j<xl.length
     · obtain⟨pk,poff,hpq⟩:=pparts_at HXK.out H.out (by omega);subst hpq;obtain⟨y,hy⟩:∃y,xl[j]=y:=⟨_,rfl⟩;have hmem:y∈xl:=hy ▸ List.getElem_mem hjt;have hck:=HPF.out y hmem;obtain⟨d0,d1⟩:=pparts_cell HXK.out H.out j hjt y hy;have HYK0:=pparts_bats HXK.out hmem;have hc:=HIC.out;rw[List.drop_eq_getElem_cons hjt,hy]at hc;obtain⟨ep,hep⟩:∃ep,errPs (!nl) v (y::xl.drop (j+1))=ep:=⟨_,rfl⟩;rw[hep]at hc;rw[errPs_cons]at hep;have hjn:(j:Int)<(xl.length:Int):=by omega
       obtain⟨yi,yl,yq,ycap⟩:=y;simp only at d0 d1 hep HYK0;have HYK:=Lib.hid HYK0;have HCK:=Lib.hid (show ∀z∈yl,CkR z from hck.bats);have HYL:=Lib.hid (show yl.length≤4398046511104 from hck.len);have z0:=(H.out.alloc (.cells #[.int .i64 yi,.slice yq yl.length ycap] 181 (0,0))).rawCell 0;simp at z0;clear hy hmem hck HYK0
       by_cases n0:yl.length=0
       · rw[if_pos (Or.inl n0)]at hep;subst hep;rw[if_pos (by decide)]at hc;subst hc;rw[n0]at d1 z0;clear n0 HCK HYL HYK;go_wp2_with fail;go_ret;exact⟨rfl,by first|exact H.out.drop|exact(H.out.alloc _).drop⟩
       have n1:((yl.length:Int)==0)=false:=by rw[beq_eq_false_iff_ne];omega
       have n2:¬yl.length=0:=n0
       by_cases hv:v=3∧1<yl.length
       · rw[if_pos (Or.inr hv)]at hep;subst hep;rw[if_pos (by decide)]at hc;subst hc;have v4:(v==3)=true:=by rw[hv.1];rfl
         have g2:(1:Int)<(yl.length:Int):=by omega
         clear n0 hv;go_wp2_with fail;go_ret;exact⟨rfl,by first|exact H.out.drop|exact(H.out.alloc _).drop⟩
       rw[if_neg (by intro hh;rcases hh with hh|hh;exact n0 hh;exact hv hh)]at hep;obtain⟨e2,he2⟩:∃e2,errBs (!nl) yl=e2:=⟨_,rfl⟩;rw[he2]at hep;have HBE:=Lib.hid he2
       by_cases v3:v=3
       · have v4:(v==3)=true:=by rw[v3];rfl
         have g2:¬(1:Int)<(yl.length:Int):=by intro hh;exact hv ⟨v3,by omega⟩
         exact zq9
       · have v4:(v==3)=false:=by rw[beq_eq_false_iff_ne];exact v3
         exact zq9
     · obtain rfl:j=xl.length:=by omega
       have hc:=HIC.out;rw[List.drop_length]at hc;have hc:(if (0:Int)≠0 then 0 else errPT (!nl) v (l.drop (k+1)))=e:=hc;rw[if_neg (by simp)]at hc;have HC2:=Lib.hid hc;clear hc;go_wp2_with fail;go_roundw
       case rel=>
         refine⟨k+1,hlt,by go_num,HC2,?_⟩;exact H.out
       case measure=>first|(simp[intOf];done)|(simp[intOf];omega)
  · obtain rfl:k=l.length:=by omega
    have hc:=HC.out;rw[List.drop_length]at hc;have hc:0=e:=hc;subst hc;go_wp2_with fail;go_ret;exact⟨rfl,H.out.drop⟩
set_option maxHeartbeats 2000000 in
set_option maxRecDepth 100000 in
theorem rqc_r0 (nl:Bool) (dd:Bs) (ac tm v:Int) (l:List PTop) (q:Option Addr) (cap:Nat) (hdd:dd.length≤140737488355328) (hf:∀x∈l,CkT x) (hll:l.length≤4398046511104) (hr:(⟨nl,dd⟩:BlobS).right=false){W0 w:World}{K:Know}{L:List Res}(hk:K.has (Know.ptops (.slice q l.length cap) l)) (h:St W0 w K L):
  Calls Tryz.prog 152 #[.agg #[.bool nl,.string (bb dd),.int .i64 ac,.int .i64 tm,.slice q l.length cap],.int .i64 v] w fun en w'=>en=.returned (.int .i64 4)∧St W0 w' K L:=by
 obtain⟨rb,hrb⟩:∃b,w.heap.size=b:=⟨_,rfl⟩;have g1:=h.allocRaw #[.bool nl,.string (bb dd),.int .i64 ac,.int .i64 tm,.slice q l.length cap] 36;rw[hrb]at g1;have z0:=g1.rawCell 0;have z1:=g1.rawCell 1;have z2:=g1.rawCell 2;have z3:=g1.rawCell 3;have z4:=g1.rawCell 4;simp at z0 z1 z2 z3 z4;have H:=Lib.hid g1;have HK:=Lib.hid hk;have HF:=Lib.hid hf;have HTF:=Lib.hid (ckT_few hf);have HLL:=Lib.hid hll;have HDL:=Lib.hid hdd;have HBR:=Lib.hid hr;clear h g1 hk hf hll hdd hr;go_enter Tryz.func152,Tryz.ntmps152
 go_wp2_with (first
  |(go_at_call 149;clear z0 z1 z2 z3 z4;(with_reducible refine(pblob_rightQ nl dd false HBR.out H.out).mono ?_);rintro e_ wn ⟨rfl,h⟩;have z0:=h.rawCell 0;have z1:=h.rawCell 1;have z2:=h.rawCell 2;have z3:=h.rawCell 3;have z4:=h.rawCell 4;simp at z0 z1 z2 z3 z4;replace H:=Lib.hid h;clear h))
 go_ret;exact⟨rfl,H.out.drop⟩

set_option maxHeartbeats 2000000 in
set_option maxRecDepth 100000 in
theorem rqc_k0 (dd:Bs) (ac tm v:Int) (l:List PTop) (q:Option Addr) (cap:Nat) (hdd:dd.length≤140737488355328) (hf:∀x∈l,CkT x) (hll:l.length≤4398046511104) (hr:(⟨false,dd⟩:BlobS).right=true) (hkr:keyRight dd=false){W0 w:World}{K:Know}{L:List Res}(hk:K.has (Know.ptops (.slice q l.length cap) l)) (h:St W0 w K L):
  Calls Tryz.prog 152 #[.agg #[.bool false,.string (bb dd),.int .i64 ac,.int .i64 tm,.slice q l.length cap],.int .i64 v] w fun en w'=>en=.returned (.int .i64 4)∧St W0 w' K L:=by
 obtain⟨rb,hrb⟩:∃b,w.heap.size=b:=⟨_,rfl⟩;have g1:=h.allocRaw #[.bool false,.string (bb dd),.int .i64 ac,.int .i64 tm,.slice q l.length cap] 36;rw[hrb]at g1;have z0:=g1.rawCell 0;have z1:=g1.rawCell 1;have z2:=g1.rawCell 2;have z3:=g1.rawCell 3;have z4:=g1.rawCell 4;simp at z0 z1 z2 z3 z4;have H:=Lib.hid g1;have HK:=Lib.hid hk;have HF:=Lib.hid hf;have HTF:=Lib.hid (ckT_few hf);have HLL:=Lib.hid hll;have HDL:=Lib.hid hdd;have HBR:=Lib.hid hr;have HKR:=Lib.hid hkr;clear h g1 hk hf hll hdd hr hkr;go_enter Tryz.func152,Tryz.ntmps152
 go_wp2_with (first
  |(go_at_call 149;clear z0 z1 z2 z3 z4;(with_reducible refine(pblob_rightQ false dd true HBR.out H.out).mono ?_);rintro e_ wn ⟨rfl,h⟩;have z0:=h.rawCell 0;have z1:=h.rawCell 1;have z2:=h.rawCell 2;have z3:=h.rawCell 3;have z4:=h.rawCell 4;simp at z0 z1 z2 z3 z4;replace H:=Lib.hid h;clear h)
  |(go_at_call 88;clear z0 z1 z2 z3 z4;(with_reducible refine(key_rightQ dd false HKR.out HDL.out H.out).mono ?_);rintro e_ wn ⟨rfl,h⟩;have z0:=h.rawCell 0;have z1:=h.rawCell 1;have z2:=h.rawCell 2;have z3:=h.rawCell 3;have z4:=h.rawCell 4;simp at z0 z1 z2 z3 z4;replace H:=Lib.hid h;clear h))
 go_ret;exact⟨rfl,H.out.drop⟩

set_option maxHeartbeats 2000000 in
set_option maxRecDepth 100000 in
theorem rqc_a1_true (dd:Bs) (ac tm v:Int) (l:List PTop) (q:Option Addr) (cap:Nat) (hdd:dd.length≤140737488355328) (hf:∀x∈l,CkT x) (hll:l.length≤4398046511104) (hr:(⟨true,dd⟩:BlobS).right=true) (n1:ac< -1){W0 w:World}{K:Know}{L:List Res}(hk:K.has (Know.ptops (.slice q l.length cap) l)) (h:St W0 w K L):
  Calls Tryz.prog 152 #[.agg #[.bool true,.string (bb dd),.int .i64 ac,.int .i64 tm,.slice q l.length cap],.int .i64 v] w fun en w'=>en=.returned (.int .i64 11)∧St W0 w' K L:=by
 obtain⟨rb,hrb⟩:∃b,w.heap.size=b:=⟨_,rfl⟩;have g1:=h.allocRaw #[.bool true,.string (bb dd),.int .i64 ac,.int .i64 tm,.slice q l.length cap] 36;rw[hrb]at g1;have z0:=g1.rawCell 0;have z1:=g1.rawCell 1;have z2:=g1.rawCell 2;have z3:=g1.rawCell 3;have z4:=g1.rawCell 4;simp at z0 z1 z2 z3 z4;have H:=Lib.hid g1;have HK:=Lib.hid hk;have HF:=Lib.hid hf;have HTF:=Lib.hid (ckT_few hf);have HLL:=Lib.hid hll;have HDL:=Lib.hid hdd;have HBR:=Lib.hid hr;have d1:decide (ac< -1)=true:=decide_eq_true n1;clear h g1 hk hf hll hdd hr n1;go_enter Tryz.func152,Tryz.ntmps152
 go_wp2_with (first
  |(go_at_call 149;clear z0 z1 z2 z3 z4;(with_reducible refine(pblob_rightQ true dd true HBR.out H.out).mono ?_);rintro e_ wn ⟨rfl,h⟩;have z0:=h.rawCell 0;have z1:=h.rawCell 1;have z2:=h.rawCell 2;have z3:=h.rawCell 3;have z4:=h.rawCell 4;simp at z0 z1 z2 z3 z4;replace H:=Lib.hid h;clear h))
 go_ret;exact⟨rfl,H.out.drop⟩

set_option maxHeartbeats 2000000 in
set_option maxRecDepth 100000 in
theorem rqc_a2_true (dd:Bs) (ac tm v:Int) (l:List PTop) (q:Option Addr) (cap:Nat) (hdd:dd.length≤140737488355328) (hf:∀x∈l,CkT x) (hll:l.length≤4398046511104) (hr:(⟨true,dd⟩:BlobS).right=true) (n1:¬ac< -1) (n2:1<ac){W0 w:World}{K:Know}{L:List Res}(hk:K.has (Know.ptops (.slice q l.length cap) l)) (h:St W0 w K L):
  Calls Tryz.prog 152 #[.agg #[.bool true,.string (bb dd),.int .i64 ac,.int .i64 tm,.slice q l.length cap],.int .i64 v] w fun en w'=>en=.returned (.int .i64 11)∧St W0 w' K L:=by
 obtain⟨rb,hrb⟩:∃b,w.heap.size=b:=⟨_,rfl⟩;have g1:=h.allocRaw #[.bool true,.string (bb dd),.int .i64 ac,.int .i64 tm,.slice q l.length cap] 36;rw[hrb]at g1;have z0:=g1.rawCell 0;have z1:=g1.rawCell 1;have z2:=g1.rawCell 2;have z3:=g1.rawCell 3;have z4:=g1.rawCell 4;simp at z0 z1 z2 z3 z4;have H:=Lib.hid g1;have HK:=Lib.hid hk;have HF:=Lib.hid hf;have HTF:=Lib.hid (ckT_few hf);have HLL:=Lib.hid hll;have HDL:=Lib.hid hdd;have HBR:=Lib.hid hr;have d1:decide (ac< -1)=false:=decide_eq_false n1;have d2:decide (1<ac)=true:=decide_eq_true n2;clear h g1 hk hf hll hdd hr n1 n2;go_enter Tryz.func152,Tryz.ntmps152
 go_wp2_with (first
  |(go_at_call 149;clear z0 z1 z2 z3 z4;(with_reducible refine(pblob_rightQ true dd true HBR.out H.out).mono ?_);rintro e_ wn ⟨rfl,h⟩;have z0:=h.rawCell 0;have z1:=h.rawCell 1;have z2:=h.rawCell 2;have z3:=h.rawCell 3;have z4:=h.rawCell 4;simp at z0 z1 z2 z3 z4;replace H:=Lib.hid h;clear h))
 go_ret;exact⟨rfl,H.out.drop⟩

set_option maxHeartbeats 2000000 in
set_option maxRecDepth 100000 in
theorem rqc_a3_true (dd:Bs) (ac tm v:Int) (l:List PTop) (q:Option Addr) (cap:Nat) (hdd:dd.length≤140737488355328) (hf:∀x∈l,CkT x) (hll:l.length≤4398046511104) (hr:(⟨true,dd⟩:BlobS).right=true) (n1:¬ac< -1) (n2:¬1<ac) (n3:tm<0){W0 w:World}{K:Know}{L:List Res}(hk:K.has (Know.ptops (.slice q l.length cap) l)) (h:St W0 w K L):
  Calls Tryz.prog 152 #[.agg #[.bool true,.string (bb dd),.int .i64 ac,.int .i64 tm,.slice q l.length cap],.int .i64 v] w fun en w'=>en=.returned (.int .i64 11)∧St W0 w' K L:=by
 obtain⟨rb,hrb⟩:∃b,w.heap.size=b:=⟨_,rfl⟩;have g1:=h.allocRaw #[.bool true,.string (bb dd),.int .i64 ac,.int .i64 tm,.slice q l.length cap] 36;rw[hrb]at g1;have z0:=g1.rawCell 0;have z1:=g1.rawCell 1;have z2:=g1.rawCell 2;have z3:=g1.rawCell 3;have z4:=g1.rawCell 4;simp at z0 z1 z2 z3 z4;have H:=Lib.hid g1;have HK:=Lib.hid hk;have HF:=Lib.hid hf;have HTF:=Lib.hid (ckT_few hf);have HLL:=Lib.hid hll;have HDL:=Lib.hid hdd;have HBR:=Lib.hid hr;have d1:decide (ac< -1)=false:=decide_eq_false n1;have d2:decide (1<ac)=false:=decide_eq_false n2;have d3:decide (tm<0)=true:=decide_eq_true n3;clear h g1 hk hf hll hdd hr n1 n2 n3;go_enter Tryz.func152,Tryz.ntmps152
 go_wp2_with (first
  |(go_at_call 149;clear z0 z1 z2 z3 z4;(with_reducible refine(pblob_rightQ true dd true HBR.out H.out).mono ?_);rintro e_ wn ⟨rfl,h⟩;have z0:=h.rawCell 0;have z1:=h.rawCell 1;have z2:=h.rawCell 2;have z3:=h.rawCell 3;have z4:=h.rawCell 4;simp at z0 z1 z2 z3 z4;replace H:=Lib.hid h;clear h))
 go_ret;exact⟨rfl,H.out.drop⟩

set_option maxHeartbeats 2000000 in
set_option maxRecDepth 100000 in
theorem rqc_a4_true (dd:Bs) (ac tm v:Int) (l:List PTop) (q:Option Addr) (cap:Nat) (hdd:dd.length≤140737488355328) (hf:∀x∈l,CkT x) (hll:l.length≤4398046511104) (hr:(⟨true,dd⟩:BlobS).right=true) (n1:¬ac< -1) (n2:¬1<ac) (n3:¬tm<0) (n4:2147483647<tm){W0 w:World}{K:Know}{L:List Res}(hk:K.has (Know.ptops (.slice q l.length cap) l)) (h:St W0 w K L):
  Calls Tryz.prog 152 #[.agg #[.bool true,.string (bb dd),.int .i64 ac,.int .i64 tm,.slice q l.length cap],.int .i64 v] w fun en w'=>en=.returned (.int .i64 11)∧St W0 w' K L:=by
 obtain⟨rb,hrb⟩:∃b,w.heap.size=b:=⟨_,rfl⟩;have g1:=h.allocRaw #[.bool true,.string (bb dd),.int .i64 ac,.int .i64 tm,.slice q l.length cap] 36;rw[hrb]at g1;have z0:=g1.rawCell 0;have z1:=g1.rawCell 1;have z2:=g1.rawCell 2;have z3:=g1.rawCell 3;have z4:=g1.rawCell 4;simp at z0 z1 z2 z3 z4;have H:=Lib.hid g1;have HK:=Lib.hid hk;have HF:=Lib.hid hf;have HTF:=Lib.hid (ckT_few hf);have HLL:=Lib.hid hll;have HDL:=Lib.hid hdd;have HBR:=Lib.hid hr;have d1:decide (ac< -1)=false:=decide_eq_false n1;have d2:decide (1<ac)=false:=decide_eq_false n2;have d3:decide (tm<0)=false:=decide_eq_false n3;have d4:decide (2147483647<tm)=true:=decide_eq_true n4;clear h g1 hk hf hll hdd hr n1 n2 n3 n4;go_enter Tryz.func152,Tryz.ntmps152
 go_wp2_with (first
  |(go_at_call 149;clear z0 z1 z2 z3 z4;(with_reducible refine(pblob_rightQ true dd true HBR.out H.out).mono ?_);rintro e_ wn ⟨rfl,h⟩;have z0:=h.rawCell 0;have z1:=h.rawCell 1;have z2:=h.rawCell 2;have z3:=h.rawCell 3;have z4:=h.rawCell 4;simp at z0 z1 z2 z3 z4;replace H:=Lib.hid h;clear h))
 go_ret;exact⟨rfl,H.out.drop⟩

set_option maxHeartbeats 2000000 in
set_option maxRecDepth 100000 in
theorem rqc_t_true (dd:Bs) (ac tm v:Int) (l:List PTop) (q:Option Addr) (cap:Nat) (hdd:dd.length≤140737488355328) (hf:∀x∈l,CkT x) (hll:l.length≤4398046511104) (hr:(⟨true,dd⟩:BlobS).right=true) (n1:¬ac< -1) (n2:¬1<ac) (n3:¬tm<0) (n4:¬2147483647<tm) (e:Int) (het:errTops l=e) (h0:e≠0){W0 w:World}{K:Know}{L:List Res}(hk:K.has (Know.ptops (.slice q l.length cap) l)) (h:St W0 w K L):
  Calls Tryz.prog 152 #[.agg #[.bool true,.string (bb dd),.int .i64 ac,.int .i64 tm,.slice q l.length cap],.int .i64 v] w fun en w'=>en=.returned (.int .i64 e)∧St W0 w' K L:=by
 obtain⟨rb,hrb⟩:∃b,w.heap.size=b:=⟨_,rfl⟩;have g1:=h.allocRaw #[.bool true,.string (bb dd),.int .i64 ac,.int .i64 tm,.slice q l.length cap] 36;rw[hrb]at g1;have z0:=g1.rawCell 0;have z1:=g1.rawCell 1;have z2:=g1.rawCell 2;have z3:=g1.rawCell 3;have z4:=g1.rawCell 4;simp at z0 z1 z2 z3 z4;have H:=Lib.hid g1;have HK:=Lib.hid hk;have HF:=Lib.hid hf;have HTF:=Lib.hid (ckT_few hf);have HLL:=Lib.hid hll;have HDL:=Lib.hid hdd;have HBR:=Lib.hid hr;have d1:decide (ac< -1)=false:=decide_eq_false n1;have d2:decide (1<ac)=false:=decide_eq_false n2;have d3:decide (tm<0)=false:=decide_eq_false n3;have d4:decide (2147483647<tm)=false:=decide_eq_false n4;have HET:=Lib.hid het;have e1:(e==0)=false:=by rw[beq_eq_false_iff_ne];exact h0
 have e3:(e !=0)=true:=by simp[bne,e1]
 clear h g1 hk hf hll hdd hr n1 n2 n3 n4 het h0;go_enter Tryz.func152,Tryz.ntmps152
 go_wp2_with (first
  |(go_at_call 149;clear z0 z1 z2 z3 z4;(with_reducible refine(pblob_rightQ true dd true HBR.out H.out).mono ?_);rintro e_ wn ⟨rfl,h⟩;have z0:=h.rawCell 0;have z1:=h.rawCell 1;have z2:=h.rawCell 2;have z3:=h.rawCell 3;have z4:=h.rawCell 4;simp at z0 z1 z2 z3 z4;replace H:=Lib.hid h;clear h)
  |(go_at_call 206;clear z0 z1 z2 z3 z4;(with_reducible refine(check_topics l q cap e HET.out HTF.out HLL.out HK.out H.out).mono ?_);rintro e_ wn ⟨rfl,h⟩;have z0:=h.rawCell 0;have z1:=h.rawCell 1;have z2:=h.rawCell 2;have z3:=h.rawCell 3;have z4:=h.rawCell 4;simp at z0 z1 z2 z3 z4;replace H:=Lib.hid h;clear h))
 go_ret;exact⟨rfl,H.out.drop⟩

set_option maxHeartbeats 2000000 in
set_option maxRecDepth 100000 in
theorem rqc_p_true (dd:Bs) (ac tm v:Int) (l:List PTop) (q:Option Addr) (cap:Nat) (hdd:dd.length≤140737488355328) (hf:∀x∈l,CkT x) (hll:l.length≤4398046511104) (hr:(⟨true,dd⟩:BlobS).right=true) (n1:¬ac< -1) (n2:¬1<ac) (n3:¬tm<0) (n4:¬2147483647<tm) (het:errTops l=0) (e:Int) (hep:errPT (!true) v l=e){W0 w:World}{K:Know}{L:List Res}(hk:K.has (Know.ptops (.slice q l.length cap) l)) (h:St W0 w K L):
  Calls Tryz.prog 152 #[.agg #[.bool true,.string (bb dd),.int .i64 ac,.int .i64 tm,.slice q l.length cap],.int .i64 v] w fun en w'=>en=.returned (.int .i64 e)∧St W0 w' K L:=by
 obtain⟨rb,hrb⟩:∃b,w.heap.size=b:=⟨_,rfl⟩;have g1:=h.allocRaw #[.bool true,.string (bb dd),.int .i64 ac,.int .i64 tm,.slice q l.length cap] 36;rw[hrb]at g1;have z0:=g1.rawCell 0;have z1:=g1.rawCell 1;have z2:=g1.rawCell 2;have z3:=g1.rawCell 3;have z4:=g1.rawCell 4;simp at z0 z1 z2 z3 z4;have H:=Lib.hid g1;have HK:=Lib.hid hk;have HF:=Lib.hid hf;have HTF:=Lib.hid (ckT_few hf);have HLL:=Lib.hid hll;have HDL:=Lib.hid hdd;have HBR:=Lib.hid hr;have d1:decide (ac< -1)=false:=decide_eq_false n1;have d2:decide (1<ac)=false:=decide_eq_false n2;have d3:decide (tm<0)=false:=decide_eq_false n3;have d4:decide (2147483647<tm)=false:=decide_eq_false n4;have HET:=Lib.hid het;have HEP:=Lib.hid hep;clear h g1 hk hf hll hdd hr n1 n2 n3 n4 het hep;go_enter Tryz.func152,Tryz.ntmps152
 go_wp2_with (first
  |(go_at_call 149;clear z0 z1 z2 z3 z4;(with_reducible refine(pblob_rightQ true dd true HBR.out H.out).mono ?_);rintro e_ wn ⟨rfl,h⟩;have z0:=h.rawCell 0;have z1:=h.rawCell 1;have z2:=h.rawCell 2;have z3:=h.rawCell 3;have z4:=h.rawCell 4;simp at z0 z1 z2 z3 z4;replace H:=Lib.hid h;clear h)
  |(go_at_call 206;clear z0 z1 z2 z3 z4;(with_reducible refine(check_topics l q cap 0 HET.out HTF.out HLL.out HK.out H.out).mono ?_);rintro e_ wn ⟨rfl,h⟩;have z0:=h.rawCell 0;have z1:=h.rawCell 1;have z2:=h.rawCell 2;have z3:=h.rawCell 3;have z4:=h.rawCell 4;simp at z0 z1 z2 z3 z4;replace H:=Lib.hid h;clear h)
  |(go_at_call 207;clear z0 z1 z2 z3 z4;(with_reducible refine(check_parts true dd ac tm v l q cap e HEP.out HF.out HLL.out HK.out H.out).mono ?_);rintro e_ wn ⟨rfl,h⟩;have z0:=h.rawCell 0;have z1:=h.rawCell 1;have z2:=h.rawCell 2;have z3:=h.rawCell 3;have z4:=h.rawCell 4;simp at z0 z1 z2 z3 z4;replace H:=Lib.hid h;clear h))
 go_ret;exact⟨rfl,H.out.drop⟩

set_option maxHeartbeats 2000000 in
set_option maxRecDepth 100000 in
theorem rqc_a1_false (dd:Bs) (ac tm v:Int) (l:List PTop) (q:Option Addr) (cap:Nat) (hdd:dd.length≤140737488355328) (hf:∀x∈l,CkT x) (hll:l.length≤4398046511104) (hr:(⟨false,dd⟩:BlobS).right=true) (hkr:keyRight dd=true) (n1:ac< -1){W0 w:World}{K:Know}{L:List Res}(hk:K.has (Know.ptops (.slice q l.length cap) l)) (h:St W0 w K L):
  Calls Tryz.prog 152 #[.agg #[.bool false,.string (bb dd),.int .i64 ac,.int .i64 tm,.slice q l.length cap],.int .i64 v] w fun en w'=>en=.returned (.int .i64 11)∧St W0 w' K L:=by
 obtain⟨rb,hrb⟩:∃b,w.heap.size=b:=⟨_,rfl⟩;have g1:=h.allocRaw #[.bool false,.string (bb dd),.int .i64 ac,.int .i64 tm,.slice q l.length cap] 36;rw[hrb]at g1;have z0:=g1.rawCell 0;have z1:=g1.rawCell 1;have z2:=g1.rawCell 2;have z3:=g1.rawCell 3;have z4:=g1.rawCell 4;simp at z0 z1 z2 z3 z4;have H:=Lib.hid g1;have HK:=Lib.hid hk;have HF:=Lib.hid hf;have HTF:=Lib.hid (ckT_few hf);have HLL:=Lib.hid hll;have HDL:=Lib.hid hdd;have HBR:=Lib.hid hr;have HKR:=Lib.hid hkr;have d1:decide (ac< -1)=true:=decide_eq_true n1;clear h g1 hk hf hll hdd hr hkr n1;go_enter Tryz.func152,Tryz.ntmps152
 go_wp2_with (first
  |(go_at_call 149;clear z0 z1 z2 z3 z4;(with_reducible refine(pblob_rightQ false dd true HBR.out H.out).mono ?_);rintro e_ wn ⟨rfl,h⟩;have z0:=h.rawCell 0;have z1:=h.rawCell 1;have z2:=h.rawCell 2;have z3:=h.rawCell 3;have z4:=h.rawCell 4;simp at z0 z1 z2 z3 z4;replace H:=Lib.hid h;clear h)
  |(go_at_call 88;clear z0 z1 z2 z3 z4;(with_reducible refine(key_rightQ dd true HKR.out HDL.out H.out).mono ?_);rintro e_ wn ⟨rfl,h⟩;have z0:=h.rawCell 0;have z1:=h.rawCell 1;have z2:=h.rawCell 2;have z3:=h.rawCell 3;have z4:=h.rawCell 4;simp at z0 z1 z2 z3 z4;replace H:=Lib.hid h;clear h))
 go_ret;exact⟨rfl,H.out.drop⟩

set_option maxHeartbeats 2000000 in
set_option maxRecDepth 100000 in
theorem rqc_a2_false (dd:Bs) (ac tm v:Int) (l:List PTop) (q:Option Addr) (cap:Nat) (hdd:dd.length≤140737488355328) (hf:∀x∈l,CkT x) (hll:l.length≤4398046511104) (hr:(⟨false,dd⟩:BlobS).right=true) (hkr:keyRight dd=true) (n1:¬ac< -1) (n2:1<ac){W0 w:World}{K:Know}{L:List Res}(hk:K.has (Know.ptops (.slice q l.length cap) l)) (h:St W0 w K L):
  Calls Tryz.prog 152 #[.agg #[.bool false,.string (bb dd),.int .i64 ac,.int .i64 tm,.slice q l.length cap],.int .i64 v] w fun en w'=>en=.returned (.int .i64 11)∧St W0 w' K L:=by
 obtain⟨rb,hrb⟩:∃b,w.heap.size=b:=⟨_,rfl⟩;have g1:=h.allocRaw #[.bool false,.string (bb dd),.int .i64 ac,.int .i64 tm,.slice q l.length cap] 36;rw[hrb]at g1;have z0:=g1.rawCell 0;have z1:=g1.rawCell 1;have z2:=g1.rawCell 2;have z3:=g1.rawCell 3;have z4:=g1.rawCell 4;simp at z0 z1 z2 z3 z4;have H:=Lib.hid g1;have HK:=Lib.hid hk;have HF:=Lib.hid hf;have HTF:=Lib.hid (ckT_few hf);have HLL:=Lib.hid hll;have HDL:=Lib.hid hdd;have HBR:=Lib.hid hr;have HKR:=Lib.hid hkr;have d1:decide (ac< -1)=false:=decide_eq_false n1;have d2:decide (1<ac)=true:=decide_eq_true n2;clear h g1 hk hf hll hdd hr hkr n1 n2;go_enter Tryz.func152,Tryz.ntmps152
 go_wp2_with (first
  |(go_at_call 149;clear z0 z1 z2 z3 z4;(with_reducible refine(pblob_rightQ false dd true HBR.out H.out).mono ?_);rintro e_ wn ⟨rfl,h⟩;have z0:=h.rawCell 0;have z1:=h.rawCell 1;have z2:=h.rawCell 2;have z3:=h.rawCell 3;have z4:=h.rawCell 4;simp at z0 z1 z2 z3 z4;replace H:=Lib.hid h;clear h)
  |(go_at_call 88;clear z0 z1 z2 z3 z4;(with_reducible refine(key_rightQ dd true HKR.out HDL.out H.out).mono ?_);rintro e_ wn ⟨rfl,h⟩;have z0:=h.rawCell 0;have z1:=h.rawCell 1;have z2:=h.rawCell 2;have z3:=h.rawCell 3;have z4:=h.rawCell 4;simp at z0 z1 z2 z3 z4;replace H:=Lib.hid h;clear h))
 go_ret;exact⟨rfl,H.out.drop⟩

set_option maxHeartbeats 2000000 in
set_option maxRecDepth 100000 in
theorem rqc_a3_false (dd:Bs) (ac tm v:Int) (l:List PTop) (q:Option Addr) (cap:Nat) (hdd:dd.length≤140737488355328) (hf:∀x∈l,CkT x) (hll:l.length≤4398046511104) (hr:(⟨false,dd⟩:BlobS).right=true) (hkr:keyRight dd=true) (n1:¬ac< -1) (n2:¬1<ac) (n3:tm<0){W0 w:World}{K:Know}{L:List Res}(hk:K.has (Know.ptops (.slice q l.length cap) l)) (h:St W0 w K L):
  Calls Tryz.prog 152 #[.agg #[.bool false,.string (bb dd),.int .i64 ac,.int .i64 tm,.slice q l.length cap],.int .i64 v] w fun en w'=>en=.returned (.int .i64 11)∧St W0 w' K L:=by
 obtain⟨rb,hrb⟩:∃b,w.heap.size=b:=⟨_,rfl⟩;have g1:=h.allocRaw #[.bool false,.string (bb dd),.int .i64 ac,.int .i64 tm,.slice q l.length cap] 36;rw[hrb]at g1;have z0:=g1.rawCell 0;have z1:=g1.rawCell 1;have z2:=g1.rawCell 2;have z3:=g1.rawCell 3;have z4:=g1.rawCell 4;simp at z0 z1 z2 z3 z4;have H:=Lib.hid g1;have HK:=Lib.hid hk;have HF:=Lib.hid hf;have HTF:=Lib.hid (ckT_few hf);have HLL:=Lib.hid hll;have HDL:=Lib.hid hdd;have HBR:=Lib.hid hr;have HKR:=Lib.hid hkr;have d1:decide (ac< -1)=false:=decide_eq_false n1;have d2:decide (1<ac)=false:=decide_eq_false n2;have d3:decide (tm<0)=true:=decide_eq_true n3;clear h g1 hk hf hll hdd hr hkr n1 n2 n3;go_enter Tryz.func152,Tryz.ntmps152
 go_wp2_with (first
  |(go_at_call 149;clear z0 z1 z2 z3 z4;(with_reducible refine(pblob_rightQ false dd true HBR.out H.out).mono ?_);rintro e_ wn ⟨rfl,h⟩;have z0:=h.rawCell 0;have z1:=h.rawCell 1;have z2:=h.rawCell 2;have z3:=h.rawCell 3;have z4:=h.rawCell 4;simp at z0 z1 z2 z3 z4;replace H:=Lib.hid h;clear h)
  |(go_at_call 88;clear z0 z1 z2 z3 z4;(with_reducible refine(key_rightQ dd true HKR.out HDL.out H.out).mono ?_);rintro e_ wn ⟨rfl,h⟩;have z0:=h.rawCell 0;have z1:=h.rawCell 1;have z2:=h.rawCell 2;have z3:=h.rawCell 3;have z4:=h.rawCell 4;simp at z0 z1 z2 z3 z4;replace H:=Lib.hid h;clear h))
 go_ret;exact⟨rfl,H.out.drop⟩

set_option maxHeartbeats 2000000 in
set_option maxRecDepth 100000 in
theorem rqc_a4_false (dd:Bs) (ac tm v:Int) (l:List PTop) (q:Option Addr) (cap:Nat) (hdd:dd.length≤140737488355328) (hf:∀x∈l,CkT x) (hll:l.length≤4398046511104) (hr:(⟨false,dd⟩:BlobS).right=true) (hkr:keyRight dd=true) (n1:¬ac< -1) (n2:¬1<ac) (n3:¬tm<0) (n4:2147483647<tm){W0 w:World}{K:Know}{L:List Res}(hk:K.has (Know.ptops (.slice q l.length cap) l)) (h:St W0 w K L):
  Calls Tryz.prog 152 #[.agg #[.bool false,.string (bb dd),.int .i64 ac,.int .i64 tm,.slice q l.length cap],.int .i64 v] w fun en w'=>en=.returned (.int .i64 11)∧St W0 w' K L:=by
 obtain⟨rb,hrb⟩:∃b,w.heap.size=b:=⟨_,rfl⟩;have g1:=h.allocRaw #[.bool false,.string (bb dd),.int .i64 ac,.int .i64 tm,.slice q l.length cap] 36;rw[hrb]at g1;have z0:=g1.rawCell 0;have z1:=g1.rawCell 1;have z2:=g1.rawCell 2;have z3:=g1.rawCell 3;have z4:=g1.rawCell 4;simp at z0 z1 z2 z3 z4;have H:=Lib.hid g1;have HK:=Lib.hid hk;have HF:=Lib.hid hf;have HTF:=Lib.hid (ckT_few hf);have HLL:=Lib.hid hll;have HDL:=Lib.hid hdd;have HBR:=Lib.hid hr;have HKR:=Lib.hid hkr;have d1:decide (ac< -1)=false:=decide_eq_false n1;have d2:decide (1<ac)=false:=decide_eq_false n2;have d3:decide (tm<0)=false:=decide_eq_false n3;have d4:decide (2147483647<tm)=true:=decide_eq_true n4;clear h g1 hk hf hll hdd hr hkr n1 n2 n3 n4;go_enter Tryz.func152,Tryz.ntmps152
 go_wp2_with (first
  |(go_at_call 149;clear z0 z1 z2 z3 z4;(with_reducible refine(pblob_rightQ false dd true HBR.out H.out).mono ?_);rintro e_ wn ⟨rfl,h⟩;have z0:=h.rawCell 0;have z1:=h.rawCell 1;have z2:=h.rawCell 2;have z3:=h.rawCell 3;have z4:=h.rawCell 4;simp at z0 z1 z2 z3 z4;replace H:=Lib.hid h;clear h)
  |(go_at_call 88;clear z0 z1 z2 z3 z4;(with_reducible refine(key_rightQ dd true HKR.out HDL.out H.out).mono ?_);rintro e_ wn ⟨rfl,h⟩;have z0:=h.rawCell 0;have z1:=h.rawCell 1;have z2:=h.rawCell 2;have z3:=h.rawCell 3;have z4:=h.rawCell 4;simp at z0 z1 z2 z3 z4;replace H:=Lib.hid h;clear h))
 go_ret;exact⟨rfl,H.out.drop⟩

set_option maxHeartbeats 2000000 in
set_option maxRecDepth 100000 in
theorem rqc_t_false (dd:Bs) (ac tm v:Int) (l:List PTop) (q:Option Addr) (cap:Nat) (hdd:dd.length≤140737488355328) (hf:∀x∈l,CkT x) (hll:l.length≤4398046511104) (hr:(⟨false,dd⟩:BlobS).right=true) (hkr:keyRight dd=true) (n1:¬ac< -1) (n2:¬1<ac) (n3:¬tm<0) (n4:¬2147483647<tm) (e:Int) (het:errTops l=e) (h0:e≠0){W0 w:World}{K:Know}{L:List Res}(hk:K.has (Know.ptops (.slice q l.length cap) l)) (h:St W0 w K L):
  Calls Tryz.prog 152 #[.agg #[.bool false,.string (bb dd),.int .i64 ac,.int .i64 tm,.slice q l.length cap],.int .i64 v] w fun en w'=>en=.returned (.int .i64 e)∧St W0 w' K L:=by
 obtain⟨rb,hrb⟩:∃b,w.heap.size=b:=⟨_,rfl⟩;have g1:=h.allocRaw #[.bool false,.string (bb dd),.int .i64 ac,.int .i64 tm,.slice q l.length cap] 36;rw[hrb]at g1;have z0:=g1.rawCell 0;have z1:=g1.rawCell 1;have z2:=g1.rawCell 2;have z3:=g1.rawCell 3;have z4:=g1.rawCell 4;simp at z0 z1 z2 z3 z4;have H:=Lib.hid g1;have HK:=Lib.hid hk;have HF:=Lib.hid hf;have HTF:=Lib.hid (ckT_few hf);have HLL:=Lib.hid hll;have HDL:=Lib.hid hdd;have HBR:=Lib.hid hr;have HKR:=Lib.hid hkr;have d1:decide (ac< -1)=false:=decide_eq_false n1;have d2:decide (1<ac)=false:=decide_eq_false n2;have d3:decide (tm<0)=false:=decide_eq_false n3;have d4:decide (2147483647<tm)=false:=decide_eq_false n4;have HET:=Lib.hid het;have e1:(e==0)=false:=by rw[beq_eq_false_iff_ne];exact h0
 have e3:(e !=0)=true:=by simp[bne,e1]
 clear h g1 hk hf hll hdd hr hkr n1 n2 n3 n4 het h0;go_enter Tryz.func152,Tryz.ntmps152
 go_wp2_with (first
  |(go_at_call 149;clear z0 z1 z2 z3 z4;(with_reducible refine(pblob_rightQ false dd true HBR.out H.out).mono ?_);rintro e_ wn ⟨rfl,h⟩;have z0:=h.rawCell 0;have z1:=h.rawCell 1;have z2:=h.rawCell 2;have z3:=h.rawCell 3;have z4:=h.rawCell 4;simp at z0 z1 z2 z3 z4;replace H:=Lib.hid h;clear h)
  |(go_at_call 88;clear z0 z1 z2 z3 z4;(with_reducible refine(key_rightQ dd true HKR.out HDL.out H.out).mono ?_);rintro e_ wn ⟨rfl,h⟩;have z0:=h.rawCell 0;have z1:=h.rawCell 1;have z2:=h.rawCell 2;have z3:=h.rawCell 3;have z4:=h.rawCell 4;simp at z0 z1 z2 z3 z4;replace H:=Lib.hid h;clear h)
  |(go_at_call 206;clear z0 z1 z2 z3 z4;(with_reducible refine(check_topics l q cap e HET.out HTF.out HLL.out HK.out H.out).mono ?_);rintro e_ wn ⟨rfl,h⟩;have z0:=h.rawCell 0;have z1:=h.rawCell 1;have z2:=h.rawCell 2;have z3:=h.rawCell 3;have z4:=h.rawCell 4;simp at z0 z1 z2 z3 z4;replace H:=Lib.hid h;clear h))
 go_ret;exact⟨rfl,H.out.drop⟩

set_option maxHeartbeats 2000000 in
set_option maxRecDepth 100000 in
theorem rqc_p_false (dd:Bs) (ac tm v:Int) (l:List PTop) (q:Option Addr) (cap:Nat) (hdd:dd.length≤140737488355328) (hf:∀x∈l,CkT x) (hll:l.length≤4398046511104) (hr:(⟨false,dd⟩:BlobS).right=true) (hkr:keyRight dd=true) (n1:¬ac< -1) (n2:¬1<ac) (n3:¬tm<0) (n4:¬2147483647<tm) (het:errTops l=0) (e:Int) (hep:errPT (!false) v l=e){W0 w:World}{K:Know}{L:List Res}(hk:K.has (Know.ptops (.slice q l.length cap) l)) (h:St W0 w K L):
  Calls Tryz.prog 152 #[.agg #[.bool false,.string (bb dd),.int .i64 ac,.int .i64 tm,.slice q l.length cap],.int .i64 v] w fun en w'=>en=.returned (.int .i64 e)∧St W0 w' K L:=by
 obtain⟨rb,hrb⟩:∃b,w.heap.size=b:=⟨_,rfl⟩;have g1:=h.allocRaw #[.bool false,.string (bb dd),.int .i64 ac,.int .i64 tm,.slice q l.length cap] 36;rw[hrb]at g1;have z0:=g1.rawCell 0;have z1:=g1.rawCell 1;have z2:=g1.rawCell 2;have z3:=g1.rawCell 3;have z4:=g1.rawCell 4;simp at z0 z1 z2 z3 z4;have H:=Lib.hid g1;have HK:=Lib.hid hk;have HF:=Lib.hid hf;have HTF:=Lib.hid (ckT_few hf);have HLL:=Lib.hid hll;have HDL:=Lib.hid hdd;have HBR:=Lib.hid hr;have HKR:=Lib.hid hkr;have d1:decide (ac< -1)=false:=decide_eq_false n1;have d2:decide (1<ac)=false:=decide_eq_false n2;have d3:decide (tm<0)=false:=decide_eq_false n3;have d4:decide (2147483647<tm)=false:=decide_eq_false n4;have HET:=Lib.hid het;have HEP:=Lib.hid hep;clear h g1 hk hf hll hdd hr hkr n1 n2 n3 n4 het hep;go_enter Tryz.func152,Tryz.ntmps152
 go_wp2_with (first
  |(go_at_call 149;clear z0 z1 z2 z3 z4;(with_reducible refine(pblob_rightQ false dd true HBR.out H.out).mono ?_);rintro e_ wn ⟨rfl,h⟩;have z0:=h.rawCell 0;have z1:=h.rawCell 1;have z2:=h.rawCell 2;have z3:=h.rawCell 3;have z4:=h.rawCell 4;simp at z0 z1 z2 z3 z4;replace H:=Lib.hid h;clear h)
  |(go_at_call 88;clear z0 z1 z2 z3 z4;(with_reducible refine(key_rightQ dd true HKR.out HDL.out H.out).mono ?_);rintro e_ wn ⟨rfl,h⟩;have z0:=h.rawCell 0;have z1:=h.rawCell 1;have z2:=h.rawCell 2;have z3:=h.rawCell 3;have z4:=h.rawCell 4;simp at z0 z1 z2 z3 z4;replace H:=Lib.hid h;clear h)
  |(go_at_call 206;clear z0 z1 z2 z3 z4;(with_reducible refine(check_topics l q cap 0 HET.out HTF.out HLL.out HK.out H.out).mono ?_);rintro e_ wn ⟨rfl,h⟩;have z0:=h.rawCell 0;have z1:=h.rawCell 1;have z2:=h.rawCell 2;have z3:=h.rawCell 3;have z4:=h.rawCell 4;simp at z0 z1 z2 z3 z4;replace H:=Lib.hid h;clear h)
  |(go_at_call 207;clear z0 z1 z2 z3 z4;(with_reducible refine(check_parts false dd ac tm v l q cap e HEP.out HF.out HLL.out HK.out H.out).mono ?_);rintro e_ wn ⟨rfl,h⟩;have z0:=h.rawCell 0;have z1:=h.rawCell 1;have z2:=h.rawCell 2;have z3:=h.rawCell 3;have z4:=h.rawCell 4;simp at z0 z1 z2 z3 z4;replace H:=Lib.hid h;clear h))
 go_ret;exact⟨rfl,H.out.drop⟩
theorem preq_check (nl:Bool) (dd:Bs) (ac tm v:Int) (l:List PTop) (q:Option Addr) (cap:Nat) (hdd:dd.length≤140737488355328) (hf:∀x∈l,CkT x) (hll:l.length≤4398046511104) (e:Int) (he:errReq ⟨nl,dd⟩ ac tm v l=e){W0 w:World}{K:Know}{L:List Res}(hk:K.has (Know.ptops (.slice q l.length cap) l)) (h:St W0 w K L):
  Calls Tryz.prog 152 #[.agg #[.bool nl,.string (bb dd),.int .i64 ac,.int .i64 tm,.slice q l.length cap],.int .i64 v] w fun en w'=>en=.returned (.int .i64 e)∧St W0 w' K L:=by
 unfold errReq at he
 cases hr:(⟨nl,dd⟩:BlobS).right with
 |false=>
  rw[if_pos (.inl hr)]at he;subst he;exact rqc_r0 nl dd ac tm v l q cap hdd hf hll hr hk h
 |true=>
  cases nl with
  |true=>
   rw[if_neg (by simp[hr])]at he
   by_cases n1:ac< -1
   · rw[if_pos (.inl n1)]at he;subst he;exact rqc_a1_true dd ac tm v l q cap hdd hf hll hr n1 hk h
   by_cases n2:1<ac
   · rw[if_pos (.inr (.inl n2))]at he;subst he;exact rqc_a2_true dd ac tm v l q cap hdd hf hll hr n1 n2 hk h
   by_cases n3:tm<0
   · rw[if_pos (.inr (.inr (.inl n3)))]at he;subst he;exact rqc_a3_true dd ac tm v l q cap hdd hf hll hr n1 n2 n3 hk h
   by_cases n4:2147483647<tm
   · rw[if_pos (.inr (.inr (.inr n4)))]at he;subst he;exact rqc_a4_true dd ac tm v l q cap hdd hf hll hr n1 n2 n3 n4 hk h
   rw[if_neg (by omega)]at he
   by_cases ht:errTops l=0
   · rw[if_neg (by simp[ht])]at he;exact rqc_p_true dd ac tm v l q cap hdd hf hll hr n1 n2 n3 n4 ht e he hk h
   · rw[if_pos ht]at he;exact rqc_t_true dd ac tm v l q cap hdd hf hll hr n1 n2 n3 n4 e he (by rw[←he];exact ht) hk h
  |false=>
   cases hkr:keyRight dd with
   |false=>
     rw[if_pos (.inr ⟨rfl,hkr⟩)]at he;subst he;exact rqc_k0 dd ac tm v l q cap hdd hf hll hr hkr hk h
   |true=>
     rw[if_neg (by simp[hr,hkr])]at he
     by_cases n1:ac< -1
     · rw[if_pos (.inl n1)]at he;subst he;exact rqc_a1_false dd ac tm v l q cap hdd hf hll hr hkr n1 hk h
     by_cases n2:1<ac
     · rw[if_pos (.inr (.inl n2))]at he;subst he;exact rqc_a2_false dd ac tm v l q cap hdd hf hll hr hkr n1 n2 hk h
     by_cases n3:tm<0
     · rw[if_pos (.inr (.inr (.inl n3)))]at he;subst he;exact rqc_a3_false dd ac tm v l q cap hdd hf hll hr hkr n1 n2 n3 hk h
     by_cases n4:2147483647<tm
     · rw[if_pos (.inr (.inr (.inr n4)))]at he;subst he;exact rqc_a4_false dd ac tm v l q cap hdd hf hll hr hkr n1 n2 n3 n4 hk h
     rw[if_neg (by omega)]at he
     by_cases ht:errTops l=0
     · rw[if_neg (by simp[ht])]at he;exact rqc_p_false dd ac tm v l q cap hdd hf hll hr hkr n1 n2 n3 n4 ht e he hk h
     · rw[if_pos ht]at he;exact rqc_t_false dd ac tm v l q cap hdd hf hll hr hkr n1 n2 n3 n4 e he (by rw[←he];exact ht) hk h
def turned:Nat→List Bool→List Bool
  |0,m=>m
  |k+1,m=>(turned k m).set k (!(turned k m).getD k false)
theorem attr_one (a:Int) (h:chk a=0):attrN (bitAt a 3) (bitAt a 4) (bitAt a 5) 3=a∧(bitAt a 5=true→bitAt a 4=true):=by
 have hr:0≤a∧a≤63:=by
  unfold chk at h
  split at h
  · cases h
  · split at h
    · cases h
    · rename_i _ h2
      simp only[Bool.or_eq_true,decide_eq_true_eq,not_or]at h2
      omega
 have key:∀k:Fin 64,chk (k.val:Int)=0→attrN (bitAt k.val 3) (bitAt k.val 4) (bitAt k.val 5) 3=k.val∧(bitAt k.val 5=true→bitAt k.val 4=true):=by decide
 have:=key ⟨a.toNat,by omega⟩;simp only at this;rw[show((a.toNat:Nat):Int)=a by omega]at this;exact this h
theorem sumItem_back (v:Int) (h: -2147483648≤v∧v<2147483648):sumItem (v % 4294967296)=v:=by
 unfold sumItem;rw[if_neg (by omega)]
 split<;>omega
theorem preX_bytes {s:Bs}(h:61≤s.length) (h2:(preX s).2=2):encInts (preX s).1.items=s.take 61:=by
 have e:=enc_intsOf preSizes s h;have hs:preSizes.sum=61:=rfl;rw[hs]at e;rw[←e];have h4:=sInt_range4 ((s.drop 17).take 4) (by rw[List.length_take];omega);have h5:=sumItem_back _ h4
 have e2:intsOf preSizes s=[sInt (s.take 8),sInt ((s.drop 8).take 4),sInt ((s.drop 12).take 4),sInt ((s.drop 16).take 1),sInt ((s.drop 17).take 4),sInt ((s.drop 21).take 2),sInt ((s.drop 23).take 4),sInt ((s.drop 27).take 8),sInt ((s.drop 35).take 8),sInt ((s.drop 43).take 8),sInt ((s.drop 51).take 2),sInt ((s.drop 53).take 4),sInt ((s.drop 57).take 4)]:=by
  unfold preSizes;simp only[intsOf,List.drop_drop,Nat.reduceAdd]
 unfold preX at h2 ⊢;rw[e2]at h2 ⊢;have h3:sInt ((s.drop 16).take 1)=2:=h2;rw[h3]
 show encInts (PreS.items ⟨_,_,_,sInt ((s.drop 17).take 4) % 4294967296,_,_,_,_,_,_,_,_⟩)=_
 unfold PreS.items;simp only[h5]
 rfl
theorem unp_enc:∀(n:Nat) (rows:Bs) (pos:Nat) (rs:List RecS),pos≤rows.length→unp n ⟨rows,pos,0⟩=.ok rs→rows.drop pos=rs.flatMap encR
  |0,rows,pos,rs,hp,h=>by
    have h:(if (⟨rows,pos,0⟩:InS).left=0 then Except.ok []else Except.error (10:Int))=Except.ok rs:=h
    by_cases c1:(⟨rows,pos,0⟩:InS).left=0
    · rw[if_pos c1]at h
      cases h
      have c2:rows.length - pos=0:=c1;rw[List.drop_of_length_le (by omega)]
      rfl
    · rw[if_neg c1]at h;cases h
  |n+1,rows,pos,rs,hp,h=>by
    have h:(if (⟨rows,pos,0⟩:InS).left=0 then .error 10 else if (⟨rows,pos,0⟩:InS).record.2.err=0 then consE (⟨rows,pos,0⟩:InS).record.1 (unp n (⟨rows,pos,0⟩:InS).record.2)else .error (⟨rows,pos,0⟩:InS).record.2.err)=.ok rs:=h
    by_cases c1:(⟨rows,pos,0⟩:InS).left=0
    · rw[if_pos c1]at h;cases h
    rw[if_neg c1]at h
    cases hr:reRec (rows.drop pos)with
    |error e=>
      obtain⟨he,q,_,hf⟩:=rds_rec.err rows pos e hp hr;rw[hf]at h;simp only at h;rw[if_neg he]at h
      cases h
    |ok y=>
      obtain⟨x,m⟩:=y;obtain⟨hpm,hf⟩:=rds_rec.ok rows pos x m hp hr;rw[hf]at h;simp only[if_true]at h
      cases hu:unp n ⟨rows,pos+m,0⟩with
      |error e=>rw[hu]at h;cases h
      |ok t=>
        rw[hu]at h;have h:Except.ok (x::t)=Except.ok rs:=h;injection h with h;subst h;have i1:=unp_enc n rows (pos+m) t hpm hu;have j1:=(reRec_one hr).1;rw[List.flatMap_cons,←i1,j1,←List.drop_drop,List.take_append_drop]
theorem reBat_one {s:Bs}{b:BatS}{n:Nat}(h:reBat s=.ok (b,n)):b.enc=s.take n∧batErr b=0∧b.rowsB.length≤s.length∧b.recs.length≤s.length∧∀x∈b.recs,x.R∧recOk x=0∧x.sum≤s.length:=by
 obtain⟨x,hp,hn,hns,ha⟩:=reBat_ok h;obtain⟨p1,p2,p3,p4,p5⟩:=rePre_ok hp;obtain⟨a1,a2,rs,a3,a4,a5⟩:=asmB_ok ha;obtain⟨k,hk⟩:∃k,(x.len - 49).toNat=k:=⟨_,rfl⟩;rw[hk]at hn a1 a3;obtain⟨rows,hrw⟩:∃r,(s.drop 61).take k=r:=⟨_,rfl⟩;rw[hrw]at a1 a3;have hrl:rows.length=k:=by rw[←hrw,List.length_take,List.length_drop];omega
 have u1:=unp_enc _ _ _ _ (Nat.zero_le _) a3;obtain⟨u2,u3,u4⟩:=unp_fit _ _ _ _ (Nat.zero_le _) a3;rw[List.drop_zero]at u1;have hrb:b.rowsB=rows:=by rw[u1,a5];rfl
 have hrc:b.recs=rs:=by rw[a5]
 obtain⟨at1,at2⟩:=attr_one x.attr a2
 have hpre:b.pre x.sum=x:=by
   unfold BatS.pre;rw[hrb,hrc,hrl,u2];rw[a5];simp only;rw[at1,show 49+((k:Nat):Int)=x.len by omega,show((x.count.toNat:Nat):Int)=x.count by omega]
 have hby:=preX_bytes p1 p3
 rw[p2]at hby
 have hbk:(s.take 61).drop 21=b.back:=by rw[←hby,←hpre,b.pre_drop]
 have hcr:(b.crc:Int)=x.sum:=by
   unfold BatS.crc;rw[←hbk,hrb];exact a1
 refine⟨?_,by rw[a5];exact a4,by rw[hrb,hrl];omega,by rw[hrc];omega,fun y hy=> ?_⟩
 · unfold BatS.enc;rw[hcr,hpre,hby,hrb,←hrw,hn,List.take_add]
 · rw[hrc]at hy;obtain⟨v1,v2,v3⟩:=u4 y hy;exact⟨v1,v2,by omega⟩
theorem pre_R64 {s:Bs}{x:PreS}(h:rePre s=.ok x):Rn x.base∧Rn x.leader∧Rn x.last∧Rn x.first∧Rn x.maxt∧Rn x.prod∧Rn x.epoch∧Rn x.seq:=by
 obtain⟨h1,h2,_,h3,h4⟩:=rePre_ok h;rw[preX_eq]at h2;have h2:=h2.symm;subst h2;have r:∀(k m:Nat),m≤8→Rn (sInt ((s.drop k).take m)):=fun k m hm=>sInt_range _ (by rw[List.length_take];omega)
 exact⟨r 0 8 (by decide),r 12 4 (by decide),r 23 4 (by decide),r 27 8 (by decide),r 35 8 (by decide),r 43 8 (by decide),r 51 2 (by decide),r 53 4 (by decide)⟩
structure MidOk (b:BatS):Prop where
  fit:∀x∈b.recs,x.R∧recOk x=0∧x.sum≤2000
  len:b.recs.length≤1000
  err:batErr b=0
  rng:b.R
  rows:b.rowsB.length≤2000
theorem rows_two:∀(l:List RecS),2*l.length≤(l.flatMap encR).length
  |[]=>by simp
  |x::t=>by
    have h1:=rows_two t
    have h2:2≤(encR x).length:=by
      have h3:=encV_pos x.key;have h4:2≤(recF x).length:=by unfold recF;simp only[List.length_append,List.length_cons,List.length_nil];omega
      show 2≤(putU _++recF x).length
      rw[List.length_append]
      omega
    rw[List.flatMap_cons,List.length_append,List.length_cons]
    omega
theorem zq13 {p:Prop}(h:p:=by
  obtain⟨h1,h2,h3,h4,h5⟩:=reBat_one h;obtain⟨x,hp,_,_,ha⟩:=reBat_ok h;obtain⟨_,_,rs,_,_,hb⟩:=asmB_ok ha;have hr:=pre_R64 hp;have h6:=rows_two b.recs;have h7:(b.recs.flatMap encR).length=b.rowsB.length:=rfl;refine⟨fun y hy=> ?_,by omega,h2,?_,by omega⟩
  · obtain⟨v1,v2,v3⟩:=h5 y hy;exact⟨v1,v2,by omega⟩
  · rw[hb];exact hr):p:=h
theorem MidOk.of {s:Bs}{b:BatS}{n:Nat}(h:reBat s=.ok (b,n)) (hl:s.length≤1500):MidOk b:=by
 exact zq13
structure EncOk (b:BatS):Prop where
  rows:b.rowsB.length≤400000
  len:b.recs.length≤1000
  err:batErr b=0
  rng:b.R
  recs:∀x∈b.recs,x.R∧recOk x=0∧x.sum≤1000000
theorem EncOk.mid {b:BatS}(h:MidOk b):EncOk b:=⟨by have:=h.rows;omega,h.len,h.err,h.rng,fun x hx=>⟨(h.fit x hx).1,(h.fit x hx).2.1,by have:=(h.fit x hx).2.2;omega⟩⟩
theorem EncOk.small {b:BatS}(h:SmallOk b):EncOk b:=⟨h.rows,by have:=h.len;omega,h.err,h.rng,h.recs⟩
structure EqR (x:BatR):Prop where
  len:x.l.length≤1000000
  recs:x.l.map (·.1)=x.b.recs
  hdrs:∀y∈x.l,y.1.hdrs.length≤9223372036854775807
def SmP (y:PartR):Prop:=∀z∈y.l,smallB (z.l.map (·.1))=true
def SmT (x:PTop):Prop:=∀y∈x.l,SmP y
def sizeP:List PartR→Nat
  |[]=>0
  |y::t=>10+100*y.l.length+sizeP t
def sizeT:List PTop→Nat
  |[]=>0
  |x::t=>x.name.length+10+sizeP x.l+sizeT t
theorem sizeP_append (l m:List PartR):sizeP (l++m)=sizeP l+sizeP m:=by
 induction l with
 |nil=>simp[sizeP]
 |cons x t ih=>simp only[List.cons_append,sizeP,ih];omega
theorem sizeT_append (l m:List PTop):sizeT (l++m)=sizeT l+sizeT m:=by
 induction l with
 |nil=>simp[sizeT]
 |cons x t ih=>simp only[List.cons_append,sizeT,ih];omega
def AllP (l:List PTop):Prop:=∀x∈l,x.l.length≠0
def FewI20 (dl:Nat) (l:List PTop) (k:Nat) (z:Int):Prop:=
  (∀x∈l.take k,SmT x)∧(∀j,j≤k→AllP (l.take j)→j=0∨dl+sizeT (l.take j)≤2000)∧(AllP (l.take k)→z=dl+sizeT (l.take k))
def FewJ (dl:Nat) (l:List PTop) (k:Nat) (x:PTop) (j:Nat) (z:Int):Prop:=
  (∀y∈x.l.take j,SmP y)∧(AllP (l.take k)→z=dl+sizeT (l.take k)+x.name.length+10+sizeP (x.l.take j)∧(j=0∨z≤2000))
def FewR (dl:Nat) (l:List PTop) (r:Int):Prop:=
  r=0∨(r=1∧(∀x∈l,SmT x)∧(∀j,j≤l.length→AllP (l.take j)→j=0∨dl+sizeT (l.take j)≤2000)∧(l=[]→dl≤2000))
theorem FewI20.zero (dl:Nat) (l:List PTop):FewI20 dl l 0 dl:=by
 refine⟨fun x hx=>by simp at hx,fun j hj _=> .inl (by omega),fun _=>by simp[sizeT]⟩
theorem FewI20.bound {dl:Nat}{l:List PTop}{k:Nat}{z:Int}(h:FewI20 dl l k z) (hd:dl≤140737488351232) (ha:AllP (l.take k)):0≤z∧z≤140737488351232:=by
 have e:=h.2.2 ha
 rcases h.2.1 k (Nat.le_refl _) ha with h0|h0
 · subst h0;simp[sizeT]at e
   omega
 · omega
theorem FewJ.zero {dl:Nat}{l:List PTop}{k:Nat}{z z2:Int}(x:PTop) (h:FewI20 dl l k z) (hd:dl≤140737488351232) (hn:x.name.length≤140737488351232) (hw: -9223372036854775808≤z+((x.name.length:Int)+10)→z+((x.name.length:Int)+10)<9223372036854775808→z2=z+((x.name.length:Int)+10)):FewJ dl l k x 0 z2:=by
 refine⟨fun y hy=>by simp at hy,fun ha=> ?_⟩;obtain⟨b1,b2⟩:=h.bound hd ha;have e:=h.2.2 ha;have e2:=hw (by omega) (by omega);refine⟨?_,.inl rfl⟩;simp[sizeP]
 omega
theorem FewJ.step {dl:Nat}{l:List PTop}{k:Nat}{z0 z z2:Int}{x:PTop}{j:Nat}(y:PartR) (hI:FewI20 dl l k z0) (h:FewJ dl l k x j z) (hj:j<x.l.length) (hy:x.l[j]=y) (hd:dl≤140737488351232) (hn:x.name.length≤140737488351232) (hb:y.l.length≤1466015503701) (hs:SmP y) (hw: -9223372036854775808≤z+(10+100*(y.l.length:Int))→z+(10+100*(y.l.length:Int))<9223372036854775808→z2=z+(10+100*(y.l.length:Int))) (h2:z2≤2000):FewJ dl l k x (j+1) z2:=by
 have et:x.l.take (j+1)=x.l.take j++[y]:=by rw[List.take_succ_eq_append_getElem hj,hy]
 refine⟨fun v hv=> ?_,fun ha=> ?_⟩
 · rw[et]at hv
   rcases List.mem_append.1 hv with hv|hv
   · exact h.1 v hv
   · rw[List.mem_singleton.1 hv];exact hs
 · obtain⟨e1,e2⟩:=h.2 ha;obtain⟨b1,b2⟩:=hI.bound hd ha;have e3:=hI.2.2 ha
   have hz:0≤z∧z≤300000000000000:=by
    rcases e2 with h0|h0
    · subst h0;simp[sizeP]at e1
      omega
    · omega
   have e4:=hw (by omega) (by omega);refine⟨?_,.inr h2⟩;rw[et,sizeP_append];simp only[sizeP]
   omega
theorem FewI20.step {dl:Nat}{l:List PTop}{k:Nat}{z0 z:Int}(x:PTop) (hI:FewI20 dl l k z0) (h:FewJ dl l k x x.l.length z) (hk:k<l.length) (hx:l[k]=x):FewI20 dl l (k+1) z:=by
 have et:l.take (k+1)=l.take k++[x]:=by rw[List.take_succ_eq_append_getElem hk,hx]
 have hs:=h.1;rw[List.take_length]at hs
 have hall:AllP (l.take (k+1))→z=dl+sizeT (l.take (k+1))∧z≤2000:=by
   intro ha;rw[et]at ha;have ha1:AllP (l.take k):=fun v hv=>ha v (List.mem_append_left _ hv)
   have ha2:x.l.length≠0:=ha x (List.mem_append_right _ (List.mem_singleton.2 rfl));obtain⟨e1,e2⟩:=h.2 ha1;rw[List.take_length]at e1;refine⟨?_,by rcases e2 with h0|h0;exact absurd h0 ha2;exact h0⟩;rw[et,sizeT_append];simp only[sizeT]
   omega
 refine⟨fun v hv=> ?_,fun j hj ha=> ?_,fun ha=>(hall ha).1⟩
 · rw[et]at hv
   rcases List.mem_append.1 hv with hv|hv
   · exact hI.1 v hv
   · rw[List.mem_singleton.1 hv];exact hs
 · by_cases hjk:j≤k
   · exact hI.2.1 j hjk ha
   · obtain rfl:j=k+1:=by omega
     obtain⟨e1,e2⟩:=hall ha
     right;omega
theorem FewI20.done {dl:Nat}{l:List PTop}{z:Int}(h:FewI20 dl l l.length z) (hz:¬2000<z):FewR dl l 1:=by
 refine .inr ⟨rfl,by have:=h.1;rwa [List.take_length]at this,h.2.1,fun h0=> ?_⟩;subst h0;have e:=h.2.2 (by intro x hx;simp at hx);simp[sizeT]at e
 omega
structure FewPt (y:PartR):Prop where
  len:y.l.length≤1466015503701
  fit:∀z∈y.l,z.Fit
structure FewT20 (x:PTop):Prop where
  name:x.name.length≤140737488351232
  len:x.l.length≤4398046511104
  parts:∀y∈x.l,FewPt y
theorem EqR.of {z:BatR}(hf:z.Fit) (hs:smallB (z.l.map (·.1))=true) (hh:∀y∈z.l,y.1.hdrs.length≤9223372036854775807):EqR z:=⟨by have:=smallB_len hs;omega,hf.2.2,hh⟩
def PTop.ts (x:PTop):TopS:=⟨x.name,x.l.map PartR.idx⟩
theorem buildTV13 (a sl:Value) (w:World):(Instr.buildSlice 34 1 #[(0,.agg #[a,sl])]).run Tryz.prog w=.ok (.slice (some ⟨w.heap.size,0,none⟩) 1 1) (w.alloc (.cells #[a,sl] 178 (0,0))):=by go_simp
theorem exec_buildT13 {o:Oper}{ρ:Operand→Value}(ps:Array (Nat×Value)) (v:Value) (w w':World) (ho:execOp ρ o=(do pure (Next.value (←Instr.buildSlice 34 1 ps)))) (hb:(Instr.buildSlice 34 1 ps).run Tryz.prog w=.ok v w'):(execOp ρ o).run Tryz.prog w=.ok (.value v) w':=by
 rw[ho];simp[hb]
theorem St.sets5P {W0 w:World}{K:Know}{L:List Res}{b:Nat}{T:TypeId}{a0 a1 a2 a3 a4:Value}(v0 v1 v2 v3 v4:Value) (h:St W0 w K (.raw b #[a0,a1,a2,a3,a4] T::L)):St W0 (((((w.setCell ⟨b,0,none⟩ v0).setCell ⟨b,1,none⟩ v1).setCell ⟨b,2,none⟩ v2).setCell ⟨b,3,none⟩ v3).setCell ⟨b,4,none⟩ v4) K (.raw b #[v0,v1,v2,v3,v4] T::L):=by
 have h:St W0 _ K (.raw b #[v0,a1,a2,a3,a4] T::L):=h.rawSet 0 v0;have h:St W0 _ K (.raw b #[v0,v1,a2,a3,a4] T::L):=h.rawSet 1 v1;have h:St W0 _ K (.raw b #[v0,v1,v2,a3,a4] T::L):=h.rawSet 2 v2;have h:St W0 _ K (.raw b #[v0,v1,v2,v3,a4] T::L):=h.rawSet 3 v3;have h:St W0 _ K (.raw b #[v0,v1,v2,v3,v4] T::L):=h.rawSet 4 v4;exact h
theorem St.freezeTopsK {W0 w:World}{K:Know}{L:List Res}{v:Value}{T:TypeId}{l:List PTop}{k:Nat}{xs:List Value}(h:St W0 w K (.row v T 2 k xs::L)) (hk:k=l.length) (hx:xs=l.flatMap ptcells) (ht:∀x∈l,K.has (Know.pparts (.slice x.q x.l.length x.cap) x.l)):St W0 w (K.and (Know.ptops v l)) L:=by
 subst hk;subst hx;exact h.freezeTopsP ht
theorem preq_checkK (nl:Bool) (dd:Bs) (ac tm v:Int) (l:List PTop) (q:Option Addr) (cap n:Nat) (hn:n=l.length) (hdd:dd.length≤140737488355328) (hf:∀x∈l,CkT x) (hll:l.length≤4398046511104) (e:Int) (he:errReq ⟨nl,dd⟩ ac tm v l=e){W0 w:World}{K:Know}{L:List Res}(hk:K.has (Know.ptops (.slice q n cap) l)) (h:St W0 w K L):
  Calls Tryz.prog 152 #[.agg #[.bool nl,.string (bb dd),.int .i64 ac,.int .i64 tm,.slice q n cap],.int .i64 v] w fun en w'=>en=.returned (.int .i64 e)∧St W0 w' K L:=by
 subst hn;exact preq_check nl dd ac tm v l q cap hdd hf hll e he hk h
structure WrP (x:PartR):Prop where
  idx: -9223372036854775808≤x.idx∧x.idx<9223372036854775808
  bats:∀z∈x.l,z.l.map (·.1)=z.b.recs∧EncOk z.b
structure WrT (x:PTop):Prop where
  name:x.name.length≤32767
  parts:∀y∈x.l,WrP y

end Go.Proofs.YteldcbljedeeiaaGreatDoor
