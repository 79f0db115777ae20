/- A text. -/
import Derived.Deep.RegionHeld
import Derived.Test.YtenojajfacacoaaGreatDoorGReportPlaysCard1
import Derived.Deep.RegionHeld3
/- A text. -/
namespace Go.Proofs.YtenojajfacacoaaGreatDoor
open Go.RowKit
open Go.Value renaming bool→U, string→Z, slice→Ja, int→I, pointer→Jc
open Go.Ending renaming returned→Jb
open _root_.Nat renaming le_refl→Jo, zero_le→Ji, add_assoc→Jm
open Go.IntKind renaming i64→O
open _root_.Go.Proofs.Tryz renaming prog→Jd
open _root_.List renaming length_cons→Jg, take_of_length_le→Jj, length_take→Jk, length_append→Je, length→Jh, take→Jq, getElem_mem→Jp, length_drop→Jf, length_nil→Jl, length_map→Jn
structure Know where
 p:World→(Nat→Prop)→Prop
 keep:∀(w w':World) F,p w F→w.heap.size≤w'.heap.size→(∀k,k<w.heap.size→F k→w'.heap[k]? =w.heap[k]?)→p w' F
 mono:∀(w:World) F F',p w F→(∀k,F k→F' k)→p w F'
def Know.none:Know:=⟨fun _ _=>True,fun _ _ _ _ _ _=>trivial,fun _ _ _ _ _=>trivial⟩
def Know.and (a b:Know):Know:=⟨fun w F=>a.p w F∧b.p w F,fun w w' F h hs hk=>⟨a.keep w w' F h.1 hs hk,b.keep w w' F h.2 hs hk⟩,fun w F F' h hs=>⟨a.mono w F F' h.1 hs,b.mono w F F' h.2 hs⟩⟩
def Know.has (a b:Know):Prop:=∀w F,a.p w F→b.p w F
theorem Know.has_refl(a:Know):a.has a:=fun _ _ h=>h
theorem Know.has_left{a b c:Know}(h:a.has c):(a.and b).has c:=fun w F x=>h w F x.1
theorem Know.has_right{a b c:Know}(h:b.has c):(a.and b).has c:=fun w F x=>h w F x.2
theorem Know.has_trans{a b c:Know}(h:a.has b)(k:b.has c):a.has c:=fun w F x=>k w F (h w F x)
structure Gen where
 p:World→(Nat→Prop)→Prop
 keep:∀(w w':World) S,p w S→w.heap.size≤w'.heap.size→(∀k,k<w.heap.size→S k→w'.heap[k]? =w.heap[k]?)→p w' S
inductive Res
 |inp (b:Nat) (i:InS)
 |out (b:Nat) (o:OutS)
 |raw (b:Nat) (c:Array Value) (T:TypeId)
 |row (v:Value) (T:TypeId) (sz n:Nat) (xs:List Value)
 |gen (g:Gen)
def Res.holds:Res→World→(Nat→Prop)→Prop
 | .inp b i,w,S=>IsIn w b i∧∀k,S k↔k=b
 | .out b o,w,S=>∃g,IsOut w b g o∧∀k,S k↔OutM b g k
 | .raw b c T,w,S=>w.heap[b]? =some (.cells c T (0,0))∧∀k,S k↔k=b
 | .row v T sz n xs,w,S=>w.ownsRow 0 T sz v n xs∧∀k,S k↔v.ownBlock=some k
 | .gen g,w,S=>g.p w S
theorem Res.keep{r:Res}{w w':World}{S:Nat→Prop}(h:r.holds w S)(hs:w.heap.size≤w'.heap.size)(hk:∀k,k<w.heap.size→S k→w'.heap[k]? =w.heap[k]?):r.holds w' S:=by
 cases r with
 |inp b i=>exact⟨⟨(hk b h.1.lt ((h.2 b).2 rfl)).trans h.1.1,h.1.2⟩,h.2⟩
 |out b o=>
  obtain⟨g,h1,h2⟩:=h;refine⟨g,?_,h2⟩;have hl:=h1.lt;have hgl:=h1.glt;obtain⟨v,g1,g2,g3,g4⟩:=h1;refine⟨v,(hk b hl ((h2 b).2 (.inl rfl))).trans g1,?_,g3,g4⟩;obtain⟨a1,a2⟩:=g2;refine⟨a1,?_⟩
  rcases a2 with a2|⟨x,cap,cur,rfl,hb,hg,rest⟩
  ·exact .inl a2
  ·have hx:some x=g:=g3;exact .inr ⟨x,cap,cur,rfl,hb,by rw[hk x (hgl x hx.symm) ((h2 x).2 (.inr hx))];exact hg,rest⟩
 |raw b c T=>exact⟨(hk b (zA1 h.1) ((h.2 b).2 rfl)).trans h.1,h.2⟩
 |row v T sz n xs=>
  obtain⟨⟨a1,a2⟩,h2⟩:=h;refine⟨⟨a1,?_⟩,h2⟩
  rcases a2 with a2|⟨x,cap,cur,rfl,hb,hg,rest⟩
  ·exact .inl a2
  ·exact .inr ⟨x,cap,cur,rfl,hb,by rw[hk x (zA1 hg) ((h2 x).2 rfl)];exact hg,rest⟩
 |gen g=>exact g.keep w w' S h hs hk
def Holds:List Res→World→(Nat→Prop)→Prop
 |[],_,S=>∀k,¬S k
 |r::L,w,S=>∃S1 S2,r.holds w S1∧Holds L w S2∧(∀k,S1 k→¬S2 k)∧∀k,S k↔S1 k∨S2 k
theorem Holds.keep{w w':World}(hs:w.heap.size≤w'.heap.size):∀{L:List Res}{S:Nat→Prop},Holds L w S→(∀k,k<w.heap.size→S k→w'.heap[k]? =w.heap[k]?)→Holds L w' S
 |[],_,h,_=>h
 |r::_,_,⟨S1,S2,h1,h2,h3,h4⟩,hk=>⟨S1,S2,Res.keep (r:=r) h1 hs (fun k hl hx=>hk k hl ((h4 k).2 (.inl hx))),h2.keep hs (fun k hl hx=>hk k hl ((h4 k).2 (.inr hx))),h3,h4⟩
theorem Holds.swap{w:World}{a b:Res}{L:List Res}{S:Nat→Prop}(h:Holds (a::b::L) w S):Holds (b::a::L) w S:=by
 obtain⟨S1,S2,h1,⟨S3,S4,h2,h3,d2,e2⟩,d1,e1⟩:=h;refine⟨S3,fun k=>S1 k∨S4 k,h2,⟨S1,S4,h1,h3,fun k hk=>fun h=>d1 k hk ((e2 k).2 (.inr h)),fun k=>Iff.rfl⟩,?_,?_⟩
 ·rintro k hk (h|h)
  ·exact d1 k h ((e2 k).2 (.inl hk))
  ·exact d2 k hk h
 ·intro k;rw[e1,e2]
  constructor
  ·rintro(h|h|h)
   ·exact .inr (.inl h)
   ·exact .inl h
   ·exact .inr (.inr h)
  ·rintro(h|h|h)
   ·exact .inr (.inl h)
   ·exact .inl h
   ·exact .inr (.inr h)
theorem Holds.cons{w:World}{a:Res}{L L':List Res}{S:Nat→Prop}(h:Holds (a::L) w S)(hL:∀S,Holds L w S→Holds L' w S):Holds (a::L') w S:=by
 obtain⟨S1,S2,h1,h2,h3,h4⟩:=h;exact⟨S1,S2,h1,hL _ h2,h3,h4⟩
def Unf (w:World) (k:Nat):Prop:=∃c T,w.heap[k]? =some (.cells c T (0,0))
theorem Unf.same{w w':World}{k:Nat}(h:Unf w k)(e:w'.heap[k]? =w.heap[k]?):Unf w' k:=by
 obtain⟨c,T,h⟩:=h;exact⟨c,T,e.trans h⟩
def St (W0 w:World) (K:Know) (L:List Res):Prop:=
 Below W0.heap.size W0 w∧∃S F:Nat→Prop,Holds L w S∧(∀k,S k→W0.heap.size≤k∧k<w.heap.size)∧K.p w F∧∀k,F k→k<w.heap.size∧¬S k∧(W0.heap.size≤k→Unf w k)
theorem St.below{W0 w:World}{K:Know}{L:List Res}(h:St W0 w K L):Below W0.heap.size W0 w:=h.1
theorem St.get{W0 w:World}{K:Know}{L:List Res}(h:St W0 w K L):∃F,K.p w F∧∀k,F k→k<w.heap.size:=by
 obtain⟨_,S,F,_,_,hk,hf⟩:=h;exact⟨F,hk,fun k h=>(hf k h).1⟩
theorem St.start{W0:World}{K:Know}(h:K.p W0 (· <W0.heap.size)):St W0 W0 K []:=
 ⟨Below.refl _ _,fun _=>False,(· <W0.heap.size),fun _ h=>h,fun _ h=>h.elim,h,fun _ h=>⟨h,fun h=>h,fun h2=>absurd h (Nat.not_lt.2 h2)⟩⟩
theorem St.know{W0 w:World}{K K':Know}{L:List Res}(h:St W0 w K L)(hk:K.has K'):St W0 w K' L:=by
 obtain⟨a,S,F,b,c,d,e⟩:=h;exact⟨a,S,F,b,c,hk _ _ d,e⟩
theorem St.quiet{W0 w w':World}{K:Know}{L:List Res}{M:Nat→Prop}(h:St W0 w K L)(k:Keeps M w w')(hM:∀k,k<w.heap.size→¬M k):St W0 w' K L:=by
 obtain⟨a,S,F,b,c,d,e⟩:=h;have hb:∀j,j<w.heap.size→w'.heap[j]? =w.heap[j]? :=fun j hj=>k.block j hj (hM j hj)
 exact⟨a.trans ⟨k.os,k.tape,k.output,k.size,fun j hj=>hb j (Nat.lt_of_lt_of_le hj a.size)⟩,S,F,b.keep k.size (fun j hj _=>hb j hj),fun j hj=>⟨(c j hj).1,Nat.lt_of_lt_of_le (c j hj).2 k.size⟩,K.keep w w' F d k.size (fun j hj _=>hb j hj),fun j hj=>⟨Nat.lt_of_lt_of_le (e j hj).1 k.size,(e j hj).2.1,fun h2=>((e j hj).2.2 h2).same (hb j (e j hj).1)⟩⟩
theorem St.drewN{W0 w:World}{K:Know}{L:List Res}(h:St W0 w K L)(n:Nat):St W0 (w.drewN n) K L:=h.quiet (M:=fun _=>False) ((Keeps.refl _ _).drewN n) (fun _ _ h=>h)
theorem St.drew{W0 w:World}{K:Know}{L:List Res}(h:St W0 w K L):St W0 w.drew K L:=h.quiet (M:=fun _=>False) ((Keeps.refl _ _).drew) (fun _ _ h=>h)
theorem St.alloc{W0 w:World}{K:Know}{L:List Res}(h:St W0 w K L)(o:Obj):St W0 (w.alloc o) K L:=h.quiet (M:=fun _=>False) ((Keeps.refl _ _).alloc o) (fun _ _ h=>h)
theorem St.step{W0 w w':World}{K:Know}{r r':Res}{L:List Res}(h:St W0 w K (r::L))
 (hr:∀S1,r.holds w S1→∃S1',r'.holds w' S1'∧Keeps S1 w w'∧∀k,S1' k→(S1 k∨w.heap.size≤k)∧k<w'.heap.size):St W0 w' K (r'::L):=by
 obtain⟨a,S,F,⟨S1,S2,h1,h2,h3,h4⟩,c,d,e⟩:=h;obtain⟨S1',g1,k,g2⟩:=hr S1 h1;have hS1:∀j,S1 j→W0.heap.size≤j:=fun j hj=>(c j ((h4 j).2 (.inl hj))).1
 refine⟨a.trans ⟨k.os,k.tape,k.output,k.size,fun j hj=>k.block j (Nat.lt_of_lt_of_le hj a.size) (fun h=>by have:=hS1 j h;omega)⟩,fun k=>S1' k∨S2 k,F,⟨S1',S2,g1,h2.keep k.size (fun j hj hs=>k.block j hj (fun h=>h3 j h hs)),?_,fun k=>Iff.rfl⟩,?_,K.keep w w' F d k.size (fun j hj hF=>k.block j hj (fun h=>(e j hF).2.1 ((h4 j).2 (.inl h)))),?_⟩
 ·intro j hj hs
  rcases(g2 j hj).1 with h|h
  ·exact h3 j h hs
  ·have:=(c j ((h4 j).2 (.inr hs))).2;omega
 ·rintro j (hj|hj)
  ·obtain⟨h|h,h'⟩:=g2 j hj
   ·exact⟨hS1 j h,h'⟩
   ·exact⟨Nat.le_trans a.size h,h'⟩
  ·have:=c j ((h4 j).2 (.inr hj));exact⟨this.1,Nat.lt_of_lt_of_le this.2 k.size⟩
 ·intro j hF;refine⟨Nat.lt_of_lt_of_le (e j hF).1 k.size,?_,fun h2=>((e j hF).2.2 h2).same (k.block j (e j hF).1 (fun h=>(e j hF).2.1 ((h4 j).2 (.inl h))))⟩;rintro(hj|hj)
  ·rcases(g2 j hj).1 with h|h
   ·exact(e j hF).2.1 ((h4 j).2 (.inl h))
   ·have:=(e j hF).1;omega
  ·exact(e j hF).2.1 ((h4 j).2 (.inr hj))
theorem St.new{W0 w w':World}{K:Know}{r:Res}{L:List Res}{S1:Nat→Prop}(h:St W0 w K L)(k:Keeps (fun _=>False) w w')(hr:r.holds w' S1)(hS:∀j,S1 j→w.heap.size≤j∧j<w'.heap.size):St W0 w' K (r::L):=by
 obtain⟨a,S,F,b,c,d,e⟩:=h.quiet k (fun _ _ h=>h);obtain⟨h0,S',F',b',c',d',e'⟩:=h;have hb:∀j,j<w.heap.size→w'.heap[j]? =w.heap[j]? :=fun j hj=>k.block j hj (fun h=>h)
 refine⟨a,fun k=>S1 k∨S' k,F',⟨S1,S',hr,b'.keep k.size (fun j hj _=>hb j hj),?_,fun k=>Iff.rfl⟩,?_,K.keep w w' F' d' k.size (fun j hj _=>hb j hj),?_⟩
 ·intro j hj hs;have:=(hS j hj).1;have:=(c' j hs).2
  omega
 ·rintro j (hj|hj)
  ·have h1:=hS j hj;exact⟨Nat.le_trans h0.size h1.1,h1.2⟩
  ·exact⟨(c' j hj).1,Nat.lt_of_lt_of_le (c' j hj).2 k.size⟩
 ·intro j hF;refine⟨Nat.lt_of_lt_of_le (e' j hF).1 k.size,?_,fun h2=>((e' j hF).2.2 h2).same (hb j (e' j hF).1)⟩;rintro(hj|hj)
  ·have:=(hS j hj).1;have:=(e' j hF).1
   omega
  ·exact(e' j hF).2.1 hj
theorem St.drop{W0 w:World}{K:Know}{r:Res}{L:List Res}(h:St W0 w K (r::L)):St W0 w K L:=by
 obtain⟨a,S,F,⟨S1,S2,h1,h2,h3,h4⟩,c,d,e⟩:=h;exact⟨a,S2,F,h2,fun k hk=>c k ((h4 k).2 (.inr hk)),d,fun k hk=>⟨(e k hk).1,fun h=>(e k hk).2.1 ((h4 k).2 (.inr h)),(e k hk).2.2⟩⟩
theorem St.map{W0 w:World}{K:Know}{L L':List Res}(h:St W0 w K L)(hL:∀S,Holds L w S→Holds L' w S):St W0 w K L':=by
 obtain⟨a,S,F,b,c⟩:=h;exact⟨a,S,F,hL _ b,c⟩
theorem St.p1{W0 w:World}{K:Know}{a b:Res}{L:List Res}(h:St W0 w K (a::b::L)):St W0 w K (b::a::L):=h.map fun _=>Holds.swap
theorem St.p2{W0 w:World}{K:Know}{a b c:Res}{L:List Res}(h:St W0 w K (a::b::c::L)):St W0 w K (c::a::b::L):=St.p1 (h.map fun _ h=>h.cons fun _=>Holds.swap)
theorem St.p3{W0 w:World}{K:Know}{a b c d:Res}{L:List Res}(h:St W0 w K (a::b::c::d::L)):St W0 w K (d::a::b::c::L):=St.p2 (h.map fun _ h=>h.cons fun _ h=>h.cons fun _=>Holds.swap)
theorem St.p4{W0 w:World}{K:Know}{a b c d e:Res}{L:List Res}(h:St W0 w K (a::b::c::d::e::L)):St W0 w K (e::a::b::c::d::L):=St.p3 (h.map fun _ h=>h.cons fun _ h=>h.cons fun _ h=>h.cons fun _=>Holds.swap)
theorem St.p5{W0 w:World}{K:Know}{a b c d e f:Res}{L:List Res}(h:St W0 w K (a::b::c::d::e::f::L)):St W0 w K (f::a::b::c::d::e::L):=St.p4 (h.map fun _ h=>h.cons fun _ h=>h.cons fun _ h=>h.cons fun _ h=>h.cons fun _=>Holds.swap)
theorem St.allocRaw{W0 w:World}{K:Know}{L:List Res}(h:St W0 w K L)(c:Array Value)(T:TypeId):St W0 (w.alloc (.cells c T (0,0))) K (.raw w.heap.size c T::L):=
 h.new (S1:=fun k=>k=w.heap.size) ((Keeps.refl _ _).alloc _) ⟨heap_alloc_new w _,fun _=>Iff.rfl⟩ (by rintro j rfl;simp)
theorem St.allocOut{W0 w:World}{K:Know}{L:List Res}(h:St W0 w K L):St W0 (w.alloc (.cells #[Ja none 0 0,I O 0] 88 (0,0))) K (.out w.heap.size ⟨[],0⟩::L):=
 h.new (S1:=fun k=>k=w.heap.size) ((Keeps.refl _ _).alloc _) ⟨none,⟨_,heap_alloc_new w _,World.ownsRow_nil _ _ _ _,rfl,by simp⟩,fun k=>by simp[OutM]⟩ (by rintro j rfl;simp)
theorem St.nilRow{W0 w:World}{K:Know}{L:List Res}(h:St W0 w K L)(T:TypeId)(sz:Nat):St W0 w K (.row (Ja none 0 0) T sz 0 []::L):=
 h.new (S1:=fun _=>False) (Keeps.refl _ _) ⟨World.ownsRow_nil _ _ _ _,fun k=>by simp[Value.ownBlock]⟩ (fun _ h=>h.elim)
theorem St.rawGet{W0 w:World}{K:Know}{L:List Res}{b:Nat}{c:Array Value}{T:TypeId}(h:St W0 w K (.raw b c T::L)):w.heap[b]? =some (.cells c T (0,0)):=by
 obtain⟨_,S,F,⟨S1,S2,h1,_⟩,_⟩:=h;exact h1.1
theorem St.rawCell{W0 w:World}{K:Know}{L:List Res}{b:Nat}{c:Array Value}{T:TypeId}(h:St W0 w K (.raw b c T::L))(j:Nat):w.cell? ⟨b,j,none⟩=c[j]? :=zAO h.rawGet j
theorem St.rawFree{W0 w:World}{K:Know}{L:List Res}{b:Nat}{c:Array Value}{T:TypeId}(h:St W0 w K (.raw b c T::L))(j:Nat):w.frozen? ⟨b,j,none⟩=false:=zDp h.rawGet j
theorem St.rawSet{W0 w:World}{K:Know}{L:List Res}{b:Nat}{c:Array Value}{T:TypeId}(h:St W0 w K (.raw b c T::L))(j:Nat)(v:Value):St W0 (w.setCell ⟨b,j,none⟩ v) K (.raw b (c.setIfInBounds j v) T::L):=by
 refine h.step fun S1 h1=>⟨S1,⟨zA9 h1.1 v,h1.2⟩,(Keeps.refl _ _).setCell _ _ (.inl ((h1.2 b).2 rfl)),fun k hk=>⟨.inl hk,?_⟩⟩
 have:=(h1.2 k).1 hk;subst this
 simpa using zA1 h1.1
theorem St.inpGet{W0 w:World}{K:Know}{L:List Res}{b:Nat}{i:InS}(h:St W0 w K (.inp b i::L)):IsIn w b i:=by
 obtain⟨_,S,F,⟨S1,S2,h1,_⟩,_⟩:=h;exact h1.1
theorem St.outGet{W0 w:World}{K:Know}{L:List Res}{b:Nat}{o:OutS}(h:St W0 w K (.out b o::L)):∃g,IsOut w b g o:=by
 obtain⟨_,S,F,⟨S1,S2,⟨g,h1,_⟩,_⟩,_⟩:=h;exact⟨g,h1⟩
theorem St.rowGet{W0 w:World}{K:Know}{L:List Res}{v:Value}{T:TypeId}{sz n:Nat}{xs:List Value}(h:St W0 w K (.row v T sz n xs::L)):w.ownsRow 0 T sz v n xs:=by
 obtain⟨_,S,F,⟨S1,S2,h1,_⟩,_⟩:=h;exact h1.1
theorem St.inp{W0 w w':World}{K:Know}{L:List Res}{b:Nat}{i i':InS}(h:St W0 w K (.inp b i::L))(h':IsIn w' b i')(k:Keeps (· =b) w w'):St W0 w' K (.inp b i'::L):=
 h.step fun S1 h1=>⟨S1,⟨h',h1.2⟩,k.mono (fun k _ hk=>(h1.2 k).2 hk),fun k hk=>⟨.inl hk,by have:=(h1.2 k).1 hk;subst this;exact h'.lt⟩⟩
theorem IsOut.same{w:World}{b:Nat}{g g':Option Nat}{o o':OutS}(h:IsOut w b g o)(h':IsOut w b g' o'):g=g':=by
 obtain⟨v,h1,_,h2,_⟩:=h;obtain⟨v',h1',_,h2',_⟩:=h';rw[h1]at h1';simp at h1';rw[←h2,←h2',h1'.1]
theorem St.out{W0 w w':World}{K:Know}{L:List Res}{b:Nat}{o o':OutS}{g g':Option Nat}(h:St W0 w K (.out b o::L))(hg:IsOut w b g o)(h':IsOut w' b g' o')(k:Keeps (OutM b g) w w')(n:Newer w g g'):St W0 w' K (.out b o'::L):=by
 refine h.step fun S1 h1=> ?_
 obtain⟨g2,h1,h2⟩:=h1;obtain rfl:=h1.same hg;refine⟨OutM b g',⟨g',h',fun _=>Iff.rfl⟩,k.mono (fun k _ hk=>(h2 k).2 hk),?_⟩;rintro j (rfl|hj)
 ·exact⟨.inl ((h2 _).2 (.inl rfl)),h'.lt⟩
 ·refine⟨?_,h'.glt j hj.symm⟩
  rcases n with rfl|⟨x,rfl,hx⟩
  ·exact .inl ((h2 _).2 (.inr hj))
  ·simp at hj;subst hj;exact .inr hx
theorem St.newInp{W0 w w':World}{K:Know}{L:List Res}{b:Nat}{i:InS}(h:St W0 w K L)(h':IsIn w' b i)(k:Keeps (fun _=>False) w w')(hb:w.heap.size≤b):St W0 w' K (.inp b i::L):=
 h.new (S1:=(· =b)) k ⟨h',fun _=>Iff.rfl⟩ (by rintro j rfl;exact⟨hb,h'.lt⟩)
theorem St.rowGrown{W0 w w':World}{K:Know}{L:List Res}{v v':Value}{T:TypeId}{sz n n':Nat}{xs xs':List Value}(h:St W0 w K (.row v T sz n xs::L))(h':w'.ownsRow 0 T sz v' n' xs')(k:w.grownBy w' v.ownBlock)(hn:Newer w v.ownBlock v'.ownBlock):
 St W0 w' K (.row v' T sz n' xs'::L):=by
 refine h.step fun S1 h1=>⟨fun k=>v'.ownBlock=some k,⟨h',fun _=>Iff.rfl⟩,(Keeps.of_grown k).mono (fun k _ hk=>(h1.2 k).2 hk.symm),?_⟩
 intro j hj;refine⟨?_,(h'.lt j hj).2⟩
 rcases hn with e|⟨x,e,hx⟩
 ·exact .inl ((h1.2 _).2 (e ▸ hj))
 ·rw[e]at hj;simp at hj;subst hj;exact .inr hx
def Res.plain:Res→Prop
 | .raw _ _ _=>True
 | .row _ _ _ _ _=>True
 | _=>False
theorem Res.unf{r:Res}{w:World}{S:Nat→Prop}(hp:r.plain)(h:r.holds w S){k:Nat}(hk:S k):Unf w k:=by
 cases r with
 |raw b c T=>obtain⟨h1,h2⟩:=h;rw[(h2 k).1 hk];exact⟨c,T,h1⟩
 |row v T sz n xs=>
  obtain⟨⟨_,h1⟩,h2⟩:=h;have h3:=(h2 k).1 hk
  rcases h1 with ⟨rfl,_⟩|⟨x,cap,cur,rfl,_,hg,_⟩
  ·cases h3
  ·injection h3 with h3;subst h3;exact⟨cur,T,hg⟩
 |inp _ _=>exact hp.elim
 |out _ _=>exact hp.elim
 |gen _=>exact hp.elim
theorem St.freeze{W0 w:World}{K K':Know}{L:List Res}{r:Res}(h:St W0 w K (r::L))(hk:∀F S1,K.p w F→r.holds w S1→K'.p w (fun k=>F k∨(S1 k∧k<w.heap.size)))(hp:r.plain:=by trivial):St W0 w (K.and K') L:=by
 obtain⟨a,S,F,⟨S1,S2,h1,h2,h3,h4⟩,c,d,e⟩:=h;refine⟨a,S2,fun k=>F k∨(S1 k∧k<w.heap.size),h2,fun k hk=>c k ((h4 k).2 (.inr hk)),⟨K.mono _ _ _ d (fun k hk=> .inl hk),hk F S1 d h1⟩,?_⟩;rintro k (hF|⟨hF,hl⟩)
 ·exact⟨(e k hF).1,fun h=>(e k hF).2.1 ((h4 k).2 (.inr h)),(e k hF).2.2⟩
 ·exact⟨hl,h3 k hF,fun _=>Res.unf hp h1 hF⟩
theorem sA{α:Type}{i:Nat}{a:α}{l:List α}:l.toArray.setIfInBounds i a=(l.set i a).toArray:=List.setIfInBounds_toArray l i a
theorem sB{α:Type}{b:α}{a:α}{l:List α}:(a::l).set 0 b=b::l:=List.set_cons_zero
theorem sC{α:Type}{n:Nat}{b:α}{a:α}{l:List α}:(a::l).set (n+1) b=a::l.set n b:=List.set_cons_succ
theorem tQ{P:Program}{md:Region.Mode}{ops:Array Oper}{Q:Exit→Act→World→Prop}{S:World→Prop}(i:Nat)(oi:Oper){v:Value}{fuel:Nat}{listed:Array Bool}{a:Act}{w:World}(h:wpAnyH P md ops Q S fuel (listed.setIfInBounds i true) (a.put oi.dst v) w)(hi:ops[i]? =some oi:=by rfl)(hs:Region.noSelect ops=true:=by kernel_rfl)(hf:Region.free md ops listed i=true:=by kernel_rfl)(hr:(Region.ready md ops listed).contains i=true:=by kernel_rfl)(hQ:∀c a w,Q (.panic c) (a.put oi.dst v) w→Q (.panic c) a w:=by exact fun _ _ _ h=>h)(hy:YieldsIf P ops S oi v a:=by(refine Or.inl ⟨by rfl,?_⟩;intro w hSw;(try dsimp only at hSw);go_simp;try with_reducible rfl))(hS:S w:=by assumption):wpAnyH P md ops Q S (fuel+1) listed a w:=wpAnyH_take hi hs hf hr hQ hy hS h
theorem stQ{W0 w:World}{K:Know}{L:List Res}(h:St W0 w K L:=by first|(first|with_reducible exact H.out|with_reducible exact H.out.p1|with_reducible exact H.out.p2|with_reducible exact H.out.p3|with_reducible exact H.out.p4|with_reducible exact H.out.p5)|((repeat first|with_reducible refine St.drewN ?_ _|with_reducible refine St.drew ?_|with_reducible refine St.alloc ?_ _);first|with_reducible exact H.out|with_reducible exact H.out.p1|with_reducible exact H.out.p2|with_reducible exact H.out.p3|with_reducible exact H.out.p4|with_reducible exact H.out.p5)):St W0 w K L:=h
theorem tR{P:Program}{md:Region.Mode}{ops:Array Oper}{Q:Exit→Act→World→Prop}{S:World→Prop}(i:Nat){oi:Oper}{v:Value}{fuel:Nat}{listed l':Array Bool}{a a':Act}{w:World}(h:wpAnyH P md ops Q S fuel l' a' w)(hi:ops.toList[i]? =some oi:=by rfl)(hs:Region.noSelect ops=true:=by kernel_rfl)(hf:Region.free md ops listed i=true:=by kernel_rfl)(hr:(Region.ready md ops listed).contains i=true:=by kernel_rfl)(hQ:∀c a w,Q (.panic c) (a.put oi.dst v) w→Q (.panic c) a w:=by exact fun _ _ _ h=>h)(hy:YieldsIf P ops S oi v a:=by(refine Or.inl ⟨by rfl,?_⟩;intro w hSw;(try dsimp only at hSw);go_simp;try with_reducible rfl))(hS:S w:=by assumption)(ha:a.put oi.dst v=a':=by(simp only[Act.put,sA,sB,sC];rfl))(hl:listed.setIfInBounds i true=l':=by((try simp only[sA,sB,sC]);rfl)):wpAnyH P md ops Q S (fuel+1) listed a w:=by subst ha;subst hl;exact tQ i oi h (Array.getElem?_toList.symm.trans hi) hs hf hr hQ hy hS
theorem rC{P:Program}{md:Region.Mode}{ops:Array Oper}{Q:Exit→Act→World→Prop}{S:World→Prop}{fuel:Nat}{listed:Array Bool}{a:Act}{w:World}{i:Nat}{o:Oper}{rs:List Nat}(ho:ops.toList[i]? =some o)(h:∀K':Act→World→Prop,Shut (∀a w,S w→(S w→wpAnyH P md ops Q S fuel (listed.setIfInBounds i true) a w)→K' a w)→if Region.wanted o (yielded ops a.tmps)=true then Oper.wp P o a w K' Q else K' (a.put o.dst undef) w)(hs:AllReadyH P md ops Q S fuel listed a w rs):AllReadyH P md ops Q S fuel listed a w (i::rs):=AllReadyH.cons (Array.getElem?_toList.symm.trans ho) h hs
theorem rN{P:Program}{md:Region.Mode}{ops:Array Oper}{Q:Exit→Act→World→Prop}{S:World→Prop}{fuel:Nat}{listed:Array Bool}{a:Act}{w:World}:AllReadyH P md ops Q S fuel listed a w []:=AllReadyH.nil
theorem wR{P:Program}{md:Region.Mode}{ops:Array Oper}{Q:Exit→Act→World→Prop}{S:World→Prop}(rs:List Nat){fuel:Nat}{listed:Array Bool}{a:Act}{w:World}(h:AllReadyH P md ops Q S fuel listed a w rs)(hr:Region.ready md ops listed=rs:=by kernel_rfl)(hne:rs≠[]:=by simp):wpAnyH P md ops Q S (fuel+1) listed a w:=wpAnyH_ready hr hne h
theorem zK{P:Program}{md:Region.Mode}{ops:Array Oper}{Q:Exit→Act→World→Prop}{S:World→Prop}{fuel:Nat}{l l':Array Bool}{K':Act→World→Prop}{a a':Act}{w:World}(hK:Shut (∀a w,S w→(S w→wpAnyH P md ops Q S fuel l a w)→K' a w))(hS:S w)(h:S w→wpAnyH P md ops Q S fuel l' a' w)(ha:a=a':=by((try simp only[Act.put,sA,sB,sC]);rfl))(hl:l=l':=by((try simp only[sA,sB,sC]);rfl)):K' a w:=by subst ha;subst hl;exact hK.out _ _ hS h
theorem _root_.Go.Calls.zM{P:Program}{f:FuncId}{x:Array Value}{w W0:World}{K:Know}{L:List Res}{X:Ending}{R:Ending→World→Prop}(c:Calls P f x w fun e w'=>e=X∧St W0 w' K L)(k:∀w',Hid (St W0 w' K L)→R X w'):Calls P f x w R:=c.mono (by rintro e w' ⟨rfl,h⟩;exact k w' (Lib.hid h))
theorem uR2{W0 w:World}{K:Know}{L:List Res}{b:Nat}{c:Array Value}{T:TypeId}(h:St W0 w K (.raw b c T::L)):w.cell? ⟨b,0,none⟩=c[0]? ∧w.cell? ⟨b,1,none⟩=c[1]? :=⟨h.rawCell 0,h.rawCell 1⟩
theorem uS2{W0 w:World}{K:Know}{L:List Res}{b:Nat}{c:Array Value}{T:TypeId}(h:St W0 w K (.raw b c T::L)):w.frozen? ⟨b,0,none⟩=false∧w.frozen? ⟨b,1,none⟩=false:=⟨h.rawFree 0,h.rawFree 1⟩
theorem uR3{W0 w:World}{K:Know}{L:List Res}{b:Nat}{c:Array Value}{T:TypeId}(h:St W0 w K (.raw b c T::L)):w.cell? ⟨b,0,none⟩=c[0]? ∧w.cell? ⟨b,1,none⟩=c[1]? ∧w.cell? ⟨b,2,none⟩=c[2]? :=⟨h.rawCell 0,h.rawCell 1,h.rawCell 2⟩
theorem uS3{W0 w:World}{K:Know}{L:List Res}{b:Nat}{c:Array Value}{T:TypeId}(h:St W0 w K (.raw b c T::L)):w.frozen? ⟨b,0,none⟩=false∧w.frozen? ⟨b,1,none⟩=false∧w.frozen? ⟨b,2,none⟩=false:=⟨h.rawFree 0,h.rawFree 1,h.rawFree 2⟩
theorem uR4{W0 w:World}{K:Know}{L:List Res}{b:Nat}{c:Array Value}{T:TypeId}(h:St W0 w K (.raw b c T::L)):w.cell? ⟨b,0,none⟩=c[0]? ∧w.cell? ⟨b,1,none⟩=c[1]? ∧w.cell? ⟨b,2,none⟩=c[2]? ∧w.cell? ⟨b,3,none⟩=c[3]? :=⟨h.rawCell 0,h.rawCell 1,h.rawCell 2,h.rawCell 3⟩
theorem uR7{W0 w:World}{K:Know}{L:List Res}{b:Nat}{c:Array Value}{T:TypeId}(h:St W0 w K (.raw b c T::L)):w.cell? ⟨b,0,none⟩=c[0]? ∧w.cell? ⟨b,1,none⟩=c[1]? ∧w.cell? ⟨b,2,none⟩=c[2]? ∧w.cell? ⟨b,3,none⟩=c[3]? ∧w.cell? ⟨b,4,none⟩=c[4]? ∧w.cell? ⟨b,5,none⟩=c[5]? ∧w.cell? ⟨b,6,none⟩=c[6]? :=⟨h.rawCell 0,h.rawCell 1,h.rawCell 2,h.rawCell 3,h.rawCell 4,h.rawCell 5,h.rawCell 6⟩
theorem uR9{W0 w:World}{K:Know}{L:List Res}{b:Nat}{c:Array Value}{T:TypeId}(h:St W0 w K (.raw b c T::L)):w.cell? ⟨b,0,none⟩=c[0]? ∧w.cell? ⟨b,1,none⟩=c[1]? ∧w.cell? ⟨b,2,none⟩=c[2]? ∧w.cell? ⟨b,3,none⟩=c[3]? ∧w.cell? ⟨b,4,none⟩=c[4]? ∧w.cell? ⟨b,5,none⟩=c[5]? ∧w.cell? ⟨b,6,none⟩=c[6]? ∧w.cell? ⟨b,7,none⟩=c[7]? ∧w.cell? ⟨b,8,none⟩=c[8]? :=⟨h.rawCell 0,h.rawCell 1,h.rawCell 2,h.rawCell 3,h.rawCell 4,h.rawCell 5,h.rawCell 6,h.rawCell 7,h.rawCell 8⟩
theorem uR12{W0 w:World}{K:Know}{L:List Res}{b:Nat}{c:Array Value}{T:TypeId}(h:St W0 w K (.raw b c T::L)):w.cell? ⟨b,0,none⟩=c[0]? ∧w.cell? ⟨b,1,none⟩=c[1]? ∧w.cell? ⟨b,2,none⟩=c[2]? ∧w.cell? ⟨b,3,none⟩=c[3]? ∧w.cell? ⟨b,4,none⟩=c[4]? ∧w.cell? ⟨b,5,none⟩=c[5]? ∧w.cell? ⟨b,6,none⟩=c[6]? ∧w.cell? ⟨b,7,none⟩=c[7]? ∧w.cell? ⟨b,8,none⟩=c[8]? ∧w.cell? ⟨b,9,none⟩=c[9]? ∧w.cell? ⟨b,10,none⟩=c[10]? ∧w.cell? ⟨b,11,none⟩=c[11]? :=⟨h.rawCell 0,h.rawCell 1,h.rawCell 2,h.rawCell 3,h.rawCell 4,h.rawCell 5,h.rawCell 6,h.rawCell 7,h.rawCell 8,h.rawCell 9,h.rawCell 10,h.rawCell 11⟩
theorem kR{p:Prop}(h:p:=by kernel_rfl):p:=h
theorem sM{p:Prop}(h:p:=by simp):p:=h
theorem eX{A:Sort _}(a:A):∃x,a=x:=⟨a,rfl⟩
variable {W0 w:World}{K:Know}{L:List Res}
theorem zCJ(b:Nat)(i:InS)(e:Int)(h:St W0 w K (.inp b i::L)):
 Calls Jd 158 #[zAD b,I O e] w fun en w'=>en=Jb (.tuple #[])∧St W0 w' K (.inp b (i.fail e)::L):=
 (zDn b i e w h.inpGet).mono fun _ _ ⟨h1,h2,h3⟩=>⟨h1,h.inp h2 h3⟩
theorem zPJ(b:Nat)(i:InS)(h:St W0 w K (.inp b i::L)):
 Calls Jd 185 #[zAD b] w fun en w'=>en=Jb (I O i.left)∧St W0 w' K (.inp b i::L):=
 (zFJ b i w h.inpGet).mono fun _ _ ⟨h1,n,h2⟩=>⟨h1,h2 ▸ h.drewN n⟩
theorem zH3(b:Nat)(i:InS)(h:St W0 w K (.inp b i::L)):
 Calls Jd 168 #[zAD b] w fun en w'=>en=Jb (I O i.err)∧St W0 w' K (.inp b i::L):=
 (in_err b i w h.inpGet).mono fun _ _ ⟨h1,h2⟩=>⟨h1,h2 ▸ h⟩
theorem zSW(b:Nat)(i:InS)(n:Int)(h:St W0 w K (.inp b i::L)):
 Calls Jd 184 #[zAD b,I O n] w fun en w'=>en=Jb (Z (bb (i.take n).1))∧St W0 w' K (.inp b (i.take n).2::L):=
 (zEx b i n w h.inpGet).mono fun _ _ ⟨h1,h2,h3⟩=>⟨h1,h.inp h2 h3⟩
theorem zDb(b:Nat)(i:InS)(n:Int)(h:St W0 w K (.inp b i::L)):
 Calls Jd 157 #[zAD b,I O n] w fun en w'=>en=Jb (I O (i.int n).1)∧St W0 w' K (.inp b (i.int n).2::L):=
 (in_int b i n w h.inpGet).mono fun _ _ ⟨h1,h2,h3⟩=>⟨h1,h.inp h2 h3⟩
theorem zGQ(b:Nat)(i:InS)(h:St W0 w K (.inp b i::L)):
 Calls Jd 159 #[zAD b] w fun en w'=>en=Jb (I O i.close.err)∧St W0 w' K (.inp b i.close::L):=
 (zSq b i w h.inpGet).mono fun _ _ ⟨h1,h2,h3⟩=>⟨h1,h.inp h2 h3⟩
theorem zEo(s:Bs)(hs:s.length≤140737488355328)(h:St W0 w K L):
 Calls Jd 156 #[Z (bb s)] w fun en w'=>∃b,en=Jb (zAD b)∧St W0 w' K (.inp b ⟨s,0,0⟩::L):=
 (in_new s w hs).mono fun _ _ ⟨h1,h2,h3⟩=>⟨_,h1,h.newInp h2 h3 (Jo _)⟩
theorem zJj(b:Nat)(o:OutS)(e:Int)(h:St W0 w K (.out b o::L)):
 Calls Jd 145 #[zBh b,I O e] w fun en w'=>en=Jb (.tuple #[])∧St W0 w' K (.out b (o.fail e)::L):=by
 obtain⟨g,hg⟩:=h.outGet;exact(zJJ b g o e w hg).mono fun _ _ ⟨h1,h2,h3⟩=>⟨h1,h.out hg h2 h3 (Newer.refl _ _)⟩
theorem zPu(b:Nat)(o:OutS)(s:Bs)(h:St W0 w K (.out b o::L))(hr:o.ok s.length):
 Calls Jd 49 #[zBh b,Z (bb s)] w fun en w'=>en=Jb (.tuple #[])∧St W0 w' K (.out b (o.put s)::L):=by
 obtain⟨g,hg⟩:=h.outGet;exact(zTN b g o s w hg hr).mono fun _ _ ⟨h1,g',h2,h3,h4⟩=>⟨h1,h.out hg h2 h3 h4⟩
theorem zTe(b:Nat)(o:OutS)(c:UInt8)(h:St W0 w K (.out b o::L))(hr:o.ok 1):
 Calls Jd 177 #[zBh b,.int .u8 c.toNat] w fun en w'=>en=Jb (.tuple #[])∧St W0 w' K (.out b (o.put [c])::L):=by
 obtain⟨g,hg⟩:=h.outGet;exact(zGr b g o c w hg hr).mono fun _ _ ⟨h1,g',h2,h3,h4⟩=>⟨h1,h.out hg h2 h3 h4⟩
theorem zSV(b:Nat)(o:OutS)(n size:Int)(hn: -9223372036854775808≤n∧n<9223372036854775808)(h:St W0 w K (.out b o::L))(hr:o.ok 8):
 Calls Jd 148 #[zBh b,I O n,I O size] w fun en w'=>en=Jb (.tuple #[])∧St W0 w' K (.out b (o.int n size)::L):=by
 obtain⟨g,hg⟩:=h.outGet;exact(zTO b g o n size w hg hr hn.1 hn.2).mono fun _ _ ⟨h1,g',h2,h3,h4⟩=>⟨h1,h.out hg h2 h3 h4⟩
theorem zJi(b:Nat)(o:OutS)(h:St W0 w K (.out b o::L)):
 Calls Jd 50 #[zBh b] w fun en w'=>en=Jb (.tuple #[Z (bb o.text.1),I O o.text.2])∧St W0 w' K (.out b o::L):=by
 obtain⟨g,hg⟩:=h.outGet;exact(zSi b g o w hg).mono fun _ _ ⟨h1,n,h2⟩=>⟨h1,h2 ▸ h.drewN n⟩
theorem zIu(s:Bs)(hs:s.length≤8)(h:St W0 w K L):
 Calls Jd 91 #[Z (bb s)] w fun en w'=>en=Jb (I O (sInt s))∧St W0 w' K L:=
 (zPW s w hs).mono fun _ _ ⟨h1,h2⟩=>⟨h1,h2 ▸ h⟩
theorem zDU(n:Int)(k:Nat)(hk:k≤140737488355328)(hn: -9223372036854775808≤n∧n<9223372036854775808)(h:St W0 w K L):
 Calls Jd 62 #[I O n,I O k] w fun en w'=>en=Jb (Z (bb (zAm n k)))∧St W0 w' K L:=
 (zKD n k w hk hn.1 hn.2).mono fun _ _ ⟨h1,h2⟩=>⟨h1,h.quiet h2 (fun _ _ h=>h)⟩
theorem zL0(n size:Int)(hn: -9223372036854775808≤n∧n<9223372036854775808)(h:St W0 w K L):
 Calls Jd 63 #[I O n,I O size] w fun en w'=>en=Jb (U (decide (fits n size)))∧St W0 w' K L:=
 (zRZ n size w hn.1 hn.2).mono fun _ _ ⟨h1,h2⟩=>⟨h1,h.quiet h2 (fun _ _ h=>h)⟩
def zEg (P:Program) (e:TypeId) (z:Value) (size bytes:Nat):Prop:=
 (∃i,P.info? e=some i∧i.zero=some z∧i.size=size∧i.bytes=bytes)∧z.cells.size=size∧0<size
theorem zB8{P:Program}{e:TypeId}{z:Value}{size bytes:Nat}(h:(P.info? e).map (fun i=>(i.zero,i.size,i.bytes))=some (some z,size,bytes))(h1:z.cells.size=size)(h2:0<size):zEg P e z size bytes:=by
 obtain⟨i,a,b,c,d⟩:=info_parts h;exact⟨⟨i,a,b,c,d⟩,h1,h2⟩
theorem zLE(w:World)(c:List Value)(T:TypeId):∀j u,c[j]? =some u→(w.alloc (.cells c.toArray T)).cell? ((⟨w.heap.size,0,none⟩:Addr).add j)=some u:=by
 intro j u hj;have ha:(⟨w.heap.size,0,none⟩:Addr).add j=⟨w.heap.size,j,none⟩:=by unfold Addr.add;split<;>simp_all
 rw[ha,zAO (heap_alloc_new w _) j]
 simpa using hj
theorem St.rowLit(h:St W0 w K L)(c:List Value)(T:TypeId)(sz n:Nat)(hc:c.length=n*sz)(hn:n≤maxLen):
 St W0 (w.alloc (.cells c.toArray T)) K (.row (Ja (some ⟨w.heap.size,0,none⟩) n n) T sz n c::L):=
 h.new (S1:=fun k=>k=w.heap.size) ((Keeps.refl _ _).alloc _)
  ⟨⟨hc,.inr ⟨w.heap.size,n,c.toArray,rfl,Ji _,heap_alloc_new w _,Jo _,hn,by simpa using hc,by simp[←hc]⟩⟩,fun k=>by simp[Value.ownBlock];exact eq_comm⟩ (by rintro j rfl;simp)
theorem zDR{ops:Array Oper}{rest:List Oper}{o:Oper}{a:Act}{Q:Exit→Act→World→Prop}(hgd:o.guard=none)(sl x:Operand)(t:TypeId)
 (ho:o.op=.call {callee:=.builtin .append,args:= #[sl,x],argTypes:= #[t,t]})
 (e:TypeId){z:Value}{size bytes:Nat}(ht:Tryz.prog.underlying t=some (.slice e))(he:zEg Jd e z size bytes)
 (v:Value)(n:Nat)(xs:List Value)(hs:a.eval sl=v)(hst:St W0 w K (.row v e size n xs::L))
 (ad:Addr)(m c:Nat)(news:List Value)(hx:a.eval x=Ja (some ad) m c)(hl:news.length=m*size)(hnews:∀j u,news[j]? =some u→w.cell? (ad.add j)=some u)(h1:∀u∈news,u.oneCell'=true)
 (h63:n+m≤maxLen)(hbytes:(n+m)*bytes≤140737488355328)
 (h:∀v' w',St W0 w' K (.row v' e size (n+m) (xs++news)::L)→wpList Jd ops Q rest (a.put o.dst v') w'):wpList Jd ops Q (o::rest) a w:=by
 obtain⟨⟨i,g1,g2,g3,g4⟩,g5,g6⟩:=he
 exact zGB hgd sl x t ho e i z size bytes ht g1 g2 g3 g4 g5 g6 v n xs hs hst.rowGet ad m c news hx hl hnews h1 h63 hbytes
  fun v' w' k1 k2 k3=>h v' w' (hst.rowGrown k1 k2 k3)
theorem zAC{ops:Array Oper}{rest:List Oper}{o:Oper}{a:Act}{Q:Exit→Act→World→Prop}(hgd:o.guard=none)(sl x:Operand)(t:TypeId)
 (ho:o.op=.call {callee:=.builtin .append,args:= #[sl,x],argTypes:= #[t,t]})
 (e:TypeId){z:Value}{size bytes:Nat}(ht:Tryz.prog.underlying t=some (.slice e))(he:zEg Jd e z size bytes)
 (v:Value)(n:Nat)(xs:List Value)(hs:a.eval sl=v)(hst:St W0 w K (.row v e size n xs::L))
 (news:List Value)(T:TypeId)(hx:a.eval x=Ja (some ⟨w.heap.size,0,none⟩) 1 1)(hl:news.length=size)(h1:∀u∈news,u.oneCell'=true)
 (h63:n+1≤maxLen)(hbytes:(n+1)*bytes≤140737488355328)
 (h:∀v' w',St W0 w' K (.row v' e size (n+1) (xs++news)::L)→wpList Jd ops Q rest (a.put o.dst v') w'):wpList Jd ops Q (o::rest) a (w.alloc (.cells news.toArray T)):=
 zDR hgd sl x t ho e ht he v n xs hs (hst.alloc _) ⟨w.heap.size,0,none⟩ 1 1 news hx oM (zLE w news T) h1 h63 hbytes h
theorem St.rowSlice{v:Value}{T:TypeId}{sz n:Nat}{xs:List Value}(h:St W0 w K (.row v T sz n xs::L))(hn:0<n):∃g cap,v=Ja (some ⟨g,0,none⟩) n cap:=by
 rcases h.rowGet.2 with ⟨_,h0⟩|⟨g,cap,_,rfl,_⟩
 ·omega
 ·exact⟨g,cap,rfl⟩
theorem St.rowAny{v:Value}{T:TypeId}{sz n:Nat}{xs:List Value}(h:St W0 w K (.row v T sz n xs::L)):∃p cap,v=Ja p n cap:=by
 rcases h.rowGet.2 with ⟨rfl,h0⟩|⟨g,cap,_,rfl,_⟩
 ·exact⟨none,0,by rw[h0]⟩
 ·exact⟨_,cap,rfl⟩
theorem St.rowCell{g cap:Nat}{T:TypeId}{sz n:Nat}{xs:List Value}(h:St W0 w K (.row (Ja (some ⟨g,0,none⟩) n cap) T sz n xs::L))(j:Nat)(hj:j<n*sz):w.cell? ⟨g,j,none⟩=xs[j]? :=h.rowGet.cellAt j hj
theorem St.rowFree{g cap:Nat}{T:TypeId}{sz n:Nat}{xs:List Value}(h:St W0 w K (.row (Ja (some ⟨g,0,none⟩) n cap) T sz n xs::L))(j:Nat):w.frozen? ⟨g,j,none⟩=false:=h.rowGet.frozenAt j
theorem St.rowSet{g cap:Nat}{T:TypeId}{sz n:Nat}{xs:List Value}(h:St W0 w K (.row (Ja (some ⟨g,0,none⟩) n cap) T sz n xs::L))(j:Nat)(u:Value):
 St W0 (w.setCell ⟨g,j,none⟩ u) K (.row (Ja (some ⟨g,0,none⟩) n cap) T sz n (xs.set j u)::L):=by
 refine h.step fun S1 h1=>⟨S1,⟨(h1.1.stored j u).1,h1.2⟩,(Keeps.refl _ _).setCell _ _ (.inl ((h1.2 g).2 rfl)),fun k hk=>⟨.inl hk,?_⟩⟩
 have:=(h1.1.lt k ((h1.2 k).1 hk)).2
 simpa using this
theorem St.rowText{v:Value}{s:Bs}{n:Nat}(h:St W0 w K (.row v 5 1 n (zAu s)::L))(hn:n=s.length):(convert 57 9 v).run Jd w=.ok (Z (bb s)) w:=by
 subst hn;exact zHw h.rowGet
theorem zJU:zEg Jd 5 (.int .u8 0) 1 1:=zB8 kR rfl dD
set_option maxHeartbeats 8000000
set_option maxRecDepth 100000
variable {W0 w:World}{K:Know}{L:List Res}
theorem zGI(b:Nat)(o:OutS)(n:Int)(hn: -9223372036854775808≤n∧n<9223372036854775808)(h:St W0 w K (.out b o::L))(hr:o.ok 16):
 Calls Jd 179 #[zBh b,I O n] w fun en w'=>en=Jb (.tuple #[])∧St W0 w' K (.out b (o.putInt n)::L):=by
 obtain⟨g,hg⟩:=h.outGet;exact(zNV b g o n w hg hr hn.1 hn.2).mono fun _ _ ⟨h1,g',h2,h3,h4⟩=>⟨h1,h.out hg h2 h3 h4⟩
theorem zN2(b:Nat)(o:OutS)(n:Int)(hn: -9223372036854775808≤n∧n<9223372036854775808)(h:St W0 w K (.out b o::L))(hr:o.ok 16):
 Calls Jd 178 #[zBh b,I O n] w fun en w'=>en=Jb (.tuple #[])∧St W0 w' K (.out b (o.putLong n)::L):=by
 obtain⟨g,hg⟩:=h.outGet;exact(zLZ b g o n w hg hr hn.1 hn.2).mono fun _ _ ⟨h1,g',h2,h3,h4⟩=>⟨h1,h.out hg h2 h3 h4⟩
theorem zFR(top:Nat)(ht:top<128):∀(f read n:Nat) (i:InS),n<128 ^ read→(digs top (f+1) read n i).1<(top+1)*128 ^ (read+f)
 |0,read,n,i,hn=>by
  have hp:0<128 ^ read:=Nat.pow_pos dD;have h0:0<(top+1)*128 ^ read:=Nat.mul_pos oM hp;unfold digs
  split
  ·exact h0
  ·split
   ·exact h0
   ·rename_i hb
    split
    ·unfold digs;split<;>exact h0
    ·rename_i c t _ _
     have hd:c.toNat % 128≤top:=by
      have:¬(top<c.toNat % 128):=fun h=>hb (.inl ⟨rfl,h⟩)
      omega
     have:c.toNat % 128*128 ^ read≤top*128 ^ read:=Nat.mul_le_mul_right _ hd;rw[Nat.add_mul];simp only[Nat.add_zero]
     omega
 |f+1,read,n,i,hn=>by
  have h0:0<(top+1)*128 ^ (read+(f+1)):=Nat.mul_pos oM (Nat.pow_pos dD);unfold digs
  split
  ·exact h0
  ·split
   ·exact h0
   ·split
    ·rename_i c t _ _ _
     have:=zFR top ht f (read+1) _ (i.take 1).2 (zD6 hn (Nat.mod_lt c.toNat (by decide:128>0)));rw[show read+1+f=read+(f+1) by omega]at this;exact this
    ·refine Nat.lt_of_lt_of_le (zD6 hn (Nat.mod_lt _ dD)) ?_;have h1:128 ^ (read+1)≤128 ^ (read+(f+1)):=Nat.pow_le_pow_right dD oM;exact Nat.le_trans h1 (Nat.le_mul_of_pos_left _ oM)
def InS.short (i:InS):Nat×InS:=digs 15 5 0 0 i
def InS.long (i:InS):Nat×InS:=digs 1 10 0 0 i
def InS.vint (i:InS):Int×InS:=(zAV i.short.1,i.short.2)
def InS.vlong (i:InS):Int×InS:=(zAV i.long.1,i.long.2)
theorem zNi(i:InS):i.short.1<4294967296:=zFR 15 dD 4 0 0 i dD
theorem zTV(i:InS):i.long.1<18446744073709551616:=zFR 1 dD 9 0 0 i dD
theorem zM3(u:Nat)(h:u<18446744073709551616): -9223372036854775808≤zAV u∧zAV u<9223372036854775808:=by
 unfold zAV;split<;>omega
theorem zFc(u:Nat)(h:u<4294967296): -2147483648≤zAV u∧zAV u<2147483648:=by
 unfold zAV;split<;>omega
theorem InS.vint_range(i:InS): -2147483648≤i.vint.1∧i.vint.1<2147483648:=zFc _ (zNi i)
theorem zKo(b:Nat)(i:InS)(most top:Nat)(hm:most≤10)(ht:most=10→top≤1)(htop:top<128)(h:St W0 w K (.inp b i::L)):
 Calls Jd 222 #[zAD b,I O most,.int .u64 top] w fun en w'=>en=Jb (.int .u64 (digs top most 0 0 i).1)∧St W0 w' K (.inp b (digs top most 0 0 i).2::L):=
 (zNW b i most top w h.inpGet hm ht htop).mono fun _ _ ⟨h1,h2,h3⟩=>⟨h1,h.inp h2 h3⟩
theorem zKn(u:Nat)(hu:u<18446744073709551616)(h:St W0 w K L):
 Calls Jd 221 #[.int .u64 u] w fun en w'=>en=Jb (I O (zAV u))∧St W0 w' K L:=
 (zNU u w hu).mono fun _ _ ⟨h1,h2⟩=>⟨h1,h2 ▸ h⟩
theorem zRM(b:Nat)(i:InS)(h:St W0 w K (.inp b i::L)):
 Calls Jd 223 #[zAD b] w fun en w'=>en=Jb (.int .u64 i.short.1)∧St W0 w' K (.inp b (i.short).2::L):=by
 have H:=hQd h;clear h;go_enter Tryz.func223,Tryz.ntmps223
 go_wp2_with (first
  |(go_at_call 222;refine(zKo b i 5 15 dD dD dD stQ).zM ?_;clear H;intro wn H))
 go_ret;exact⟨rfl,H.out⟩
theorem zGJ(b:Nat)(i:InS)(h:St W0 w K (.inp b i::L)):
 Calls Jd 218 #[zAD b] w fun en w'=>en=Jb (I O i.vint.1)∧St W0 w' K (.inp b (i.vint).2::L):=by
 have H:=hQd h;clear h;have hl:=hQd (zNi i);go_enter Tryz.func218,Tryz.ntmps218
 go_wp2_with (first
  |(go_at_call 223;refine(zRM b i stQ).zM ?_;clear H;intro wn H)
  |(go_at_call 221;refine(zKn _ (by have:=hl.out;omega) stQ).zM ?_;clear H;intro wn H))
 go_ret;exact⟨rfl,H.out⟩
theorem zJf(b:Nat)(i:InS)(h:St W0 w K (.inp b i::L)):
 Calls Jd 217 #[zAD b] w fun en w'=>en=Jb (I O i.vlong.1)∧St W0 w' K (.inp b (i.vlong).2::L):=by
 have H:=hQd h;clear h;have hl:=hQd (zTV i);go_enter Tryz.func217,Tryz.ntmps217
 go_wp2_with (first
  |(go_at_call 222;refine(zKo b i 10 1 dD dD dD stQ).zM ?_;clear H;intro wn H)
  |(go_at_call 221;refine(zKn _ hl.out stQ).zM ?_;clear H;intro wn H))
 go_ret;exact⟨rfl,H.out⟩
variable {W0 w:World}{K:Know}{L:List Res}
theorem zOo(u:Nat)(hu:u<18446744073709551616)(h:St W0 w K L):
 Calls Jd 124 #[.int .u64 u] w fun en w'=>∃v,en=Jb v∧St W0 w' K (.row v 5 1 (digN u).length (zAu (digN u))::L):=by
 have H:=hQd h;have HU:=hQd hu;have HL:=hQd (zCp u hu);have hl1:=(H.out.rowLit [.int .u8 (u % 128)] 5 1 1 rfl dD);have H1:=hQd hl1;have hw:IntKind.u8.wrap (IntKind.u64.wrap ((u:Int) % 128))=((u:Int) % 128):=by rw[IntKind.wrap_u64,IntKind.wrap_u8];omega
 have hw2:IntKind.u8.wrap ((u:Int) % 128)=((u:Int) % 128):=by rw[IntKind.wrap_u8];omega
 clear h hu hl1;go_enter Tryz.func124,Tryz.ntmps124;go_wp2;go_loopw [0,3] (fun nv ov wr=>∃(v:Nat) (pre:Bs),nv=.int .u64 v∧v≤u∧pre++digN v=digN u∧St W0 wr K (.row ov 5 1 (pre.length+1) (zAu (pre++[UInt8.ofNat (v % 128)]))::L)) (fun nv _ _=>(intOf nv).toNat)
 case atStart=>
  refine⟨u,[],rfl,Jo _,rfl,?_⟩;rw[zLG];exact H1.out
 case round=>
  obtain⟨v,pre,rfl,hv,hd,hs⟩:=hrel;have HV:=hQd hv;have HD:=hQd hd;have HS:=hQd hs;clear hv hs
  by_cases hlt:v<128
  ·have hp:=zFS hlt;rw[hp]at hd;have HP:=hQd hd;clear hp hd;go_wp2;go_ret;refine⟨_,rfl,?_⟩;have h1:=HS.out;rw[Nat.mod_eq_of_lt hlt,HP.out]at h1;have h2:pre.length+1=(digN u).length:=by rw[←HP.out];simp
   rw[h2]at h1;exact h1
  ·have hp:=zJX hlt;rw[hp]at hd
   have hlen:pre.length+2≤11:=by
    have h1:=HL.out;rw[←zHT,←hd]at h1;simp at h1
    omega
   have HP:=hQd hd
   have hq:IntKind.u64.wrap ((v:Int) / 128)=((v / 128:Nat):Int):=by
    have:=HV.out;have:=HU.out;rw[IntKind.wrap_u64];omega
   have HN:=hQd hlen;clear hp hd;go_wp2_with (at_builtin;refine zAC rfl _ _ 57 rfl 5 Tryz.underlying57 zJU _ _ _ rfl HS.out [.int .u8 (((v / 128:Nat):Int) % 128)] 5 rfl rfl (by simp[Value.oneCell']) (by have:=HN.out;unfold maxLen;omega) (by have:=HN.out;omega) ?_;intro v' w' h;have HS2:=hQd h;clear h);go_roundw
   case rel=>
    refine⟨v / 128,pre++[UInt8.ofNat (v % 128)],rfl,by have:=HV.out;omega,by rw[←HP.out];simp,?_⟩;have h1:=HS2.out;rw[←zLG]at h1;rw[Je];exact h1
   case measure=>first|(simp[intOf];done)|(simp[intOf];omega)
theorem zPV(u:Nat)(hu:u<18446744073709551616)(h:St W0 w K L):
 Calls Jd 92 #[.int .u64 u] w fun en w'=>en=Jb (Z (bb (putU u)))∧St W0 w' K L:=by
 have H:=hQd h;have HU:=hQd hu;have hl:=zCp u hu;rw[←zHT]at hl;have hpos:=zSD u;have HM:=hQd (zQj u);have HLT:=hQd (zUd u);clear h hu;go_enter Tryz.func92,Tryz.ntmps92;go_wp2_with (go_at_call 124;refine(zOo u HU.out H.out).mono ?_;rintro e w1 ⟨v,rfl,h1⟩;have HR:=hQd h1;clear h1);generalize digN u=ds at*;obtain⟨g,cap,hv⟩:=HR.out.rowSlice hpos;subst hv;go_wp2;go_loopw [4] (fun iv wr=>∃i:Nat,i≤ds.length - 1∧iv=I O i∧St W0 wr K (.row (Ja (some ⟨g,0,none⟩) ds.length cap) 5 1 ds.length (zAu (mk ds i))::L)) (fun iv _=>ds.length - (intOf iv).toNat)
 case atStart=>exact⟨0,Ji _,rfl,by rw[zTS];exact HR.out⟩
 case round=>
  obtain⟨i,hi,rfl,hs⟩:=hrel;have HS:=hQd hs;clear hs
  by_cases hlt:i<ds.length - 1
  ·have hil:i<ds.length:=by omega
   have hc:=HS.out.rowCell i oM;have hf:=HS.out.rowFree i;have hg:=mk_get ds i hil;have hb:(zAu (mk ds i))[i]? =some (.int .u8 ds[i].toNat):=by simp only[zAu,List.getElem?_map,hg,Option.map_some]
   rw[hb]at hc;have hset:=zTT ds i hil;have hsm:=HLT.out ds[i] (Jp hil);generalize ds[i]=c at*;have hw:IntKind.u8.wrap ((c.toNat:Int)+128)=((c.toNat:Int)+128):=by rw[IntKind.wrap_u8];omega
   have HSET:=hQd hset;clear hg hb hset;go_wp2;go_roundw
   case rel=>
    refine⟨i+1,oM,by go_num,?_⟩;have h1:=HS.out.rowSet i (.int .u8 ((c.toNat:Int)+128))
    have e:Value.int .u8 ((c.toNat:Int)+128)=.int .u8 ((UInt8.ofNat (c.toNat+128)).toNat:Int):=by
     congr 1
     simp
     omega
    rw[←HSET.out,←zRo,←e];exact h1
   case measure=>first|(simp[intOf];done)|(simp[intOf];omega)
  ·have hie:i=ds.length - 1:=by omega
   have hconv:=HS.out.rowText (s:=mk ds i) (zLb ds i).symm;have HI:=hQd hie;clear hie;go_wp2;go_ret;exact⟨zPU (by rw[HM.out,HI.out]),HS.out.drop⟩
variable {W0 w:World}{K:Know}{L:List Res}
theorem zNt(n:Int)(hn: -9223372036854775808≤n∧n<9223372036854775808)(h:St W0 w K L):
 Calls Jd 93 #[I O n] w fun en w'=>en=Jb (.int .u64 (zBj n))∧St W0 w' K L:=by
 have H:=hQd h;have HN:=hQd hn;clear h hn
 by_cases h0:n<0
 ·go_enter Tryz.func93,Tryz.ntmps93;go_wp2;go_ret;refine⟨zDd ?_,H.out⟩;have:=HN.out;simp only[IntKind.wrap_u64,wrap64,zBj,if_pos h0]
  omega
 ·go_enter Tryz.func93,Tryz.ntmps93;go_wp2;go_ret;refine⟨zDd ?_,H.out⟩;have:=HN.out;simp only[IntKind.wrap_u64,zBj];rw[if_neg oM]
  omega
theorem zNu(u:Nat)(hu:u<18446744073709551616)(h:St W0 w K L):
 Calls Jd 154 #[.int .u64 u] w fun en w'=>en=Jb (I O (zAV u))∧St W0 w' K L:=by
 have H:=hQd h;have HU:=hQd hu;clear h hu
 by_cases h0:u % 2=1
 ·have h1:(((u:Int) % 2)==1)=true:=by simp;omega
  go_enter Tryz.func154,Tryz.ntmps154;go_wp2;go_ret;refine⟨zDd ?_,H.out⟩;have:=HU.out;simp only[zAV,if_pos h0,IntKind.wrap_u64,wrap64]
  omega
 ·have h1:(((u:Int) % 2)==1)=false:=by simp;omega
  go_enter Tryz.func154,Tryz.ntmps154;go_wp2;go_ret;refine⟨zDd ?_,H.out⟩;have:=HU.out;simp only[zAV,if_neg h0,IntKind.wrap_u64,wrap64]
  omega
def zHq (i:Nat):Nat:=128 ^ i % 18446744073709551616
theorem zMr(i:Nat):IntKind.u64.wrap ((zHq i:Int)*128)=(zHq (i+1):Int):=by
 unfold zHq;rw[IntKind.wrap_u64,Nat.pow_succ]
 omega
theorem zKY(i:Nat)(h:i≤9):zHq i=128 ^ i:=by
 unfold zHq;have:(128:Nat) ^ i≤128 ^ 9:=Nat.pow_le_pow_right dD h;exact Nat.mod_eq_of_lt (Nat.lt_of_le_of_lt this dD)
theorem zLU(n d i:Nat)(hn:n<128 ^ i)(hi:i≤9)(hd:d<128)(h9:i=9→d≤1):
 IntKind.u64.wrap ((n:Int)+IntKind.u64.wrap ((d:Int)*(zHq i:Int)))=((n+d*128 ^ i:Nat):Int):=by
 rw[zKY i hi];have hle:(128:Nat) ^ i≤128 ^ 9:=Nat.pow_le_pow_right dD hi;have p9:(128:Nat) ^ 9=9223372036854775808:=by decide
 have p8:(128:Nat) ^ 8=72057594037927936:=by decide
 have hb:d*128 ^ i+128 ^ i≤18446744073709551616:=by
  by_cases h:i=9
  ·exact zq31
  ·have h8:(128:Nat) ^ i≤128 ^ 8:=Nat.pow_le_pow_right dD oM;have:(d+1)*128 ^ i≤128*128 ^ 8:=Nat.mul_le_mul oM h8;rw[Nat.add_mul,Nat.one_mul,p8]at this
   omega
 have e:(d:Int)*((128 ^ i:Nat):Int)=((d*128 ^ i:Nat):Int):=by push_cast;rfl
 rw[e];generalize d*128 ^ i=m at*;generalize 128 ^ i=p at*;rw[IntKind.wrap_u64,IntKind.wrap_u64]
 omega
def getV (r:Except Int (Nat×Nat)):Value:=.tuple #[.int .u64 (vN r),I O (vK r),I O (vE r)]
theorem zEX{x:Int}{m i:Nat}(h:x=m):Ending.returned (.tuple #[.int .u64 x,I O ((i:Int)+1),I O 0])=Ending.returned (getV (.ok (m,i+1))):=by
 subst h;simp[getV,vN,vK,vE]
theorem s_drop(s:Bs)(i:Nat)(h:i<s.length):s.drop i=s[i]::s.drop (i+1):=List.drop_eq_getElem_cons h
theorem zK7(k:Nat)(h:k<7):IntKind.u64.wrap (IntKind.u64.wrap ((((2 ^ k - 1:Nat):Int))*2)+1)=((2 ^ (k+1) - 1:Nat):Int):=by
 have:k=0∨k=1∨k=2∨k=3∨k=4∨k=5∨k=6:=by omega
 rcases this with rfl|rfl|rfl|rfl|rfl|rfl|rfl<;>decide+kernel
theorem zq32{p:Prop}(h:p:=by
 go_round
 case rel=>exact⟨k+1,oM,by go_num,rfl⟩
 case measure=>first|(simp[intOf];done)|(simp[intOf];omega)):p:=h
theorem zFt(s:Bs)(bits most top b0:Nat)(hl:s.length≤140737488355328)(hb:bits=7*(most - 1)+b0)(hm:1≤most∧most≤10)(ht:top+1=2 ^ b0)(h0:1≤b0∧b0≤7)(h10:most=10→b0=1)(h:St W0 w K L):
   Calls Jd 152 #[Z (bb s),I O bits] w fun en w'=>en=Jb (getV (zAT top most 0 0 s))∧St W0 w' K L:=by
 have H:=hQd h;clear h;have HB:=hQd (And.intro hb (And.intro hm (And.intro ht (And.intro h0 h10))));have hbits:bits≤70:=by omega
 clear hb hm ht h0 h10;go_enter Tryz.func152,Tryz.ntmps152;go_wp2
 go_loop [7,8,9,10] (fun nv ov uv iv=>∃(i n f:Nat),i≤s.length∧iv=I O i∧uv=I O ((7*i:Nat):Int)∧nv=.int .u64 n∧ov=.int .u64 (zHq i)∧n<128 ^ i∧f+i=most∧zAT top f i n (s.drop i)=zAT top most 0 0 s) (fun _ _ _ iv=>s.length - (intOf iv).toNat)
 case atStart=>exact⟨0,0,most,Ji _,rfl,rfl,rfl,rfl,dD,rfl,rfl⟩
 case round=>
   obtain⟨i,n,f,hi,rfl,rfl,rfl,rfl,hn,hf,hv⟩:=hrel;have HV:=hQd hv;have HN:=hQd hn;have HF:=hQd hf;have hi10:i≤10:=by have:=HB.out.2.1;omega
   clear hv hn hf
   by_cases hlt:i<s.length
   · have hd:=s_drop s i hlt;have hc:=s[i].toNat_lt;have HD:=hQd hd;have HP:=hQd (zMr i);clear hd;obtain⟨room,hroom⟩:∃room:Int,room=(bits:Int) - (7*i:Nat):=⟨_,rfl⟩
     match f,HF with
     |0,HF=>
       have hr1:(bits:Int) - 7*(i:Int)<1:=by obtain⟨a,b,c,d,e⟩:=HB.out;have:=HF.out;omega
       go_wp2
       go_loop [13,14] (fun mv kv=>∃k:Nat,k≤0∧kv=I O k) (fun _ kv=>0 - (intOf kv).toNat)
       case atStart=>exact⟨0,dD,rfl⟩
       case round=>
         obtain⟨k,hk,rfl⟩:=hrel;have hk:k=0:=by omega
         subst hk;go_wp2;go_ret3;rw[←HV.out,HD.out,zJb];exact⟨rfl,H.out⟩
     |1,HF=>
       obtain⟨ro,hro,hr7,hr1,hrt⟩:∃ro:Nat,(bits:Int) - 7*(i:Int)=ro∧ro≤7∧1≤ro∧2 ^ ro=top+1:=by obtain⟨a,b,c,d,e⟩:=HB.out;have:=HF.out;exact⟨b0,oM,oM,oM,c.symm⟩
       have HRT:=hQd hrt;clear hrt;go_wp2
       go_loop [13,14] (fun mv kv=>∃k:Nat,k≤ro∧kv=I O k∧mv=.int .u64 ((2 ^ k - 1:Nat):Int)) (fun _ kv=>ro - (intOf kv).toNat)
       case atStart=>exact⟨0,Ji _,rfl,rfl⟩
       case round=>
         obtain⟨k,hk,rfl,rfl⟩:=hrel
         by_cases hk7:k<ro
         · have HO:=zK7 k oM;go_wp2
           exact zq32
         · have hk:k=ro:=by omega
           subst hk;rw[HRT.out,Nat.add_sub_cancel];have hcc:(((s[i].toNat % 128:Nat):Int))=(s[i].toNat:Int) % 128:=by omega
           have HAA:=hQd (fun(hd:i=9→s[i].toNat % 128≤1)=>zLU n (s[i].toNat % 128) i HN.out (by have:=HF.out;have:=HB.out.2.1;omega) oM hd);rw[hcc]at HAA;have T9:=hQd (show i=9→top≤1 by intro h9;obtain⟨a,b,c,d,e⟩:=HB.out;have:=HF.out;have:=e oM;subst this;simp at c;omega);clear hcc;go_wp2
           all_goals first
             |(go_ret3;rw[←HV.out,HD.out,zKi oM];exact⟨rfl,H.out⟩)
             | (refine ⟨⟨i + 1, n + s[i].toNat % 128 * 128 ^ i, 0, hlt, by go_num, ?_, ?_, ?_, zD6 HN.out oM, by have := HF.out; omega, ?_⟩, ?_⟩
                · exact congrArg _ oM
                · exact congrArg _ (HAA.out (fun h9=>by have:=T9.out h9;omega))
                · first|exact congrArg _ HP.out|rfl
                · rw[←HV.out,HD.out,zFg oM oM]
                · first|(simp[intOf];done)|(simp[intOf];omega))
             |(go_ret3;rw[←HV.out,HD.out,zFh oM oM];have hA:=HAA.out (fun h9=>by have:=T9.out h9;omega);first|exact⟨zEX hA,H.out⟩|(have h00:s[i].toNat=0:=(by assumption);have hA2:IntKind.u64.wrap (↑n+IntKind.u64.wrap 0)=((n+s[i].toNat % 128*128 ^ i:Nat):Int):=(by simpa [h00]using hA);exact⟨zEX hA2,H.out⟩))
     |f+2,HF=>
       have hr1:(7:Int)<(bits:Int) - 7*(i:Int):=by obtain⟨a,b,c,d,e⟩:=HB.out;have:=HF.out;omega
       go_wp2
       go_loop [13,14] (fun mv kv=>∃k:Nat,k≤7∧kv=I O k∧mv=.int .u64 ((2 ^ k - 1:Nat):Int)) (fun _ kv=>7 - (intOf kv).toNat)
       case atStart=>exact⟨0,dD,rfl,rfl⟩
       case round=>
         obtain⟨k,hk,rfl,rfl⟩:=hrel
         by_cases hk7:k<7
         · have HO:=zK7 k hk7;go_wp2
           exact zq32
         · have hk:k=7:=by omega
           subst hk;have hcc:(((s[i].toNat % 128:Nat):Int))=(s[i].toNat:Int) % 128:=by omega
           have HAA:=hQd (fun(hd:i=9→s[i].toNat % 128≤1)=>zLU n (s[i].toNat % 128) i HN.out (by have:=HF.out;have:=HB.out.2.1;omega) oM hd);rw[hcc]at HAA;have T9:=hQd (show i=9→False by intro h9;obtain⟨a,b,c,d,e⟩:=HB.out;have:=HF.out;omega);clear hcc;go_wp2
           all_goals first
             |(go_ret3;rw[←HV.out,HD.out,zKi oM];exact⟨rfl,H.out⟩)
             | (refine ⟨⟨i + 1, n + s[i].toNat % 128 * 128 ^ i, f + 1, hlt, by go_num, ?_, ?_, ?_, zD6 HN.out oM, by have := HF.out; omega, ?_⟩, ?_⟩
                · exact congrArg _ oM
                · exact congrArg _ (HAA.out (fun h9=>by have:=T9.out h9;omega))
                · first|exact congrArg _ HP.out|rfl
                · rw[←HV.out,HD.out,zFg oM oM]
                · first|(simp[intOf];done)|(simp[intOf];omega))
             |(go_ret3;rw[←HV.out,HD.out,zFh oM oM];have hA:=HAA.out (fun h9=>by have:=T9.out h9;omega);first|exact⟨zEX hA,H.out⟩|(have h00:s[i].toNat=0:=(by assumption);have hA2:IntKind.u64.wrap (↑n+IntKind.u64.wrap 0)=((n+s[i].toNat % 128*128 ^ i:Nat):Int):=(by simpa [h00]using hA);exact⟨zEX hA2,H.out⟩))
   · go_wp2;go_ret3;have:s.drop i=[]:=List.drop_of_length_le oM;have h1:=HV.out;rw[this,zEl]at h1;rw[←h1];exact⟨rfl,H.out⟩
theorem zFf(top:Nat)(ht:top<128):∀(f r n u:Nat) (rest:Bs),u<(top+1)*128 ^ f→(r=0∨0<u)→zAT top (f+1) r n (putU u++rest)=.ok (n+u*128 ^ r,r+(putU u).length)
 |f,r,n,u,rest,hu,hr=>by
  by_cases h:u<128
  ·have h1:u % 256=u:=by omega
   have h2:(UInt8.ofNat u).toNat=u:=by simp[h1]
   rw[zCu h,List.singleton_append,zFh]
   ·rw[h2,Nat.mod_eq_of_lt h];rfl
   ·rw[h2,Nat.mod_eq_of_lt h];rintro(⟨rfl,h⟩|⟨h,h',_⟩)
    ·simp at hu;omega
    ·omega
   ·rw[h2];omega
  ·have h2:(UInt8.ofNat (u % 128+128)).toNat=u % 128+128:=by simp;omega
   match f,hu with
   |0,hu=>simp at hu;omega
   |f+1,hu=>
    rw[zEQ h,List.cons_append,zFg]
    ·have hq:u / 128<(top+1)*128 ^ f:=by
      rw[Nat.pow_succ,←Nat.mul_assoc]at hu;exact Nat.div_lt_of_lt_mul (by rw[Nat.mul_comm];exact hu)
     rw[zFf top ht f (r+1) _ (u / 128) rest hq (.inr oM),h2];have e1:(u % 128+128) % 128=u % 128:=by omega
     rw[e1,Nat.pow_succ]
     have e2:u % 128*128 ^ r+u / 128*(128 ^ r*128)=u*128 ^ r:=by
      have:u / 128*(128 ^ r*128)=(u / 128*128)*128 ^ r:=by rw[Nat.mul_comm (128 ^ r),Nat.mul_assoc]
      rw[this,←Nat.add_mul]
      congr 1
      omega
     have e3:(UInt8.ofNat (u % 128+128)::putU (u / 128)).length=1+(putU (u / 128)).length:=by simp;omega
     rw[e3,Jm,e2,Jm]
    ·rw[h2];rintro(⟨h,_⟩|⟨_,_,h⟩)<;>omega
    ·rw[h2];omega
theorem zJe(s:Bs)(pos:Nat)(_h:pos≤s.length):(⟨s,pos,0⟩:InS).take 1=match s.drop pos with|[]=>([],⟨s,pos,1⟩)|c::_=>([c],⟨s,pos+1,0⟩):=by
 have hl:=Jf (l:=s) (i:=pos)
 cases hd:s.drop pos with
 |nil=>
  rw[hd]at hl;simp at hl;rw[InS.take_short dD (by simp only[InS.left];omega)]
  rfl
 |cons c t=>
  rw[hd]at hl;simp at hl;rw[InS.take_ok rfl dD (by simp only[InS.left];omega)];simp only[hd]
  rfl
theorem zDT{i:InS}(h:i.err≠0)(n:Int):i.take n=([],i):=InS.take_err h
theorem zFP{s:Bs}{pos:Nat}{c:UInt8}{t:Bs}(h:s.drop pos=c::t):s.drop (pos+1)=t∧pos<s.length:=by
 have h1:s.drop (pos+1)=(s.drop pos).drop 1:=by rw[List.drop_drop]
 refine⟨by rw[h1,h];rfl,?_⟩;have:=congrArg Jh h;rw[Jf]at this;simp at this
 omega
theorem zFQ(top:Nat):∀(f r n:Nat) (s:Bs) (pos m k:Nat),pos≤s.length→zAT top f r n (s.drop pos)=.ok (m,k)→r<k∧pos+(k - r)≤s.length∧digs top f r n ⟨s,pos,0⟩=(m,⟨s,pos+(k - r),0⟩)
 |0,r,n,s,pos,m,k,hp,h=>by
  cases hd:s.drop pos with
  |nil=>rw[hd,zEl]at h;cases h
  |cons c t=>rw[hd,zJb]at h;cases h
 |f+1,r,n,s,pos,m,k,hp,h=>by
  cases hd:s.drop pos with
  |nil=>rw[hd,zEl]at h;cases h
  |cons c t=>
   have ht:=zJe s pos hp;rw[hd]at h ht;simp only at ht;obtain⟨hd2,hlt⟩:=zFP hd
   by_cases hb:(f=0∧top<c.toNat % 128)∨(0<r∧c.toNat % 128=0∧c.toNat<128)
   ·rw[zKi hb]at h;cases h
   ·by_cases hm:128≤c.toNat
    ·rw[zFg hb hm]at h;rw[zE1 ht hb hm];obtain⟨h1,h3,h2⟩:=zFQ top f (r+1) _ s (pos+1) m k hlt (by rw[hd2];exact h);have e:pos+1+(k - (r+1))=pos+(k - r):=by omega
     rw[e]at h2 h3;exact⟨oM,h3,h2⟩
    ·rw[zFh hb hm]at h;rw[zHS ht hb hm]
     cases h
     have e:r+1 - r=1:=by omega
     rw[e];exact⟨oM,hlt,rfl⟩
theorem zD5(top:Nat):∀(f r n:Nat) (s:Bs) (pos:Nat) (e:Int),pos≤s.length→zAT top f r n (s.drop pos)=.error e→e≠0∧∃p,p≤s.length∧digs top f r n ⟨s,pos,0⟩=(0,⟨s,p,e⟩)
 |0,r,n,s,pos,e,hp,h=>by
  have ht:=zJe s pos hp
  cases hd:s.drop pos with
  |nil=>rw[hd]at h ht;rw[zEl]at h;cases h;exact⟨dD,pos,hp,zE0 ht⟩
  |cons c t=>
   obtain⟨hd2,hlt⟩:=zFP hd;rw[hd]at h ht;rw[zJb]at h;cases h;exact⟨dD,pos+1,hlt,zLv ht⟩
 |f+1,r,n,s,pos,e,hp,h=>by
  have ht:=zJe s pos hp
  cases hd:s.drop pos with
  |nil=>rw[hd]at h ht;rw[zEl]at h;cases h;exact⟨dD,pos,hp,zE0 ht⟩
  |cons c t=>
   rw[hd]at h ht;simp only at ht;obtain⟨hd2,hlt⟩:=zFP hd
   by_cases hb:(f=0∧top<c.toNat % 128)∨(0<r∧c.toNat % 128=0∧c.toNat<128)
   ·rw[zKi hb]at h
    cases h
    rw[zJW ht hb];exact⟨dD,pos+1,hlt,rfl⟩
   ·by_cases hm:128≤c.toNat
    ·rw[zFg hb hm]at h;rw[zE1 ht hb hm];exact zD5 top f (r+1) _ s (pos+1) e hlt (by rw[hd2];exact h)
    ·rw[zFh hb hm]at h
     cases h
theorem zI2(top f r n:Nat){i:InS}(h:i.err≠0):digs top f r n i=(0,i):=zE0 (zDT h 1)
theorem zKh(top:Nat)(ht:top<128):∀(f r n:Nat) (l:Bs) (m k:Nat),zAT top f r n l=.ok (m,k)→∃u,m=n+u*128 ^ r∧putU u=l.take (k - r)∧r<k∧k - r≤l.length∧(r=0∨0<u)
 |0,r,n,l,m,k,h=>by
  cases l with
  |nil=>rw[zEl]at h;cases h
  |cons c t=>rw[zJb]at h;cases h
 |f+1,r,n,l,m,k,h=>by
  cases l with
  |nil=>rw[zEl]at h;cases h
  |cons c t=>
   by_cases hb:(f=0∧top<c.toNat % 128)∨(0<r∧c.toNat % 128=0∧c.toNat<128)
   ·rw[zKi hb]at h;cases h
   ·have hc:=c.toNat_lt
    by_cases hm:128≤c.toNat
    ·rw[zFg hb hm]at h;obtain⟨u,h1,h2,h3,h4,h5⟩:=zKh top ht f (r+1) _ t m k h;have hu:0<u:=by omega
     refine⟨c.toNat % 128+128*u,?_,?_,oM,by simp;omega,oM⟩
     ·rw[h1,Nat.pow_succ,Jm,Nat.add_mul]
      congr 2
      rw[Nat.mul_comm (128 ^ r),←Nat.mul_assoc,Nat.mul_comm u 128]
     ·have e1:(c.toNat % 128+128*u) % 128+128=c.toNat:=by omega
      have e2:(c.toNat % 128+128*u) / 128=u:=by omega
      have e3:k - r=(k - (r+1))+1:=by omega
      rw[zEQ oM,e1,e2,h2,e3,List.take_succ_cons,UInt8.ofNat_toNat]
    ·rw[zFh hb hm]at h
     cases h
     have e:r+1 - r=1:=by omega
     have e2:c.toNat % 128=c.toNat:=by omega
     refine⟨c.toNat,by rw[e2],?_,oM,by rw[e];simp,?_⟩
     ·rw[zCu oM,e,UInt8.ofNat_toNat];rfl
     ·omega
theorem zCd{top most:Nat}(ht:top<128){l:Bs}{m k:Nat}(h:zAT top most 0 0 l=.ok (m,k)):putU m=l.take k∧0<k∧k≤l.length:=by
 obtain⟨u,h1,h2,h3,h4,_⟩:=zKh top ht _ _ _ _ _ _ h;simp at h1 h2 h4;subst h1;exact⟨h2,h3,h4⟩
def zBw (l:Bs):Except Int (Int×Nat):=match zAT 15 5 0 0 l with| .ok x=> .ok (zAV x.1,x.2)| .error e=> .error e
def zCO (l:Bs):Except Int (Int×Nat):=match zAT 1 10 0 0 l with| .ok x=> .ok (zAV x.1,x.2)| .error e=> .error e
structure Rds {α:Type}(f:InS→α×InS) (p:Bs→Except Int (α×Nat)) (d:α):Prop where
 ok:∀(s:Bs) (pos:Nat) (a:α) (k:Nat),pos≤s.length→p (s.drop pos)=.ok (a,k)→pos+k≤s.length∧f ⟨s,pos,0⟩=(a,⟨s,pos+k,0⟩)
 err:∀(s:Bs) (pos:Nat) (e:Int),pos≤s.length→p (s.drop pos)=.error e→e≠0∧∃q,q≤s.length∧f ⟨s,pos,0⟩=(d,⟨s,q,e⟩)
 stuck:∀i:InS,i.err≠0→f i=(d,i)
theorem zDI:Rds InS.vint zBw 0:=by
 refine⟨?_,?_,?_⟩
 ·intro s pos a k hp h;unfold zBw at h
  split at h
  ·rename_i x hx
   cases h
   obtain⟨h1,h3,h2⟩:=zFQ 15 5 0 0 s pos x.1 x.2 hp hx;refine⟨h3,?_⟩;simp only[InS.vint,InS.short,h2]
   rfl
  ·cases h
 ·intro s pos e hp h;unfold zBw at h
  split at h
  ·cases h
  ·rename_i x hx
   cases h
   obtain⟨h1,p,h3,h2⟩:=zD5 15 5 0 0 s pos _ hp hx;refine⟨h1,p,h3,?_⟩;simp only[InS.vint,InS.short,h2]
   rfl
 ·intro i hi;simp only[InS.vint,InS.short,zI2 _ _ _ _ hi]
  rfl
theorem zJy:Rds InS.vlong zCO 0:=by
 refine⟨?_,?_,?_⟩
 ·intro s pos a k hp h;unfold zCO at h
  split at h
  ·rename_i x hx
   cases h
   obtain⟨h1,h3,h2⟩:=zFQ 1 10 0 0 s pos x.1 x.2 hp hx;refine⟨h3,?_⟩;simp only[InS.vlong,InS.long,h2]
   rfl
  ·cases h
 ·intro s pos e hp h;unfold zCO at h
  split at h
  ·cases h
  ·rename_i x hx
   cases h
   obtain⟨h1,p,h3,h2⟩:=zD5 1 10 0 0 s pos _ hp hx;refine⟨h1,p,h3,?_⟩;simp only[InS.vlong,InS.long,h2]
   rfl
 ·intro i hi;simp only[InS.vlong,InS.long,zI2 _ _ _ _ hi]
  rfl
theorem zGE(n:Int)(h0: -2147483648≤n)(h1:n<2147483648)(rest:Bs):zBw (putU (zBj n)++rest)=.ok (n,(putU (zBj n)).length):=by
 have hf:zBj n<(15+1)*128 ^ 4:=by unfold zBj;split<;>omega
 simp only[zBw,zFf 15 dD 4 0 0 (zBj n) rest hf (.inl rfl)];simp[zLS]
theorem zPg(n:Int)(h0: -9223372036854775808≤n)(h1:n<9223372036854775808)(rest:Bs):zCO (putU (zBj n)++rest)=.ok (n,(putU (zBj n)).length):=by
 have hf:zBj n<(1+1)*128 ^ 9:=by unfold zBj;split<;>omega
 simp only[zCO,zFf 1 dD 9 0 0 (zBj n) rest hf (.inl rfl)];simp[zLS]
theorem zCX{l:Bs}{n:Int}{k:Nat}(h:zBw l=.ok (n,k)):putU (zBj n)=l.take k∧0<k∧k≤l.length∧ -2147483648≤n∧n<2147483648:=by
 unfold zBw at h
 split at h
 ·rename_i x hx
  cases h
  obtain⟨h1,h2,h3⟩:=zCd dD hx
  have h4:x.1<4294967296:=by
   have h5:=zFR 15 dD 4 0 0 ⟨l,0,0⟩ dD;obtain⟨_,_,h6⟩:=zFQ 15 5 0 0 l 0 x.1 x.2 (Ji _) hx;rw[h6]at h5;exact h5
  exact⟨by rw[zLj];exact h1,h2,h3,zFc _ h4⟩
 ·cases h
theorem zKg{l:Bs}{n:Int}{k:Nat}(h:zCO l=.ok (n,k)):putU (zBj n)=l.take k∧0<k∧k≤l.length∧ -9223372036854775808≤n∧n<9223372036854775808:=by
 unfold zCO at h
 split at h
 ·rename_i x hx
  cases h
  obtain⟨h1,h2,h3⟩:=zCd dD hx
  have h4:x.1<18446744073709551616:=by
   have h5:=zFR 1 dD 9 0 0 ⟨l,0,0⟩ dD;obtain⟨_,_,h6⟩:=zFQ 1 10 0 0 l 0 x.1 x.2 (Ji _) hx;rw[h6]at h5;exact h5
  exact⟨by rw[zLj];exact h1,h2,h3,zM3 _ h4⟩
 ·cases h
variable {W0 w:World}{K:Know}{L:List Res}
structure BlobS where
 null:Bool
 data:Bs
deriving DecidableEq
def bv (b:BlobS):Value:=.agg #[U b.null,Z (bb b.data)]
def BlobS.right (b:BlobS):Bool:= !b.null||b.data.isEmpty
def BlobS.len (b:BlobS):Int:=if b.null then -1 else b.data.length
def BlobS.none:BlobS:=⟨true,[]⟩
theorem Holds.rawMem{w:World}{b:Nat}{c:Array Value}{T:TypeId}:∀{L:List Res}{S:Nat→Prop},Holds L w S→.raw b c T∈L→w.heap[b]? =some (.cells c T (0,0))
 |[],_,_,hm=>by cases hm
 |r::L,S,⟨S1,S2,h1,h2,_⟩,hm=>by
  cases hm with
  |head=>exact h1.1
  |tail _ hm=>exact Holds.rawMem h2 hm
theorem St.rawMem{b:Nat}{c:Array Value}{T:TypeId}(h:St W0 w K L)(hm:.raw b c T∈L):w.heap[b]? =some (.cells c T (0,0)):=by
 obtain⟨_,S,F,hh,_⟩:=h;exact hh.rawMem hm
theorem St.cellOf{b:Nat}{c:Array Value}{T:TypeId}(h:St W0 w K L)(hm:.raw b c T∈L)(j:Nat):w.cell? ⟨b,j,none⟩=c[j]? :=zAO (h.rawMem hm) j
theorem St.freeOf{b:Nat}{c:Array Value}{T:TypeId}(h:St W0 w K L)(hm:.raw b c T∈L)(j:Nat):w.frozen? ⟨b,j,none⟩=false:=zDp (h.rawMem hm) j
theorem St.cast{L':List Res}(h:St W0 w K L)(e:L=L'):St W0 w K L':=e ▸ h
theorem OutS.len_fail(o:OutS)(e:Int):(o.fail e).bytes.length=o.bytes.length:=by unfold OutS.fail;split<;>rfl
theorem OutS.len_put(o:OutS)(s:Bs):(o.put s).bytes.length≤o.bytes.length+s.length:=by unfold OutS.put;split<;>simp
theorem OutS.len_int(o:OutS)(n size:Int):(o.int n size).bytes.length≤o.bytes.length+8:=by
 unfold OutS.int
 split
 ·rename_i h
  have:=o.len_put (zAm n size.toNat);rw[zAr]at this;have:=h.2.1
  omega
 ·rw[OutS.len_fail];omega
theorem OutS.ok_fail{o:OutS}{e:Int}{n:Nat}(h:o.ok n):(o.fail e).ok n:=by unfold OutS.ok at*;rw[OutS.len_fail];exact h
theorem OutS.ok_mono{o:OutS}{n m:Nat}(h:o.ok n)(hm:m≤n):o.ok m:=by unfold OutS.ok at*;omega
theorem OutS.ok_int{o:OutS}{a b:Int}{n m:Nat}(h:o.ok n)(hm:8+m≤n):(o.int a b).ok m:=by unfold OutS.ok at*;have:=o.len_int a b;omega
theorem OutS.len_putInt(o:OutS)(n:Int)(h: -9223372036854775808≤n∧n<9223372036854775808):(o.putInt n).bytes.length≤o.bytes.length+10:=by
 unfold OutS.putInt
 split
 ·have:=o.len_put (putU (zBj n));have:=zCp _ (zCt h.1 h.2)
  omega
 ·rw[OutS.len_fail];omega
theorem OutS.ok_putInt{o:OutS}{a:Int}{n m:Nat}(h:o.ok n)(hm:10+m≤n)(ha: -9223372036854775808≤a∧a<9223372036854775808):(o.putInt a).ok m:=by unfold OutS.ok at*;have:=o.len_putInt a ha;omega
theorem zRr(s:Bs)(h:St W0 w K L):
 Calls Jd 182 #[Z (bb s)] w fun en w'=>en=Jb (bv ⟨false,s⟩)∧St W0 w' K L:=by
 have H:=hQd h;clear h;go_enter Tryz.func182,Tryz.ntmps182;go_wp2;refine bodyPost_ret (v:=bv ⟨false,s⟩) (by simp[results,Tryz.results182,go_sem,bv]) rfl ⟨rfl,?_⟩;exact H.out.alloc _
theorem zRs(h:St W0 w K L):
 Calls Jd 224 #[] w fun en w'=>en=Jb (bv BlobS.none)∧St W0 w' K L:=by
 have H:=hQd h;clear h;go_enter Tryz.func224,Tryz.ntmps224;go_wp2;refine bodyPost_ret (v:=bv BlobS.none) (by simp[results,Tryz.results224,go_sem,bv,BlobS.none];rfl) rfl ⟨rfl,?_⟩;exact H.out.alloc _
theorem zI6(b:BlobS)(h:St W0 w K L):
 Calls Jd 128 #[bv b] w fun en w'=>en=Jb (U b.right)∧St W0 w' K L:=by
 have H:=hQd h;clear h;obtain⟨n,d⟩:=b
 cases n
 ·go_enter Tryz.func128,Tryz.ntmps128;unfold bv;go_wp2;go_ret;exact⟨rfl,H.out.alloc _⟩
 ·go_enter Tryz.func128,Tryz.ntmps128;unfold bv;go_wp2;go_ret;exact⟨by cases d<;>rfl,H.out.alloc _⟩
theorem zMW(b:BlobS)(h:St W0 w K L):
 Calls Jd 196 #[bv b] w fun en w'=>en=Jb (I O b.len)∧St W0 w' K L:=by
 have H:=hQd h;clear h;obtain⟨n,d⟩:=b
 cases n
 ·go_enter Tryz.func196,Tryz.ntmps196;unfold bv;go_wp2;go_ret;exact⟨rfl,H.out.alloc _⟩
 ·go_enter Tryz.func196,Tryz.ntmps196;unfold bv;go_wp2;go_ret;exact⟨rfl,H.out.alloc _⟩
def OutS.putData (o:OutS) (b:BlobS):OutS:=(if b.right then o else o.fail 4).put b.data
def OutS.putVaried (o:OutS) (b:BlobS):OutS:=(o.putInt b.len).putData b
theorem zLH(p:Nat)(o:OutS)(b:BlobS)(h:St W0 w K (.out p o::L))(hr:o.ok b.data.length):
 Calls Jd 197 #[zBh p,bv b] w fun en w'=>en=Jb (.tuple #[])∧St W0 w' K (.out p (o.putData b)::L):=by
 have H:=hQd (h.allocRaw #[U b.null,Z (bb b.data)] 51);have HR:=hQd hr;clear h hr;go_enter Tryz.func197,Tryz.ntmps197;unfold bv
 go_wp2_with (first
  |(go_at_call 128;refine(zI6 b stQ).zM ?_;clear H;intro wn H;have c1:=H.out.cellOf (b:=w.heap.size) (c:= #[U b.null,Z (bb b.data)]) (T:=51) sM 1;simp at c1)
  |(go_at_call 145;refine(zJj _ _ _ stQ).zM ?_;clear H;intro wn H;have c1:=H.out.cellOf (b:=w.heap.size) (c:= #[U b.null,Z (bb b.data)]) (T:=51) sM 1;simp at c1)
  |(go_at_call 49;refine(zPu _ _ _ stQ (by first|exact HR.out|exact OutS.ok_fail HR.out)).zM ?_;clear H;intro wn H))
 all_goals
  go_end0;exact⟨rfl,H.out.p1.drop.cast (by simp_all [OutS.putData])⟩
theorem BlobS.len_range(b:BlobS)(h:b.data.length≤140737488355328): -9223372036854775808≤b.len∧b.len<9223372036854775808:=by
 unfold BlobS.len
 split<;>omega
theorem zB9(p:Nat)(o:OutS)(b:BlobS)(h:St W0 w K (.out p o::L))(hr:o.ok (b.data.length+16)):
 Calls Jd 180 #[zBh p,bv b] w fun en w'=>en=Jb (.tuple #[])∧St W0 w' K (.out p (o.putVaried b)::L):=by
 have H:=hQd (h.allocRaw #[U b.null,Z (bb b.data)] 51);have HR:=hQd hr;have HB:=hQd (b.len_range (by unfold OutS.ok at hr;omega));clear h hr;go_enter Tryz.func180,Tryz.ntmps180;unfold bv
 go_wp2_with (first
  |(go_at_call 196;refine(zMW b stQ).zM ?_;clear H;intro wn H;have c0:=H.out.cellOf (b:=w.heap.size) (c:= #[U b.null,Z (bb b.data)]) (T:=51) sM 0;have c1:=H.out.cellOf (b:=w.heap.size) (c:= #[U b.null,Z (bb b.data)]) (T:=51) sM 1;simp at c0 c1)
  |(go_at_call 179;refine(zGI _ _ _ HB.out stQ (OutS.ok_mono HR.out oM)).zM ?_;clear H;intro wn H;have c0:=H.out.cellOf (b:=w.heap.size) (c:= #[U b.null,Z (bb b.data)]) (T:=51) sM 0;have c1:=H.out.cellOf (b:=w.heap.size) (c:= #[U b.null,Z (bb b.data)]) (T:=51) sM 1;simp at c0 c1)
  |(go_at_call 197;refine(zLH _ _ b stQ (OutS.ok_putInt HR.out oM HB.out)).zM ?_;clear H;intro wn H))
 go_end0;exact⟨rfl,H.out.p1.drop⟩
def OutS.putName (o:OutS) (s:Bs):OutS:=o.putVaried ⟨false,s⟩
theorem zGb(p:Nat)(o:OutS)(s:Bs)(h:St W0 w K (.out p o::L))(hr:o.ok (s.length+16)):
 Calls Jd 147 #[zBh p,Z (bb s)] w fun en w'=>en=Jb (.tuple #[])∧St W0 w' K (.out p (o.putName s)::L):=by
 have H:=hQd h;have HR:=hQd hr;clear h hr;go_enter Tryz.func147,Tryz.ntmps147
 go_wp2_with (first
  |(go_at_call 182;refine(zRr s stQ).zM ?_;clear H;intro wn H)
  |(go_at_call 180;refine(zB9 _ _ ⟨false,s⟩ stQ HR.out).zM ?_;clear H;intro wn H))
 go_end0;exact⟨rfl,H.out⟩
variable {W0 w:World}{K:Know}{L:List Res}
def InS.tk (i:InS) (n:Int):BlobS×InS:=if n= -1 then(BlobS.none,i)else(⟨false,(i.take n).1⟩,(i.take n).2)
def InS.fixed (i:InS) (size:Int):BlobS×InS:=(i.int size).2.tk (i.int size).1
def InS.varied (i:InS):BlobS×InS:=i.vint.2.tk i.vint.1
def InS.bytes (i:InS) (b:BlobS):Bs×InS:=(b.data,if b.null then i.fail 4 else i)
def InS.text (i:InS):Bs×InS:=(i.fixed 2).2.bytes (i.fixed 2).1
def InS.name (i:InS):Bs×InS:=i.varied.2.bytes i.varied.1
theorem zRq(p:Nat)(i:InS)(n:Int)(h:St W0 w K (.inp p i::L)):
 Calls Jd 220 #[zAD p,I O n] w fun en w'=>en=Jb (bv (i.tk n).1)∧St W0 w' K (.inp p (i.tk n).2::L):=by
 have H:=hQd (h.allocRaw #[U false,Z ⟨#[]⟩] 51);clear h;go_enter Tryz.func220,Tryz.ntmps220
 go_wp2_with (first
  |(go_at_call 184;refine(zSW _ _ _ stQ).zM ?_;clear H;intro wn H;have f0:=H.out.freeOf (b:=w.heap.size) (c:= #[U false,Z ⟨#[]⟩]) (T:=51) sM 0;have f1:=H.out.freeOf (b:=w.heap.size) (c:= #[U false,Z ⟨#[]⟩]) (T:=51) sM 1;have c0:=H.out.cellOf (b:=w.heap.size) (c:= #[U false,Z ⟨#[]⟩]) (T:=51) sM 0;have c1:=H.out.cellOf (b:=w.heap.size) (c:= #[U false,Z ⟨#[]⟩]) (T:=51) sM 1;simp at c0 c1)
  |(go_at_call 182;refine(zRr (i.take n).1 stQ).zM ?_;clear H;intro wn H;have f0:=H.out.freeOf (b:=w.heap.size) (c:= #[U false,Z ⟨#[]⟩]) (T:=51) sM 0;have f1:=H.out.freeOf (b:=w.heap.size) (c:= #[U false,Z ⟨#[]⟩]) (T:=51) sM 1;have c0:=H.out.cellOf (b:=w.heap.size) (c:= #[U false,Z ⟨#[]⟩]) (T:=51) sM 0;have c1:=H.out.cellOf (b:=w.heap.size) (c:= #[U false,Z ⟨#[]⟩]) (T:=51) sM 1;simp at c0 c1;unfold bv)
  |(go_at_call 224;refine(zRs stQ).zM ?_;clear H;intro wn H;have f0:=H.out.freeOf (b:=w.heap.size) (c:= #[U false,Z ⟨#[]⟩]) (T:=51) sM 0;have f1:=H.out.freeOf (b:=w.heap.size) (c:= #[U false,Z ⟨#[]⟩]) (T:=51) sM 1;have c0:=H.out.cellOf (b:=w.heap.size) (c:= #[U false,Z ⟨#[]⟩]) (T:=51) sM 0;have c1:=H.out.cellOf (b:=w.heap.size) (c:= #[U false,Z ⟨#[]⟩]) (T:=51) sM 1;simp at c0 c1;unfold bv))
 ·have hn:n= -1:=by simpa using ‹(n== -1)=true›
  have e:i.tk n=(BlobS.none,i):=if_pos hn;rw[e];refine bodyPost_ret (v:=bv BlobS.none) (by simp[results,Tryz.results220,go_sem,bv,c0,c1]) rfl ⟨rfl,?_⟩;exact((H.out.rawSet 0 _).rawSet 1 _).drop
 ·have hn:n≠ -1:=by simpa using ‹(n== -1)=false›
  have e:i.tk n=(⟨false,(i.take n).1⟩,(i.take n).2):=if_neg hn;rw[e];refine bodyPost_ret (v:=bv ⟨false,(i.take n).1⟩) (by simp[results,Tryz.results220,go_sem,bv,c0,c1]) rfl ⟨rfl,?_⟩;exact((H.out.p1.rawSet 0 _).rawSet 1 _).drop
theorem zPa(p:Nat)(i:InS)(b:BlobS)(h:St W0 w K (.inp p i::L)):
 Calls Jd 215 #[zAD p,bv b] w fun en w'=>en=Jb (Z (bb (i.bytes b).1))∧St W0 w' K (.inp p (i.bytes b).2::L):=by
 obtain⟨n,d⟩:=b
 cases n
 ·have H:=hQd (h.allocRaw #[U false,Z (bb d)] 51);clear h;go_enter Tryz.func215,Tryz.ntmps215;unfold bv;go_wp2_with (go_at_call 158;refine(zCJ _ _ _ stQ).zM ?_;clear H;intro wn H;have c1:=H.out.cellOf (b:=w.heap.size) (c:= #[U false,Z (bb d)]) (T:=51) sM 1;simp at c1);go_ret;exact⟨rfl,H.out.drop⟩
 ·have H:=hQd (h.allocRaw #[U true,Z (bb d)] 51);clear h;go_enter Tryz.func215,Tryz.ntmps215;unfold bv;go_wp2_with (go_at_call 158;refine(zCJ _ _ _ stQ).zM ?_;clear H;intro wn H;have c1:=H.out.cellOf (b:=w.heap.size) (c:= #[U true,Z (bb d)]) (T:=51) sM 1;simp at c1);go_ret;exact⟨rfl,H.out.p1.drop⟩
theorem zA7(p:Nat)(i:InS)(h:St W0 w K (.inp p i::L)):
 Calls Jd 216 #[zAD p] w fun en w'=>en=Jb (bv i.varied.1)∧St W0 w' K (.inp p i.varied.2::L):=by
 have H:=hQd (h.allocRaw #[U false,Z ⟨#[]⟩] 51);clear h;go_enter Tryz.func216,Tryz.ntmps216
 go_wp2_with (first
  |(go_at_call 218;refine(zGJ _ _ stQ).zM ?_;clear H;intro wn H;have f0:=H.out.freeOf (b:=w.heap.size) (c:= #[U false,Z ⟨#[]⟩]) (T:=51) sM 0;have f1:=H.out.freeOf (b:=w.heap.size) (c:= #[U false,Z ⟨#[]⟩]) (T:=51) sM 1;have c0:=H.out.cellOf (b:=w.heap.size) (c:= #[U false,Z ⟨#[]⟩]) (T:=51) sM 0;have c1:=H.out.cellOf (b:=w.heap.size) (c:= #[U false,Z ⟨#[]⟩]) (T:=51) sM 1;simp at c0 c1)
  |(go_at_call 220;refine(zRq _ _ _ stQ).zM ?_;clear H;intro wn H;have f0:=H.out.freeOf (b:=w.heap.size) (c:= #[U false,Z ⟨#[]⟩]) (T:=51) sM 0;have f1:=H.out.freeOf (b:=w.heap.size) (c:= #[U false,Z ⟨#[]⟩]) (T:=51) sM 1;have c0:=H.out.cellOf (b:=w.heap.size) (c:= #[U false,Z ⟨#[]⟩]) (T:=51) sM 0;have c1:=H.out.cellOf (b:=w.heap.size) (c:= #[U false,Z ⟨#[]⟩]) (T:=51) sM 1;simp at c0 c1;unfold bv))
 refine bodyPost_ret (v:=bv i.varied.1) (by simp[results,Tryz.results216,go_sem,bv,c0,c1];exact⟨rfl,rfl⟩) rfl ⟨rfl,?_⟩;exact((H.out.p1.rawSet 0 _).rawSet 1 _).drop
theorem zE9(p:Nat)(i:InS)(h:St W0 w K (.inp p i::L)):
 Calls Jd 211 #[zAD p] w fun en w'=>en=Jb (Z (bb i.name.1))∧St W0 w' K (.inp p i.name.2::L):=by
 have H:=hQd h;clear h;go_enter Tryz.func211,Tryz.ntmps211
 go_wp2_with (first
  |(go_at_call 216;refine(zA7 _ _ stQ).zM ?_;clear H;intro wn H)
  |(go_at_call 215;refine(zPa _ _ i.varied.1 stQ).zM ?_;clear H;intro wn H))
 go_ret;exact⟨rfl,H.out⟩
variable {W0 w:World}{K:Know}{L:List Res}
theorem zPZ(b:BlobS)(h:St W0 w K L):
 Calls Jd 94 #[bv b] w fun en w'=>en=Jb (I O b.len)∧St W0 w' K L:=by
 have H:=hQd h;clear h;obtain⟨n,d⟩:=b
 cases n
 ·go_enter Tryz.func94,Tryz.ntmps94;unfold bv;go_wp2;go_ret;exact⟨rfl,H.out.alloc _⟩
 ·go_enter Tryz.func94,Tryz.ntmps94;unfold bv;go_wp2;go_ret;exact⟨rfl,H.out.alloc _⟩
theorem zq41{p:Prop}(h:p:=by first|assumption|(go_split_ands;assumption)):p:=h
theorem zKJ(b:BlobS)(hb:b.data.length≤70368744177664)(h:St W0 w K L):
 Calls Jd 60 #[bv b] w fun en w'=>en=Jb (Z (bb (putU (zBj b.len)++b.data)))∧St W0 w' K L:=by
 have H:=hQd (h.allocRaw #[U b.null,Z (bb b.data)] 51);have HB:=hQd (b.len_range oM);have HV:=hQd (zCt HB.out.1 HB.out.2);have h1:=(H.out.drew);have hsz:¬(9223372036854775807<(putU (zBj b.len)).length+b.data.length):=by have:=zCp _ HV.out;omega
 clear h hb;go_enter Tryz.func60,Tryz.ntmps60;unfold bv;go_wp2_with fail
 go_region_held3 (fun w'=>w'.cell? ⟨w.heap.size,0,none⟩=some (U b.null)∧w'.cell? ⟨w.heap.size,1,none⟩=some (Z (bb b.data))∧St W0 w' K (.raw w.heap.size #[U b.null,Z (bb b.data)] 51::L))
  (first|(refine⟨?_,?_,?_⟩<;>assumption)|(refine⟨(St.cellOf (c:= #[U b.null,Z (bb b.data)]) (T:=51) ‹St W0 _ K (.raw w.heap.size #[U b.null,Z (bb b.data)] 51::L)› sM 0).trans sM,(St.cellOf (c:= #[U b.null,Z (bb b.data)]) (T:=51) ‹St W0 _ K (.raw w.heap.size #[U b.null,Z (bb b.data)] 51::L)› sM 1).trans sM,by assumption⟩))
  (first
   |(go_at_call 94;refine(zPZ b zq41).mono ?_;rintro e wn ⟨rfl,h⟩)
   |(go_at_call 93;refine(zNt b.len HB.out zq41).mono ?_;rintro e wn ⟨rfl,h⟩)
   |(go_at_call 92;refine(zPV (zBj b.len) HV.out zq41).mono ?_;rintro e wn ⟨rfl,h⟩))
 go_wp2;go_ret;exact⟨rfl,St.drop ‹St W0 _ K (.raw w.heap.size #[U b.null,Z (bb b.data)] 51::L)›⟩
def gotS (s:Bs) (head:Nat) (n:Int):Except Int (BlobS×Nat):=
 if n= -1 then .ok (BlobS.none,head)
 else if n<0 then .error 4
 else if (s.length:Int) - head<n then .error 1
 else .ok (⟨false,(s.drop head).take n.toNat⟩,head+n.toNat)
def zAf (s:Bs):Except Int (BlobS×Nat):=match zBw s with| .ok x=>gotS s x.2 x.1| .error e=> .error e
def gotB (r:Except Int (BlobS×Nat)):BlobS:=match r with| .ok x=>x.1| .error _=>⟨false,[]⟩
def gotN (r:Except Int (BlobS×Nat)):Nat:=match r with| .ok x=>x.2| .error _=>0
def gotV (r:Except Int (BlobS×Nat)):Value:=.agg #[U (gotB r).null,Z (bb (gotB r).data),I O (gotN r),I O (vE r)]
theorem zP0(s:Bs)(hd:Nat)(n:Int)(hs:s.length≤140737488355328)(hh:hd≤s.length)(hn: -9223372036854775808≤n∧n<9223372036854775808)(h:St W0 w K L):
 Calls Jd 153 #[Z (bb s),I O hd,I O n] w fun en w'=>en=Jb (gotV (gotS s hd n))∧St W0 w' K L:=by
 have H:=hQd h;have HN:=hQd hn;clear h hn
 by_cases h1:n= -1
 ·have e:gotS s hd n=.ok (BlobS.none,hd):=if_pos h1;rw[e];subst h1;clear e;go_enter Tryz.func153,Tryz.ntmps153;go_wp2;refine bodyPost_ret (v:=gotV (.ok (BlobS.none,hd))) (by simp[results,Tryz.results153,go_sem,gotV,gotB,gotN,vE,BlobS.none];try rfl) rfl ⟨rfl,H.out.alloc _⟩
 ·by_cases h2:n<0
  ·have e:gotS s hd n=.error 4:=(if_neg h1).trans (if_pos h2);rw[e];have hb:(n== -1)=false:=by simpa using h1
   clear e h1;go_enter Tryz.func153,Tryz.ntmps153;go_wp2;refine bodyPost_ret (v:=gotV (.error 4)) (by simp[results,Tryz.results153,go_sem,gotV,gotB,gotN,vE];try rfl) rfl ⟨rfl,H.out.alloc _⟩
  ·have hb:(n== -1)=false:=by simpa using h1
   by_cases h3:(s.length:Int) - hd<n
   ·have e:gotS s hd n=.error 1:=(if_neg h1).trans ((if_neg h2).trans (if_pos h3));rw[e];clear e h1;go_enter Tryz.func153,Tryz.ntmps153;go_wp2;refine bodyPost_ret (v:=gotV (.error 1)) (by simp[results,Tryz.results153,go_sem,gotV,gotB,gotN,vE];try rfl) rfl ⟨rfl,H.out.alloc _⟩
   ·have e:gotS s hd n=.ok (⟨false,(s.drop hd).take n.toNat⟩,hd+n.toNat):=(if_neg h1).trans ((if_neg h2).trans (if_neg h3));rw[e];clear e h1;obtain⟨m,rfl⟩:∃m:Nat,n=m:=⟨n.toNat,oM⟩;have hm:hd+m≤s.length:=by omega
    have hm2:(m:Int)≤(s.length:Int) - hd:=by omega
    clear h2 h3 hb;go_enter Tryz.func153,Tryz.ntmps153;go_wp2;refine bodyPost_ret (v:=gotV (.ok (⟨false,(s.drop hd).take m⟩,hd+m))) (by simp[results,Tryz.results153,go_sem,gotV,gotB,gotN,vE]) rfl ⟨rfl,H.out.alloc _⟩
theorem zSs(e:Int):gotV (.error e)=.agg #[U false,Z (bb []),I O 0,I O e]:=rfl
theorem zGk(s:Bs)(hs:s.length≤140737488355328){W0 w:World}{K:Know}{L:List Res}(h:St W0 w K L):
 Calls Jd 125 #[Z (bb s)] w fun en w'=>en=Jb (gotV (zAf s))∧St W0 w' K L:=by
 have HS:=hQd hs;have H:=hQd (h.allocRaw #[U false,Z ⟨#[]⟩,I O 0,I O 0] 176);clear h;obtain⟨r,hr⟩:∃r,r=zAT 15 5 0 0 s:=⟨_,rfl⟩;have HR:=hQd hr
 have hd:zAf s=match (generalizing:=false) r with| .ok x=>gotS s x.2 (zAV x.1)| .error e=> .error e:=by
  rw[hr];simp only[zAf,zBw]
  cases zAT 15 5 0 0 s<;>rfl
 cases r with
 |error e=>
  obtain⟨he,_⟩:=zD5 15 5 0 0 s 0 e (Ji _) (by rw[List.drop_zero];exact hr.symm);have he2:(e !=0)=true:=by simpa using he
  rw[hd];clear hd hr he;go_enter Tryz.func125,Tryz.ntmps125
  go_wp2_with (first
   |(go_at_call 152;refine(zFt s 32 5 15 4 HS.out dD dD dD dD dD stQ).mono ?_;rw[←HR.out];simp only[getV,vN,vK,vE];rintro e wn ⟨rfl,h⟩;replace H:=hQd h;clear h;have f0:=H.out.freeOf (b:=w.heap.size) (c:= #[U false,Z ⟨#[]⟩,I O 0,I O 0]) (T:=176) sM 0;have c0:=H.out.cellOf (b:=w.heap.size) (c:= #[U false,Z ⟨#[]⟩,I O 0,I O 0]) (T:=176) sM 0;have f1:=H.out.freeOf (b:=w.heap.size) (c:= #[U false,Z ⟨#[]⟩,I O 0,I O 0]) (T:=176) sM 1;have c1:=H.out.cellOf (b:=w.heap.size) (c:= #[U false,Z ⟨#[]⟩,I O 0,I O 0]) (T:=176) sM 1;have f2:=H.out.freeOf (b:=w.heap.size) (c:= #[U false,Z ⟨#[]⟩,I O 0,I O 0]) (T:=176) sM 2;have c2:=H.out.cellOf (b:=w.heap.size) (c:= #[U false,Z ⟨#[]⟩,I O 0,I O 0]) (T:=176) sM 2;have f3:=H.out.freeOf (b:=w.heap.size) (c:= #[U false,Z ⟨#[]⟩,I O 0,I O 0]) (T:=176) sM 3;have c3:=H.out.cellOf (b:=w.heap.size) (c:= #[U false,Z ⟨#[]⟩,I O 0,I O 0]) (T:=176) sM 3;simp at c0 c1 c2 c3))
  refine bodyPost_ret (v:=gotV (.error e)) (by simp[results,Tryz.results125,go_sem,zSs,c0,c1,c2,c3];try rfl) rfl ⟨rfl,?_⟩;exact((((H.out.rawSet 0 _).rawSet 1 _).rawSet 2 _).rawSet 3 _).drop
 |ok x=>
  obtain⟨u,k⟩:=x;obtain⟨h1,h2,h3⟩:=zCd dD hr.symm;have h4:zBw s=.ok (zAV u,k):=by simp only[zBw,←hr]
  obtain⟨_,_,_,h5⟩:=zCX h4;have HK:=hQd h3;have HB:=hQd (show -9223372036854775808≤zAV u∧zAV u<9223372036854775808 by omega)
  have HU:=hQd (show u<18446744073709551616 from by
   have h5:=zFR 15 dD 4 0 0 ⟨s,0,0⟩ dD;obtain⟨_,_,h6⟩:=zFQ 15 5 0 0 s 0 u k (Ji _) hr.symm;rw[h6]at h5
   exact Nat.lt_trans h5 dD)
  rw[hd];clear hd hr h1 h2 h3 h4 h5;simp only;go_enter Tryz.func125,Tryz.ntmps125
  go_wp2_with (first
   |(go_at_call 152;refine(zFt s 32 5 15 4 HS.out dD dD dD dD dD stQ).mono ?_;rw[←HR.out];simp only[getV,vN,vK,vE];rintro e wn ⟨rfl,h⟩;replace H:=hQd h;clear h;have f0:=H.out.freeOf (b:=w.heap.size) (c:= #[U false,Z ⟨#[]⟩,I O 0,I O 0]) (T:=176) sM 0;have c0:=H.out.cellOf (b:=w.heap.size) (c:= #[U false,Z ⟨#[]⟩,I O 0,I O 0]) (T:=176) sM 0;have f1:=H.out.freeOf (b:=w.heap.size) (c:= #[U false,Z ⟨#[]⟩,I O 0,I O 0]) (T:=176) sM 1;have c1:=H.out.cellOf (b:=w.heap.size) (c:= #[U false,Z ⟨#[]⟩,I O 0,I O 0]) (T:=176) sM 1;have f2:=H.out.freeOf (b:=w.heap.size) (c:= #[U false,Z ⟨#[]⟩,I O 0,I O 0]) (T:=176) sM 2;have c2:=H.out.cellOf (b:=w.heap.size) (c:= #[U false,Z ⟨#[]⟩,I O 0,I O 0]) (T:=176) sM 2;have f3:=H.out.freeOf (b:=w.heap.size) (c:= #[U false,Z ⟨#[]⟩,I O 0,I O 0]) (T:=176) sM 3;have c3:=H.out.cellOf (b:=w.heap.size) (c:= #[U false,Z ⟨#[]⟩,I O 0,I O 0]) (T:=176) sM 3;simp at c0 c1 c2 c3)
   |(go_at_call 154;refine(zNu u HU.out stQ).zM ?_;clear H;intro wn H;have f0:=H.out.freeOf (b:=w.heap.size) (c:= #[U false,Z ⟨#[]⟩,I O 0,I O 0]) (T:=176) sM 0;have c0:=H.out.cellOf (b:=w.heap.size) (c:= #[U false,Z ⟨#[]⟩,I O 0,I O 0]) (T:=176) sM 0;have f1:=H.out.freeOf (b:=w.heap.size) (c:= #[U false,Z ⟨#[]⟩,I O 0,I O 0]) (T:=176) sM 1;have c1:=H.out.cellOf (b:=w.heap.size) (c:= #[U false,Z ⟨#[]⟩,I O 0,I O 0]) (T:=176) sM 1;have f2:=H.out.freeOf (b:=w.heap.size) (c:= #[U false,Z ⟨#[]⟩,I O 0,I O 0]) (T:=176) sM 2;have c2:=H.out.cellOf (b:=w.heap.size) (c:= #[U false,Z ⟨#[]⟩,I O 0,I O 0]) (T:=176) sM 2;have f3:=H.out.freeOf (b:=w.heap.size) (c:= #[U false,Z ⟨#[]⟩,I O 0,I O 0]) (T:=176) sM 3;have c3:=H.out.cellOf (b:=w.heap.size) (c:= #[U false,Z ⟨#[]⟩,I O 0,I O 0]) (T:=176) sM 3;simp at c0 c1 c2 c3)
   |(go_at_call 153;refine(zP0 s k _ HS.out HK.out HB.out stQ).zM ?_;clear H;intro wn H;have f0:=H.out.freeOf (b:=w.heap.size) (c:= #[U false,Z ⟨#[]⟩,I O 0,I O 0]) (T:=176) sM 0;have c0:=H.out.cellOf (b:=w.heap.size) (c:= #[U false,Z ⟨#[]⟩,I O 0,I O 0]) (T:=176) sM 0;have f1:=H.out.freeOf (b:=w.heap.size) (c:= #[U false,Z ⟨#[]⟩,I O 0,I O 0]) (T:=176) sM 1;have c1:=H.out.cellOf (b:=w.heap.size) (c:= #[U false,Z ⟨#[]⟩,I O 0,I O 0]) (T:=176) sM 1;have f2:=H.out.freeOf (b:=w.heap.size) (c:= #[U false,Z ⟨#[]⟩,I O 0,I O 0]) (T:=176) sM 2;have c2:=H.out.cellOf (b:=w.heap.size) (c:= #[U false,Z ⟨#[]⟩,I O 0,I O 0]) (T:=176) sM 2;have f3:=H.out.freeOf (b:=w.heap.size) (c:= #[U false,Z ⟨#[]⟩,I O 0,I O 0]) (T:=176) sM 3;have c3:=H.out.cellOf (b:=w.heap.size) (c:= #[U false,Z ⟨#[]⟩,I O 0,I O 0]) (T:=176) sM 3;simp at c0 c1 c2 c3;unfold gotV))
  refine bodyPost_ret (v:=gotV (gotS s k (zAV u))) (by simp[results,Tryz.results125,go_sem,gotV,c0,c1,c2,c3];try rfl) rfl ⟨rfl,?_⟩;exact((((H.out.rawSet 0 _).rawSet 1 _).rawSet 2 _).rawSet 3 _).drop
def zAS (size:Nat) (l:Bs):Except Int (Int×Nat):=if l.length<size then .error 1 else .ok (sInt (l.take size),size)
theorem zDi(size:Nat)(h1:1≤size)(h8:size≤8):Rds (fun i=>i.int size) (zAS size) 0:=by
 have hc:∀i:InS,i.int size=(sInt (i.take size).1,(i.take size).2):=fun i=>if_neg oM
 refine⟨?_,?_,?_⟩
 ·intro s pos a k hp h;unfold zAS at h
  split at h
  ·cases h
  ·rename_i hl
   cases h
   rw[Jf]at hl;refine⟨oM,?_⟩
   show(⟨s,pos,0⟩:InS).int size=_
   rw[hc,InS.take_ok rfl oM (by simp only[InS.left];omega)]
   rfl
 ·intro s pos e hp h;unfold zAS at h
  split at h
  ·rename_i hl
   cases h
   rw[Jf]at hl;refine⟨dD,pos,hp,?_⟩
   show(⟨s,pos,0⟩:InS).int size=_
   rw[hc,InS.take_short oM (by simp only[InS.left];omega)]
   rfl
  ·cases h
 ·intro i hi
  show i.int size=_
  rw[hc,zDT hi]
  rfl
def zQO (p:Bs→Except Int (Int×Nat)) (l:Bs):Except Int (BlobS×Nat):=match p l with| .ok x=>gotS l x.2 x.1| .error e=> .error e
theorem rds_tk{f:InS→Int×InS}{p:Bs→Except Int (Int×Nat)}(h:Rds f p 0):Rds (fun i=>(f i).2.tk (f i).1) (zQO p) ⟨false,[]⟩:=by
 refine⟨?_,?_,?_⟩
 ·intro s pos a k hp hh;unfold zQO at hh
  cases hx:p (s.drop pos)with
  |error e=>rw[hx]at hh;cases hh
  |ok x=>
   obtain⟨n,m⟩:=x;rw[hx]at hh;obtain⟨g1,g2⟩:=h.ok s pos n m hp hx;simp only at hh ⊢;rw[g2];unfold gotS at hh;unfold InS.tk;simp only
   by_cases h1:n= -1
   ·rw[if_pos h1]at hh ⊢
    cases hh
    exact⟨g1,rfl⟩
   rw[if_neg h1]at hh ⊢
   by_cases h2:n<0
   ·rw[if_pos h2]at hh;cases hh
   rw[if_neg h2]at hh
   by_cases h3:((s.drop pos).length:Int) - m<n
   ·rw[if_pos h3]at hh;cases hh
   rw[if_neg h3]at hh
   cases hh
   rw[Jf]at h3;refine⟨oM,?_⟩;rw[InS.take_ok rfl oM (by simp only[InS.left];omega)];simp only[List.drop_drop,Jm]
 ·intro s pos e hp hh;unfold zQO at hh
  cases hx:p (s.drop pos)with
  |error e'=>
   rw[hx]at hh
   cases hh
   obtain⟨g1,q,g2,g3⟩:=h.err s pos _ hp hx;refine⟨g1,q,g2,?_⟩
   (try simp only)
   rw[g3];unfold InS.tk;simp only;rw[if_neg dD,zDT (by exact g1)]
  |ok x=>
   obtain⟨n,m⟩:=x;rw[hx]at hh;obtain⟨g1,g2⟩:=h.ok s pos n m hp hx;simp only at hh ⊢;rw[g2];unfold gotS at hh;unfold InS.tk;simp only
   by_cases h1:n= -1
   ·rw[if_pos h1]at hh;cases hh
   rw[if_neg h1]at hh ⊢
   by_cases h2:n<0
   ·rw[if_pos h2]at hh
    cases hh
    refine⟨dD,pos+m,g1,?_⟩;rw[InS.take_neg h2]
    rfl
   rw[if_neg h2]at hh
   by_cases h3:((s.drop pos).length:Int) - m<n
   ·rw[if_pos h3]at hh
    cases hh
    rw[Jf]at h3;refine⟨dD,pos+m,g1,?_⟩;rw[InS.take_short oM (by simp only[InS.left];omega)]
    rfl
   rw[if_neg h3]at hh
   cases hh
 ·intro i hi
  (try simp only)
  rw[h.stuck i hi];unfold InS.tk;simp only;rw[if_neg dD,zDT hi]
theorem zAy:Rds InS.varied zAf ⟨false,[]⟩:=by
 have h:=rds_tk zDI
 have e:zQO zBw=zAf:=by
  funext l
  unfold zQO zAf
  split<;>rename_i x hx<;>first|rw[hx]|rfl
 rw[←e];exact h
def encV (b:BlobS):Bs:=putU (zBj b.len)++b.data
theorem zQN(b:BlobS)(hb:b.right=true)(hd rest:Bs):gotS (hd++(b.data++rest)) hd.length b.len=.ok (b,hd.length+b.data.length):=by
 obtain⟨n,d⟩:=b
 cases n
 ·unfold gotS BlobS.len;simp only[Bool.false_eq_true,if_false];rw[if_neg oM,if_neg oM,if_neg (by simp;omega)]
  simp
 ·have hd0:d=[]:=by simpa [BlobS.right]using hb
  subst hd0;unfold gotS BlobS.len;simp[BlobS.none]
theorem zBS(b:BlobS)(hb:b.right=true)(hl:b.data.length≤2147483647)(rest:Bs):zAf (encV b++rest)=.ok (b,(encV b).length):=by
 have hr: -2147483648≤b.len∧b.len<2147483648:=by unfold BlobS.len;split<;>omega
 have h:=zGE b.len hr.1 hr.2 (b.data++rest);have h2:=zQN b hb (putU (zBj b.len)) rest;unfold zAf encV;rw[List.append_assoc,h];simp only[h2,Je]
def zCn (k:Nat) (ok:Int→Bool) (e:Int) (s:Bs):Int×Int:=
 if s.length<2 then(0,1)else if sInt (s.take 2)≠0 then(0,7)else if s.length<2+k then(0,1)
 else if ok (sInt ((s.drop 2).take k))=false then(0,e)else if 2+k<s.length then(0,2)else(sInt ((s.drop 2).take k),0)
def verA (s:Bs):Int×InS:=(⟨s,0,0⟩:InS).int 2
def verI (s:Bs):InS:=if (verA s).1=0 then(verA s).2 else(verA s).2.fail 7
def verJ (k:Nat) (ok:Int→Bool) (e:Int) (s:Bs):InS:=if ok ((verI s).int k).1=true then((verI s).int k).2 else((verI s).int k).2.fail e
def verD (k:Nat) (ok:Int→Bool) (e:Int) (s:Bs):Int×Int:=if (verJ k ok e s).close.err=0 then(((verI s).int k).1,0)else(0,(verJ k ok e s).close.err)
theorem zLA{i:InS}(h:i.err≠0):i.close=i:=by
 unfold InS.close
 split
 ·exact if_neg h
 ·rfl
theorem zGl{k:Nat}{ok:Int→Bool}{e x:Int}{s:Bs}(hx:x≠0)(h:(verJ k ok e s).err=x):verD k ok e s=(0,x):=by
 subst h;unfold verD;rw[zLA hx,if_neg hx]
theorem zIs{k:Nat}{ok:Int→Bool}{e x:Int}{s:Bs}(h1:1≤k)(h8:k≤8)(hx:x≠0)(h:(verI s).err=x):(verJ k ok e s).err=x:=by
 subst h;have h2:(verI s).int k=(0,verI s):=(zDi k h1 h8).stuck (verI s) hx;unfold verJ;rw[h2]
 split
 ·rfl
 ·rw[show(verI s).fail e=verI s from if_neg hx]
theorem zPi(k:Nat)(ok:Int→Bool)(e:Int)(h1:1≤k)(h8:k≤8)(he:e≠0)(s:Bs):verD k ok e s=zCn k ok e s:=by
 have hi:=zDi 2 dD dD;have hk:=zDi k h1 h8;unfold zCn
 by_cases c1:s.length<2
 ·rw[if_pos c1];obtain⟨_,q,_,h3⟩:=hi.err s 0 1 (Ji _) (by simp[zAS,c1]);have h4:verA s=(0,⟨s,q,1⟩):=h3;refine zGl dD (zIs h1 h8 dD ?_);unfold verI;rw[h4]
  rfl
 rw[if_neg c1];obtain⟨_,h3⟩:=hi.ok s 0 (sInt (s.take 2)) 2 (Ji _) (by simp[zAS,c1]);have h4:verA s=(sInt (s.take 2),⟨s,2,0⟩):=h3
 by_cases c2:sInt (s.take 2)≠0
 ·rw[if_pos c2];refine zGl dD (zIs h1 h8 dD ?_);unfold verI;rw[h4,if_neg c2]
  rfl
 rw[if_neg c2];have hI:verI s=⟨s,2,0⟩:=by unfold verI;rw[h4,if_pos (by simpa using c2)]
 by_cases c3:s.length<2+k
 ·rw[if_pos c3];obtain⟨_,q,_,h7⟩:=hk.err s 2 1 oM (by unfold zAS;rw[if_pos (by rw[Jf];omega)]);have h7:(verI s).int k=(0,⟨s,q,1⟩):=by rw[hI];exact h7
  refine zGl dD ?_;unfold verJ;rw[h7]
  split
  ·rfl
  ·rfl
 rw[if_neg c3];obtain⟨_,h7⟩:=hk.ok s 2 (sInt ((s.drop 2).take k)) k oM (by unfold zAS;rw[if_neg (by rw[Jf];omega)]);have h7:(verI s).int k=(sInt ((s.drop 2).take k),⟨s,2+k,0⟩):=by rw[hI];exact h7
 by_cases c4:ok (sInt ((s.drop 2).take k))=false
 ·rw[if_pos c4];refine zGl he ?_;unfold verJ;rw[h7];rw[if_neg (by rw[c4];decide)]
  rfl
 rw[if_neg c4];have hJ:verJ k ok e s=⟨s,2+k,0⟩:=by unfold verJ;rw[h7,if_pos (by simpa using c4)]
 by_cases c5:2+k<s.length
 ·have hc:(⟨s,2+k,0⟩:InS).close=⟨s,2+k,2⟩:=by
   unfold InS.close;rw[if_pos (show 0<(⟨s,2+k,0⟩:InS).left by simp only[InS.left];omega)]
   rfl
  unfold verD;rw[if_pos c5,hJ,hc,if_neg (by simp only;decide)]
 ·have hc:(⟨s,2+k,0⟩:InS).close=⟨s,2+k,0⟩:=by
   unfold InS.close;rw[if_neg (show ¬0<(⟨s,2+k,0⟩:InS).left by simp only[InS.left];omega)]
  unfold verD;rw[if_neg c5,hJ,hc,if_pos rfl,h7]
def way (n:Int):Bool:=n==0||n==1
def zCI (n:Int):Bool:=decide (0≤n)
end Go.Proofs.YtenojajfacacoaaGreatDoor
