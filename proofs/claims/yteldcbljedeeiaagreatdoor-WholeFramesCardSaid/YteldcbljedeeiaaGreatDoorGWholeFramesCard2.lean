/- A text. -/
import Derived.Deep.RegionHeld
import Derived.Test.YteldcbljedeeiaaGreatDoorGWholeFramesCard1
import Derived.Deep.RegionHeld3
/- A text. -/
namespace Go.Proofs.YteldcbljedeeiaaGreatDoor
open Go.RowKit
set_option maxRecDepth 100000
set_option maxHeartbeats 8000000
open Go.Value renaming bool→U, string→Z, slice→V, int→I, pointer→Ja
open Go.Ending renaming returned→Y
open Go.IntKind renaming i64→O
open _root_.Go.Proofs.Tryz renaming prog→Jb
open _root_.Nat renaming zero_le→Jd, add_assoc→Jm
open _root_.List renaming take_succ_eq_append_getElem→Jf, length_cons→Jn, length_append→Jc, append_nil→Jp, length_drop→Jh, drop_drop→Jk, append_assoc→Je, flatMap_cons→Jg, getElem_mem→Ji, length_map→Jj, take→Jl, drop→Jo
structure Know where
 p:World→(Nat→Prop)→Prop
 keep:∀(w w':World) F,p w F→w.heap.size≤w'.heap.size→(∀k,k<w.heap.size→F k→w'.heap[k]? =w.heap[k]?)→p w' F
 mono:∀(w:World) F F',p w F→(∀k,F k→F' k)→p w F'
def Know.none:Know:=⟨fun _ _=>True,fun _ _ _ _ _ _=>trivial,fun _ _ _ _ _=>trivial⟩
def Know.and (a b:Know):Know:=⟨fun w F=>a.p w F∧b.p w F,fun w w' F h hs hk=>⟨a.keep w w' F h.1 hs hk,b.keep w w' F h.2 hs hk⟩,fun w F F' h hs=>⟨a.mono w F F' h.1 hs,b.mono w F F' h.2 hs⟩⟩
def Know.has (a b:Know):Prop:=∀w F,a.p w F→b.p w F
theorem Know.has_refl(a:Know):a.has a:=fun _ _ h=>h
theorem Know.has_left{a b c:Know}(h:a.has c):(a.and b).has c:=fun w F x=>h w F x.1
theorem Know.has_right{a b c:Know}(h:b.has c):(a.and b).has c:=fun w F x=>h w F x.2
theorem Know.has_trans{a b c:Know}(h:a.has b)(k:b.has c):a.has c:=fun w F x=>k w F (h w F x)
theorem Know.has_and{a b c:Know}(h:a.has b)(k:a.has c):a.has (b.and c):=fun w F x=>⟨h w F x,k w F x⟩
structure Gen where
 p:World→(Nat→Prop)→Prop
 keep:∀(w w':World) S,p w S→w.heap.size≤w'.heap.size→(∀k,k<w.heap.size→S k→w'.heap[k]? =w.heap[k]?)→p w' S
inductive Res
 |inp (b:Nat) (i:InS)
 |out (b:Nat) (o:OutS)
 |raw (b:Nat) (c:Array Value) (T:TypeId)
 |row (v:Value) (T:TypeId) (sz n:Nat) (xs:List Value)
 |gen (g:Gen)
def Res.holds:Res→World→(Nat→Prop)→Prop
 | .inp b i,w,S=>IsIn w b i∧∀k,S k↔k=b
 | .out b o,w,S=>∃g,IsOut w b g o∧∀k,S k↔OutM b g k
 | .raw b c T,w,S=>w.heap[b]? =some (.cells c T (0,0))∧∀k,S k↔k=b
 | .row v T sz n xs,w,S=>w.ownsRow 0 T sz v n xs∧∀k,S k↔v.ownBlock=some k
 | .gen g,w,S=>g.p w S
theorem Res.keep{r:Res}{w w':World}{S:Nat→Prop}(h:r.holds w S)(hs:w.heap.size≤w'.heap.size)(hk:∀k,k<w.heap.size→S k→w'.heap[k]? =w.heap[k]?):r.holds w' S:=by
 cases r with
 |inp b i=>exact⟨⟨(hk b h.1.lt ((h.2 b).2 rfl)).trans h.1.1,h.1.2⟩,h.2⟩
 |out b o=>
  obtain⟨g,h1,h2⟩:=h;refine⟨g,?_,h2⟩;have hl:=h1.lt;have hgl:=h1.glt;obtain⟨v,g1,g2,g3,g4⟩:=h1;refine⟨v,(hk b hl ((h2 b).2 (.inl rfl))).trans g1,?_,g3,g4⟩;obtain⟨a1,a2⟩:=g2;refine⟨a1,?_⟩
  rcases a2 with a2|⟨x,cap,cur,rfl,hb,hg,rest⟩
  ·exact .inl a2
  ·have hx:some x=g:=g3;exact .inr ⟨x,cap,cur,rfl,hb,by rw[hk x (hgl x hx.symm) ((h2 x).2 (.inr hx))];exact hg,rest⟩
 |raw b c T=>exact⟨(hk b (zBi h.1) ((h.2 b).2 rfl)).trans h.1,h.2⟩
 |row v T sz n xs=>
  obtain⟨⟨a1,a2⟩,h2⟩:=h;refine⟨⟨a1,?_⟩,h2⟩
  rcases a2 with a2|⟨x,cap,cur,rfl,hb,hg,rest⟩
  ·exact .inl a2
  ·exact .inr ⟨x,cap,cur,rfl,hb,by rw[hk x (zBi hg) ((h2 x).2 rfl)];exact hg,rest⟩
 |gen g=>exact g.keep w w' S h hs hk
def Holds:List Res→World→(Nat→Prop)→Prop
 |[],_,S=>∀k,¬S k
 |r::L,w,S=>∃S1 S2,r.holds w S1∧Holds L w S2∧(∀k,S1 k→¬S2 k)∧∀k,S k↔S1 k∨S2 k
theorem Holds.keep{w w':World}(hs:w.heap.size≤w'.heap.size):∀{L:List Res}{S:Nat→Prop},Holds L w S→(∀k,k<w.heap.size→S k→w'.heap[k]? =w.heap[k]?)→Holds L w' S
 |[],_,h,_=>h
 |r::_,_,⟨S1,S2,h1,h2,h3,h4⟩,hk=>⟨S1,S2,Res.keep (r:=r) h1 hs (fun k hl hx=>hk k hl ((h4 k).2 (.inl hx))),h2.keep hs (fun k hl hx=>hk k hl ((h4 k).2 (.inr hx))),h3,h4⟩
theorem Holds.swap{w:World}{a b:Res}{L:List Res}{S:Nat→Prop}(h:Holds (a::b::L) w S):Holds (b::a::L) w S:=by
 obtain⟨S1,S2,h1,⟨S3,S4,h2,h3,d2,e2⟩,d1,e1⟩:=h;refine⟨S3,fun k=>S1 k∨S4 k,h2,⟨S1,S4,h1,h3,fun k hk=>fun h=>d1 k hk ((e2 k).2 (.inr h)),fun k=>Iff.rfl⟩,?_,?_⟩
 ·rintro k hk (h|h)
  ·exact d1 k h ((e2 k).2 (.inl hk))
  ·exact d2 k hk h
 ·intro k;rw[e1,e2]
  constructor
  ·rintro(h|h|h)
   ·exact .inr (.inl h)
   ·exact .inl h
   ·exact .inr (.inr h)
  ·rintro(h|h|h)
   ·exact .inr (.inl h)
   ·exact .inl h
   ·exact .inr (.inr h)
theorem Holds.cons{w:World}{a:Res}{L L':List Res}{S:Nat→Prop}(h:Holds (a::L) w S)(hL:∀S,Holds L w S→Holds L' w S):Holds (a::L') w S:=by
 obtain⟨S1,S2,h1,h2,h3,h4⟩:=h;exact⟨S1,S2,h1,hL _ h2,h3,h4⟩
def Unf (w:World) (k:Nat):Prop:=∃c T,w.heap[k]? =some (.cells c T (0,0))
theorem Unf.same{w w':World}{k:Nat}(h:Unf w k)(e:w'.heap[k]? =w.heap[k]?):Unf w' k:=by
 obtain⟨c,T,h⟩:=h;exact⟨c,T,e.trans h⟩
def St (W0 w:World) (K:Know) (L:List Res):Prop:=
 Below W0.heap.size W0 w∧∃S F:Nat→Prop,Holds L w S∧(∀k,S k→W0.heap.size≤k∧k<w.heap.size)∧K.p w F∧∀k,F k→k<w.heap.size∧¬S k∧(W0.heap.size≤k→Unf w k)
theorem St.below{W0 w:World}{K:Know}{L:List Res}(h:St W0 w K L):Below W0.heap.size W0 w:=h.1
theorem St.get{W0 w:World}{K:Know}{L:List Res}(h:St W0 w K L):∃F,K.p w F∧∀k,F k→k<w.heap.size:=by
 obtain⟨_,S,F,_,_,hk,hf⟩:=h;exact⟨F,hk,fun k h=>(hf k h).1⟩
theorem St.start{W0:World}{K:Know}(h:K.p W0 (· <W0.heap.size)):St W0 W0 K []:=
 ⟨Below.refl _ _,fun _=>False,(· <W0.heap.size),fun _ h=>h,fun _ h=>h.elim,h,fun _ h=>⟨h,fun h=>h,fun h2=>absurd h (Nat.not_lt.2 h2)⟩⟩
theorem St.know{W0 w:World}{K K':Know}{L:List Res}(h:St W0 w K L)(hk:K.has K'):St W0 w K' L:=by
 obtain⟨a,S,F,b,c,d,e⟩:=h;exact⟨a,S,F,b,c,hk _ _ d,e⟩
theorem St.quiet{W0 w w':World}{K:Know}{L:List Res}{M:Nat→Prop}(h:St W0 w K L)(k:Keeps M w w')(hM:∀k,k<w.heap.size→¬M k):St W0 w' K L:=by
 obtain⟨a,S,F,b,c,d,e⟩:=h;have hb:∀j,j<w.heap.size→w'.heap[j]? =w.heap[j]? :=fun j hj=>k.block j hj (hM j hj)
 exact⟨a.trans ⟨k.os,k.tape,k.output,k.size,fun j hj=>hb j (Nat.lt_of_lt_of_le hj a.size)⟩,S,F,b.keep k.size (fun j hj _=>hb j hj),fun j hj=>⟨(c j hj).1,Nat.lt_of_lt_of_le (c j hj).2 k.size⟩,K.keep w w' F d k.size (fun j hj _=>hb j hj),fun j hj=>⟨Nat.lt_of_lt_of_le (e j hj).1 k.size,(e j hj).2.1,fun h2=>((e j hj).2.2 h2).same (hb j (e j hj).1)⟩⟩
theorem St.drewN{W0 w:World}{K:Know}{L:List Res}(h:St W0 w K L)(n:Nat):St W0 (w.drewN n) K L:=h.quiet (M:=fun _=>False) ((Keeps.refl _ _).drewN n) (fun _ _ h=>h)
theorem St.drew{W0 w:World}{K:Know}{L:List Res}(h:St W0 w K L):St W0 w.drew K L:=h.quiet (M:=fun _=>False) ((Keeps.refl _ _).drew) (fun _ _ h=>h)
theorem St.alloc{W0 w:World}{K:Know}{L:List Res}(h:St W0 w K L)(o:Obj):St W0 (w.alloc o) K L:=h.quiet (M:=fun _=>False) ((Keeps.refl _ _).alloc o) (fun _ _ h=>h)
theorem St.step{W0 w w':World}{K:Know}{r r':Res}{L:List Res}(h:St W0 w K (r::L))
 (hr:∀S1,r.holds w S1→∃S1',r'.holds w' S1'∧Keeps S1 w w'∧∀k,S1' k→(S1 k∨w.heap.size≤k)∧k<w'.heap.size):St W0 w' K (r'::L):=by
 obtain⟨a,S,F,⟨S1,S2,h1,h2,h3,h4⟩,c,d,e⟩:=h;obtain⟨S1',g1,k,g2⟩:=hr S1 h1;have hS1:∀j,S1 j→W0.heap.size≤j:=fun j hj=>(c j ((h4 j).2 (.inl hj))).1
 refine⟨a.trans ⟨k.os,k.tape,k.output,k.size,fun j hj=>k.block j (Nat.lt_of_lt_of_le hj a.size) (fun h=>by have:=hS1 j h;omega)⟩,fun k=>S1' k∨S2 k,F,⟨S1',S2,g1,h2.keep k.size (fun j hj hs=>k.block j hj (fun h=>h3 j h hs)),?_,fun k=>Iff.rfl⟩,?_,K.keep w w' F d k.size (fun j hj hF=>k.block j hj (fun h=>(e j hF).2.1 ((h4 j).2 (.inl h)))),?_⟩
 ·intro j hj hs
  rcases(g2 j hj).1 with h|h
  ·exact h3 j h hs
  ·have:=(c j ((h4 j).2 (.inr hs))).2;omega
 ·rintro j (hj|hj)
  ·obtain⟨h|h,h'⟩:=g2 j hj
   ·exact⟨hS1 j h,h'⟩
   ·exact⟨Nat.le_trans a.size h,h'⟩
  ·have:=c j ((h4 j).2 (.inr hj));exact⟨this.1,Nat.lt_of_lt_of_le this.2 k.size⟩
 ·intro j hF;refine⟨Nat.lt_of_lt_of_le (e j hF).1 k.size,?_,fun h2=>((e j hF).2.2 h2).same (k.block j (e j hF).1 (fun h=>(e j hF).2.1 ((h4 j).2 (.inl h))))⟩;rintro(hj|hj)
  ·rcases(g2 j hj).1 with h|h
   ·exact(e j hF).2.1 ((h4 j).2 (.inl h))
   ·have:=(e j hF).1;omega
  ·exact(e j hF).2.1 ((h4 j).2 (.inr hj))
theorem St.new{W0 w w':World}{K:Know}{r:Res}{L:List Res}{S1:Nat→Prop}(h:St W0 w K L)(k:Keeps (fun _=>False) w w')(hr:r.holds w' S1)(hS:∀j,S1 j→w.heap.size≤j∧j<w'.heap.size):St W0 w' K (r::L):=by
 obtain⟨a,S,F,b,c,d,e⟩:=h.quiet k (fun _ _ h=>h);obtain⟨h0,S',F',b',c',d',e'⟩:=h;have hb:∀j,j<w.heap.size→w'.heap[j]? =w.heap[j]? :=fun j hj=>k.block j hj (fun h=>h)
 refine⟨a,fun k=>S1 k∨S' k,F',⟨S1,S',hr,b'.keep k.size (fun j hj _=>hb j hj),?_,fun k=>Iff.rfl⟩,?_,K.keep w w' F' d' k.size (fun j hj _=>hb j hj),?_⟩
 ·intro j hj hs;have:=(hS j hj).1;have:=(c' j hs).2
  omega
 ·rintro j (hj|hj)
  ·have h1:=hS j hj;exact⟨Nat.le_trans h0.size h1.1,h1.2⟩
  ·exact⟨(c' j hj).1,Nat.lt_of_lt_of_le (c' j hj).2 k.size⟩
 ·intro j hF;refine⟨Nat.lt_of_lt_of_le (e' j hF).1 k.size,?_,fun h2=>((e' j hF).2.2 h2).same (hb j (e' j hF).1)⟩;rintro(hj|hj)
  ·have:=(hS j hj).1;have:=(e' j hF).1
   omega
  ·exact(e' j hF).2.1 hj
theorem St.drop{W0 w:World}{K:Know}{r:Res}{L:List Res}(h:St W0 w K (r::L)):St W0 w K L:=by
 obtain⟨a,S,F,⟨S1,S2,h1,h2,h3,h4⟩,c,d,e⟩:=h;exact⟨a,S2,F,h2,fun k hk=>c k ((h4 k).2 (.inr hk)),d,fun k hk=>⟨(e k hk).1,fun h=>(e k hk).2.1 ((h4 k).2 (.inr h)),(e k hk).2.2⟩⟩
theorem St.map{W0 w:World}{K:Know}{L L':List Res}(h:St W0 w K L)(hL:∀S,Holds L w S→Holds L' w S):St W0 w K L':=by
 obtain⟨a,S,F,b,c⟩:=h;exact⟨a,S,F,hL _ b,c⟩
theorem St.p1{W0 w:World}{K:Know}{a b:Res}{L:List Res}(h:St W0 w K (a::b::L)):St W0 w K (b::a::L):=h.map fun _=>Holds.swap
theorem St.p2{W0 w:World}{K:Know}{a b c:Res}{L:List Res}(h:St W0 w K (a::b::c::L)):St W0 w K (c::a::b::L):=St.p1 (h.map fun _ h=>h.cons fun _=>Holds.swap)
theorem St.p3{W0 w:World}{K:Know}{a b c d:Res}{L:List Res}(h:St W0 w K (a::b::c::d::L)):St W0 w K (d::a::b::c::L):=St.p2 (h.map fun _ h=>h.cons fun _ h=>h.cons fun _=>Holds.swap)
theorem St.p4{W0 w:World}{K:Know}{a b c d e:Res}{L:List Res}(h:St W0 w K (a::b::c::d::e::L)):St W0 w K (e::a::b::c::d::L):=St.p3 (h.map fun _ h=>h.cons fun _ h=>h.cons fun _ h=>h.cons fun _=>Holds.swap)
theorem St.p5{W0 w:World}{K:Know}{a b c d e f:Res}{L:List Res}(h:St W0 w K (a::b::c::d::e::f::L)):St W0 w K (f::a::b::c::d::e::L):=St.p4 (h.map fun _ h=>h.cons fun _ h=>h.cons fun _ h=>h.cons fun _ h=>h.cons fun _=>Holds.swap)
theorem St.allocRaw{W0 w:World}{K:Know}{L:List Res}(h:St W0 w K L)(c:Array Value)(T:TypeId):St W0 (w.alloc (.cells c T (0,0))) K (.raw w.heap.size c T::L):=
 h.new (S1:=fun k=>k=w.heap.size) ((Keeps.refl _ _).alloc _) ⟨heap_alloc_new w _,fun _=>Iff.rfl⟩ (by rintro j rfl;simp)
theorem St.allocOut{W0 w:World}{K:Know}{L:List Res}(h:St W0 w K L):St W0 (w.alloc (.cells #[V none 0 0,I O 0] 116 (0,0))) K (.out w.heap.size ⟨[],0⟩::L):=
 h.new (S1:=fun k=>k=w.heap.size) ((Keeps.refl _ _).alloc _) ⟨none,⟨_,heap_alloc_new w _,World.ownsRow_nil _ _ _ _,rfl,by simp⟩,fun k=>by simp[OutM]⟩ (by rintro j rfl;simp)
theorem St.nilRow{W0 w:World}{K:Know}{L:List Res}(h:St W0 w K L)(T:TypeId)(sz:Nat):St W0 w K (.row (V none 0 0) T sz 0 []::L):=
 h.new (S1:=fun _=>False) (Keeps.refl _ _) ⟨World.ownsRow_nil _ _ _ _,fun k=>by simp[Value.ownBlock]⟩ (fun _ h=>h.elim)
theorem St.rawGet{W0 w:World}{K:Know}{L:List Res}{b:Nat}{c:Array Value}{T:TypeId}(h:St W0 w K (.raw b c T::L)):w.heap[b]? =some (.cells c T (0,0)):=by
 obtain⟨_,S,F,⟨S1,S2,h1,_⟩,_⟩:=h;exact h1.1
theorem St.rawCell{W0 w:World}{K:Know}{L:List Res}{b:Nat}{c:Array Value}{T:TypeId}(h:St W0 w K (.raw b c T::L))(j:Nat):w.cell? ⟨b,j,none⟩=c[j]? :=zAK h.rawGet j
theorem St.rawFree{W0 w:World}{K:Know}{L:List Res}{b:Nat}{c:Array Value}{T:TypeId}(h:St W0 w K (.raw b c T::L))(j:Nat):w.frozen? ⟨b,j,none⟩=false:=zCV h.rawGet j
theorem St.rawSet{W0 w:World}{K:Know}{L:List Res}{b:Nat}{c:Array Value}{T:TypeId}(h:St W0 w K (.raw b c T::L))(j:Nat)(v:Value):St W0 (w.setCell ⟨b,j,none⟩ v) K (.raw b (c.setIfInBounds j v) T::L):=by
 refine h.step fun S1 h1=>⟨S1,⟨zAV h1.1 v,h1.2⟩,(Keeps.refl _ _).setCell _ _ (.inl ((h1.2 b).2 rfl)),fun k hk=>⟨.inl hk,?_⟩⟩
 have:=(h1.2 k).1 hk;subst this
 simpa using zBi h1.1
theorem St.inpGet{W0 w:World}{K:Know}{L:List Res}{b:Nat}{i:InS}(h:St W0 w K (.inp b i::L)):IsIn w b i:=by
 obtain⟨_,S,F,⟨S1,S2,h1,_⟩,_⟩:=h;exact h1.1
theorem St.outGet{W0 w:World}{K:Know}{L:List Res}{b:Nat}{o:OutS}(h:St W0 w K (.out b o::L)):∃g,IsOut w b g o:=by
 obtain⟨_,S,F,⟨S1,S2,⟨g,h1,_⟩,_⟩,_⟩:=h;exact⟨g,h1⟩
theorem St.rowGet{W0 w:World}{K:Know}{L:List Res}{v:Value}{T:TypeId}{sz n:Nat}{xs:List Value}(h:St W0 w K (.row v T sz n xs::L)):w.ownsRow 0 T sz v n xs:=by
 obtain⟨_,S,F,⟨S1,S2,h1,_⟩,_⟩:=h;exact h1.1
theorem St.inp{W0 w w':World}{K:Know}{L:List Res}{b:Nat}{i i':InS}(h:St W0 w K (.inp b i::L))(h':IsIn w' b i')(k:Keeps (· =b) w w'):St W0 w' K (.inp b i'::L):=
 h.step fun S1 h1=>⟨S1,⟨h',h1.2⟩,k.mono (fun k _ hk=>(h1.2 k).2 hk),fun k hk=>⟨.inl hk,by have:=(h1.2 k).1 hk;subst this;exact h'.lt⟩⟩
theorem IsOut.same{w:World}{b:Nat}{g g':Option Nat}{o o':OutS}(h:IsOut w b g o)(h':IsOut w b g' o'):g=g':=by
 obtain⟨v,h1,_,h2,_⟩:=h;obtain⟨v',h1',_,h2',_⟩:=h';rw[h1]at h1';simp at h1';rw[←h2,←h2',h1'.1]
theorem St.out{W0 w w':World}{K:Know}{L:List Res}{b:Nat}{o o':OutS}{g g':Option Nat}(h:St W0 w K (.out b o::L))(hg:IsOut w b g o)(h':IsOut w' b g' o')(k:Keeps (OutM b g) w w')(n:Newer w g g'):St W0 w' K (.out b o'::L):=by
 refine h.step fun S1 h1=> ?_
 obtain⟨g2,h1,h2⟩:=h1;obtain rfl:=h1.same hg;refine⟨OutM b g',⟨g',h',fun _=>Iff.rfl⟩,k.mono (fun k _ hk=>(h2 k).2 hk),?_⟩;rintro j (rfl|hj)
 ·exact⟨.inl ((h2 _).2 (.inl rfl)),h'.lt⟩
 ·refine⟨?_,h'.glt j hj.symm⟩
  rcases n with rfl|⟨x,rfl,hx⟩
  ·exact .inl ((h2 _).2 (.inr hj))
  ·simp at hj;subst hj;exact .inr hx
theorem St.newInp{W0 w w':World}{K:Know}{L:List Res}{b:Nat}{i:InS}(h:St W0 w K L)(h':IsIn w' b i)(k:Keeps (fun _=>False) w w')(hb:w.heap.size≤b):St W0 w' K (.inp b i::L):=
 h.new (S1:=(· =b)) k ⟨h',fun _=>Iff.rfl⟩ (by rintro j rfl;exact⟨hb,h'.lt⟩)
theorem St.rowGrown{W0 w w':World}{K:Know}{L:List Res}{v v':Value}{T:TypeId}{sz n n':Nat}{xs xs':List Value}(h:St W0 w K (.row v T sz n xs::L))(h':w'.ownsRow 0 T sz v' n' xs')(k:w.grownBy w' v.ownBlock)(hn:Newer w v.ownBlock v'.ownBlock):
 St W0 w' K (.row v' T sz n' xs'::L):=by
 refine h.step fun S1 h1=>⟨fun k=>v'.ownBlock=some k,⟨h',fun _=>Iff.rfl⟩,(Keeps.of_grown k).mono (fun k _ hk=>(h1.2 k).2 hk.symm),?_⟩
 intro j hj;refine⟨?_,(h'.lt j hj).2⟩
 rcases hn with e|⟨x,e,hx⟩
 ·exact .inl ((h1.2 _).2 (e ▸ hj))
 ·rw[e]at hj;simp at hj;subst hj;exact .inr hx
def Res.plain:Res→Prop
 | .raw _ _ _=>True
 | .row _ _ _ _ _=>True
 | _=>False
theorem Res.unf{r:Res}{w:World}{S:Nat→Prop}(hp:r.plain)(h:r.holds w S){k:Nat}(hk:S k):Unf w k:=by
 cases r with
 |raw b c T=>obtain⟨h1,h2⟩:=h;rw[(h2 k).1 hk];exact⟨c,T,h1⟩
 |row v T sz n xs=>
  obtain⟨⟨_,h1⟩,h2⟩:=h;have h3:=(h2 k).1 hk
  rcases h1 with ⟨rfl,_⟩|⟨x,cap,cur,rfl,_,hg,_⟩
  ·cases h3
  ·injection h3 with h3;subst h3;exact⟨cur,T,hg⟩
 |inp _ _=>exact hp.elim
 |out _ _=>exact hp.elim
 |gen _=>exact hp.elim
theorem St.freeze{W0 w:World}{K K':Know}{L:List Res}{r:Res}(h:St W0 w K (r::L))(hk:∀F S1,K.p w F→r.holds w S1→K'.p w (fun k=>F k∨(S1 k∧k<w.heap.size)))(hp:r.plain:=by trivial):St W0 w (K.and K') L:=by
 obtain⟨a,S,F,⟨S1,S2,h1,h2,h3,h4⟩,c,d,e⟩:=h;refine⟨a,S2,fun k=>F k∨(S1 k∧k<w.heap.size),h2,fun k hk=>c k ((h4 k).2 (.inr hk)),⟨K.mono _ _ _ d (fun k hk=> .inl hk),hk F S1 d h1⟩,?_⟩;rintro k (hF|⟨hF,hl⟩)
 ·exact⟨(e k hF).1,fun h=>(e k hF).2.1 ((h4 k).2 (.inr h)),(e k hF).2.2⟩
 ·exact⟨hl,h3 k hF,fun _=>Res.unf hp h1 hF⟩
theorem sA{α:Type}{i:Nat}{a:α}{l:List α}:l.toArray.setIfInBounds i a=(l.set i a).toArray:=List.setIfInBounds_toArray l i a
theorem sB{α:Type}{b:α}{a:α}{l:List α}:(a::l).set 0 b=b::l:=List.set_cons_zero
theorem sC{α:Type}{n:Nat}{b:α}{a:α}{l:List α}:(a::l).set (n+1) b=a::l.set n b:=List.set_cons_succ
theorem tQ{P:Program}{md:Region.Mode}{ops:Array Oper}{Q:Exit→Act→World→Prop}{S:World→Prop}(i:Nat)(oi:Oper){v:Value}{fuel:Nat}{listed:Array Bool}{a:Act}{w:World}(h:wpAnyH P md ops Q S fuel (listed.setIfInBounds i true) (a.put oi.dst v) w)(hi:ops[i]? =some oi:=by rfl)(hs:Region.noSelect ops=true:=by kernel_rfl)(hf:Region.free md ops listed i=true:=by kernel_rfl)(hr:(Region.ready md ops listed).contains i=true:=by kernel_rfl)(hQ:∀c a w,Q (.panic c) (a.put oi.dst v) w→Q (.panic c) a w:=by exact fun _ _ _ h=>h)(hy:YieldsIf P ops S oi v a:=by(refine Or.inl ⟨by rfl,?_⟩;intro w hSw;(try dsimp only at hSw);go_simp;try with_reducible rfl))(hS:S w:=by assumption):wpAnyH P md ops Q S (fuel+1) listed a w:=wpAnyH_take hi hs hf hr hQ hy hS h
theorem stQ{W0 w:World}{K:Know}{L:List Res}(h:St W0 w K L:=by first|(first|with_reducible exact H.out|with_reducible exact H.out.p1|with_reducible exact H.out.p2|with_reducible exact H.out.p3|with_reducible exact H.out.p4|with_reducible exact H.out.p5)|((repeat first|with_reducible refine St.drewN ?_ _|with_reducible refine St.drew ?_|with_reducible refine St.alloc ?_ _);first|with_reducible exact H.out|with_reducible exact H.out.p1|with_reducible exact H.out.p2|with_reducible exact H.out.p3|with_reducible exact H.out.p4|with_reducible exact H.out.p5)):St W0 w K L:=h
theorem tR{P:Program}{md:Region.Mode}{ops:Array Oper}{Q:Exit→Act→World→Prop}{S:World→Prop}(i:Nat){oi:Oper}{v:Value}{fuel:Nat}{listed l':Array Bool}{a a':Act}{w:World}(h:wpAnyH P md ops Q S fuel l' a' w)(hi:ops.toList[i]? =some oi:=by rfl)(hs:Region.noSelect ops=true:=by kernel_rfl)(hf:Region.free md ops listed i=true:=by kernel_rfl)(hr:(Region.ready md ops listed).contains i=true:=by kernel_rfl)(hQ:∀c a w,Q (.panic c) (a.put oi.dst v) w→Q (.panic c) a w:=by exact fun _ _ _ h=>h)(hy:YieldsIf P ops S oi v a:=by(refine Or.inl ⟨by rfl,?_⟩;intro w hSw;(try dsimp only at hSw);go_simp;try with_reducible rfl))(hS:S w:=by assumption)(ha:a.put oi.dst v=a':=by(simp only[Act.put,sA,sB,sC];rfl))(hl:listed.setIfInBounds i true=l':=by((try simp only[sA,sB,sC]);rfl)):wpAnyH P md ops Q S (fuel+1) listed a w:=by subst ha;subst hl;exact tQ i oi h (Array.getElem?_toList.symm.trans hi) hs hf hr hQ hy hS
theorem rC{P:Program}{md:Region.Mode}{ops:Array Oper}{Q:Exit→Act→World→Prop}{S:World→Prop}{fuel:Nat}{listed:Array Bool}{a:Act}{w:World}{i:Nat}{o:Oper}{rs:List Nat}(ho:ops.toList[i]? =some o)(h:∀K':Act→World→Prop,Shut (∀a w,S w→(S w→wpAnyH P md ops Q S fuel (listed.setIfInBounds i true) a w)→K' a w)→if Region.wanted o (yielded ops a.tmps)=true then Oper.wp P o a w K' Q else K' (a.put o.dst undef) w)(hs:AllReadyH P md ops Q S fuel listed a w rs):AllReadyH P md ops Q S fuel listed a w (i::rs):=AllReadyH.cons (Array.getElem?_toList.symm.trans ho) h hs
theorem rN{P:Program}{md:Region.Mode}{ops:Array Oper}{Q:Exit→Act→World→Prop}{S:World→Prop}{fuel:Nat}{listed:Array Bool}{a:Act}{w:World}:AllReadyH P md ops Q S fuel listed a w []:=AllReadyH.nil
theorem wR{P:Program}{md:Region.Mode}{ops:Array Oper}{Q:Exit→Act→World→Prop}{S:World→Prop}(rs:List Nat){fuel:Nat}{listed:Array Bool}{a:Act}{w:World}(h:AllReadyH P md ops Q S fuel listed a w rs)(hr:Region.ready md ops listed=rs:=by kernel_rfl)(hne:rs≠[]:=by simp):wpAnyH P md ops Q S (fuel+1) listed a w:=wpAnyH_ready hr hne h
theorem zK{P:Program}{md:Region.Mode}{ops:Array Oper}{Q:Exit→Act→World→Prop}{S:World→Prop}{fuel:Nat}{l l':Array Bool}{K':Act→World→Prop}{a a':Act}{w:World}(hK:Shut (∀a w,S w→(S w→wpAnyH P md ops Q S fuel l a w)→K' a w))(hS:S w)(h:S w→wpAnyH P md ops Q S fuel l' a' w)(ha:a=a':=by((try simp only[Act.put,sA,sB,sC]);rfl))(hl:l=l':=by((try simp only[sA,sB,sC]);rfl)):K' a w:=by subst ha;subst hl;exact hK.out _ _ hS h
theorem _root_.Go.Calls.zM{P:Program}{f:FuncId}{x:Array Value}{w W0:World}{K:Know}{L:List Res}{X:Ending}{R:Ending→World→Prop}(c:Calls P f x w fun e w'=>e=X∧St W0 w' K L)(k:∀w',Hid (St W0 w' K L)→R X w'):Calls P f x w R:=c.mono (by rintro e w' ⟨rfl,h⟩;exact k w' (Lib.hid h))
theorem uR2{W0 w:World}{K:Know}{L:List Res}{b:Nat}{c:Array Value}{T:TypeId}(h:St W0 w K (.raw b c T::L)):w.cell? ⟨b,0,none⟩=c[0]? ∧w.cell? ⟨b,1,none⟩=c[1]? :=⟨h.rawCell 0,h.rawCell 1⟩
theorem uS2{W0 w:World}{K:Know}{L:List Res}{b:Nat}{c:Array Value}{T:TypeId}(h:St W0 w K (.raw b c T::L)):w.frozen? ⟨b,0,none⟩=false∧w.frozen? ⟨b,1,none⟩=false:=⟨h.rawFree 0,h.rawFree 1⟩
theorem uR3{W0 w:World}{K:Know}{L:List Res}{b:Nat}{c:Array Value}{T:TypeId}(h:St W0 w K (.raw b c T::L)):w.cell? ⟨b,0,none⟩=c[0]? ∧w.cell? ⟨b,1,none⟩=c[1]? ∧w.cell? ⟨b,2,none⟩=c[2]? :=⟨h.rawCell 0,h.rawCell 1,h.rawCell 2⟩
theorem uS3{W0 w:World}{K:Know}{L:List Res}{b:Nat}{c:Array Value}{T:TypeId}(h:St W0 w K (.raw b c T::L)):w.frozen? ⟨b,0,none⟩=false∧w.frozen? ⟨b,1,none⟩=false∧w.frozen? ⟨b,2,none⟩=false:=⟨h.rawFree 0,h.rawFree 1,h.rawFree 2⟩
theorem uR4{W0 w:World}{K:Know}{L:List Res}{b:Nat}{c:Array Value}{T:TypeId}(h:St W0 w K (.raw b c T::L)):w.cell? ⟨b,0,none⟩=c[0]? ∧w.cell? ⟨b,1,none⟩=c[1]? ∧w.cell? ⟨b,2,none⟩=c[2]? ∧w.cell? ⟨b,3,none⟩=c[3]? :=⟨h.rawCell 0,h.rawCell 1,h.rawCell 2,h.rawCell 3⟩
theorem uS4{W0 w:World}{K:Know}{L:List Res}{b:Nat}{c:Array Value}{T:TypeId}(h:St W0 w K (.raw b c T::L)):w.frozen? ⟨b,0,none⟩=false∧w.frozen? ⟨b,1,none⟩=false∧w.frozen? ⟨b,2,none⟩=false∧w.frozen? ⟨b,3,none⟩=false:=⟨h.rawFree 0,h.rawFree 1,h.rawFree 2,h.rawFree 3⟩
theorem uR5{W0 w:World}{K:Know}{L:List Res}{b:Nat}{c:Array Value}{T:TypeId}(h:St W0 w K (.raw b c T::L)):w.cell? ⟨b,0,none⟩=c[0]? ∧w.cell? ⟨b,1,none⟩=c[1]? ∧w.cell? ⟨b,2,none⟩=c[2]? ∧w.cell? ⟨b,3,none⟩=c[3]? ∧w.cell? ⟨b,4,none⟩=c[4]? :=⟨h.rawCell 0,h.rawCell 1,h.rawCell 2,h.rawCell 3,h.rawCell 4⟩
theorem uS5{W0 w:World}{K:Know}{L:List Res}{b:Nat}{c:Array Value}{T:TypeId}(h:St W0 w K (.raw b c T::L)):w.frozen? ⟨b,0,none⟩=false∧w.frozen? ⟨b,1,none⟩=false∧w.frozen? ⟨b,2,none⟩=false∧w.frozen? ⟨b,3,none⟩=false∧w.frozen? ⟨b,4,none⟩=false:=⟨h.rawFree 0,h.rawFree 1,h.rawFree 2,h.rawFree 3,h.rawFree 4⟩
theorem uR6{W0 w:World}{K:Know}{L:List Res}{b:Nat}{c:Array Value}{T:TypeId}(h:St W0 w K (.raw b c T::L)):w.cell? ⟨b,0,none⟩=c[0]? ∧w.cell? ⟨b,1,none⟩=c[1]? ∧w.cell? ⟨b,2,none⟩=c[2]? ∧w.cell? ⟨b,3,none⟩=c[3]? ∧w.cell? ⟨b,4,none⟩=c[4]? ∧w.cell? ⟨b,5,none⟩=c[5]? :=⟨h.rawCell 0,h.rawCell 1,h.rawCell 2,h.rawCell 3,h.rawCell 4,h.rawCell 5⟩
theorem uS6{W0 w:World}{K:Know}{L:List Res}{b:Nat}{c:Array Value}{T:TypeId}(h:St W0 w K (.raw b c T::L)):w.frozen? ⟨b,0,none⟩=false∧w.frozen? ⟨b,1,none⟩=false∧w.frozen? ⟨b,2,none⟩=false∧w.frozen? ⟨b,3,none⟩=false∧w.frozen? ⟨b,4,none⟩=false∧w.frozen? ⟨b,5,none⟩=false:=⟨h.rawFree 0,h.rawFree 1,h.rawFree 2,h.rawFree 3,h.rawFree 4,h.rawFree 5⟩
theorem uR7{W0 w:World}{K:Know}{L:List Res}{b:Nat}{c:Array Value}{T:TypeId}(h:St W0 w K (.raw b c T::L)):w.cell? ⟨b,0,none⟩=c[0]? ∧w.cell? ⟨b,1,none⟩=c[1]? ∧w.cell? ⟨b,2,none⟩=c[2]? ∧w.cell? ⟨b,3,none⟩=c[3]? ∧w.cell? ⟨b,4,none⟩=c[4]? ∧w.cell? ⟨b,5,none⟩=c[5]? ∧w.cell? ⟨b,6,none⟩=c[6]? :=⟨h.rawCell 0,h.rawCell 1,h.rawCell 2,h.rawCell 3,h.rawCell 4,h.rawCell 5,h.rawCell 6⟩
theorem uS7{W0 w:World}{K:Know}{L:List Res}{b:Nat}{c:Array Value}{T:TypeId}(h:St W0 w K (.raw b c T::L)):w.frozen? ⟨b,0,none⟩=false∧w.frozen? ⟨b,1,none⟩=false∧w.frozen? ⟨b,2,none⟩=false∧w.frozen? ⟨b,3,none⟩=false∧w.frozen? ⟨b,4,none⟩=false∧w.frozen? ⟨b,5,none⟩=false∧w.frozen? ⟨b,6,none⟩=false:=⟨h.rawFree 0,h.rawFree 1,h.rawFree 2,h.rawFree 3,h.rawFree 4,h.rawFree 5,h.rawFree 6⟩
theorem uR8{W0 w:World}{K:Know}{L:List Res}{b:Nat}{c:Array Value}{T:TypeId}(h:St W0 w K (.raw b c T::L)):w.cell? ⟨b,0,none⟩=c[0]? ∧w.cell? ⟨b,1,none⟩=c[1]? ∧w.cell? ⟨b,2,none⟩=c[2]? ∧w.cell? ⟨b,3,none⟩=c[3]? ∧w.cell? ⟨b,4,none⟩=c[4]? ∧w.cell? ⟨b,5,none⟩=c[5]? ∧w.cell? ⟨b,6,none⟩=c[6]? ∧w.cell? ⟨b,7,none⟩=c[7]? :=⟨h.rawCell 0,h.rawCell 1,h.rawCell 2,h.rawCell 3,h.rawCell 4,h.rawCell 5,h.rawCell 6,h.rawCell 7⟩
theorem uS8{W0 w:World}{K:Know}{L:List Res}{b:Nat}{c:Array Value}{T:TypeId}(h:St W0 w K (.raw b c T::L)):w.frozen? ⟨b,0,none⟩=false∧w.frozen? ⟨b,1,none⟩=false∧w.frozen? ⟨b,2,none⟩=false∧w.frozen? ⟨b,3,none⟩=false∧w.frozen? ⟨b,4,none⟩=false∧w.frozen? ⟨b,5,none⟩=false∧w.frozen? ⟨b,6,none⟩=false∧w.frozen? ⟨b,7,none⟩=false:=⟨h.rawFree 0,h.rawFree 1,h.rawFree 2,h.rawFree 3,h.rawFree 4,h.rawFree 5,h.rawFree 6,h.rawFree 7⟩
theorem uR9{W0 w:World}{K:Know}{L:List Res}{b:Nat}{c:Array Value}{T:TypeId}(h:St W0 w K (.raw b c T::L)):w.cell? ⟨b,0,none⟩=c[0]? ∧w.cell? ⟨b,1,none⟩=c[1]? ∧w.cell? ⟨b,2,none⟩=c[2]? ∧w.cell? ⟨b,3,none⟩=c[3]? ∧w.cell? ⟨b,4,none⟩=c[4]? ∧w.cell? ⟨b,5,none⟩=c[5]? ∧w.cell? ⟨b,6,none⟩=c[6]? ∧w.cell? ⟨b,7,none⟩=c[7]? ∧w.cell? ⟨b,8,none⟩=c[8]? :=⟨h.rawCell 0,h.rawCell 1,h.rawCell 2,h.rawCell 3,h.rawCell 4,h.rawCell 5,h.rawCell 6,h.rawCell 7,h.rawCell 8⟩
theorem uS9{W0 w:World}{K:Know}{L:List Res}{b:Nat}{c:Array Value}{T:TypeId}(h:St W0 w K (.raw b c T::L)):w.frozen? ⟨b,0,none⟩=false∧w.frozen? ⟨b,1,none⟩=false∧w.frozen? ⟨b,2,none⟩=false∧w.frozen? ⟨b,3,none⟩=false∧w.frozen? ⟨b,4,none⟩=false∧w.frozen? ⟨b,5,none⟩=false∧w.frozen? ⟨b,6,none⟩=false∧w.frozen? ⟨b,7,none⟩=false∧w.frozen? ⟨b,8,none⟩=false:=⟨h.rawFree 0,h.rawFree 1,h.rawFree 2,h.rawFree 3,h.rawFree 4,h.rawFree 5,h.rawFree 6,h.rawFree 7,h.rawFree 8⟩
theorem uR10{W0 w:World}{K:Know}{L:List Res}{b:Nat}{c:Array Value}{T:TypeId}(h:St W0 w K (.raw b c T::L)):w.cell? ⟨b,0,none⟩=c[0]? ∧w.cell? ⟨b,1,none⟩=c[1]? ∧w.cell? ⟨b,2,none⟩=c[2]? ∧w.cell? ⟨b,3,none⟩=c[3]? ∧w.cell? ⟨b,4,none⟩=c[4]? ∧w.cell? ⟨b,5,none⟩=c[5]? ∧w.cell? ⟨b,6,none⟩=c[6]? ∧w.cell? ⟨b,7,none⟩=c[7]? ∧w.cell? ⟨b,8,none⟩=c[8]? ∧w.cell? ⟨b,9,none⟩=c[9]? :=⟨h.rawCell 0,h.rawCell 1,h.rawCell 2,h.rawCell 3,h.rawCell 4,h.rawCell 5,h.rawCell 6,h.rawCell 7,h.rawCell 8,h.rawCell 9⟩
theorem uS10{W0 w:World}{K:Know}{L:List Res}{b:Nat}{c:Array Value}{T:TypeId}(h:St W0 w K (.raw b c T::L)):w.frozen? ⟨b,0,none⟩=false∧w.frozen? ⟨b,1,none⟩=false∧w.frozen? ⟨b,2,none⟩=false∧w.frozen? ⟨b,3,none⟩=false∧w.frozen? ⟨b,4,none⟩=false∧w.frozen? ⟨b,5,none⟩=false∧w.frozen? ⟨b,6,none⟩=false∧w.frozen? ⟨b,7,none⟩=false∧w.frozen? ⟨b,8,none⟩=false∧w.frozen? ⟨b,9,none⟩=false:=⟨h.rawFree 0,h.rawFree 1,h.rawFree 2,h.rawFree 3,h.rawFree 4,h.rawFree 5,h.rawFree 6,h.rawFree 7,h.rawFree 8,h.rawFree 9⟩
theorem uR11{W0 w:World}{K:Know}{L:List Res}{b:Nat}{c:Array Value}{T:TypeId}(h:St W0 w K (.raw b c T::L)):w.cell? ⟨b,0,none⟩=c[0]? ∧w.cell? ⟨b,1,none⟩=c[1]? ∧w.cell? ⟨b,2,none⟩=c[2]? ∧w.cell? ⟨b,3,none⟩=c[3]? ∧w.cell? ⟨b,4,none⟩=c[4]? ∧w.cell? ⟨b,5,none⟩=c[5]? ∧w.cell? ⟨b,6,none⟩=c[6]? ∧w.cell? ⟨b,7,none⟩=c[7]? ∧w.cell? ⟨b,8,none⟩=c[8]? ∧w.cell? ⟨b,9,none⟩=c[9]? ∧w.cell? ⟨b,10,none⟩=c[10]? :=⟨h.rawCell 0,h.rawCell 1,h.rawCell 2,h.rawCell 3,h.rawCell 4,h.rawCell 5,h.rawCell 6,h.rawCell 7,h.rawCell 8,h.rawCell 9,h.rawCell 10⟩
theorem uS11{W0 w:World}{K:Know}{L:List Res}{b:Nat}{c:Array Value}{T:TypeId}(h:St W0 w K (.raw b c T::L)):w.frozen? ⟨b,0,none⟩=false∧w.frozen? ⟨b,1,none⟩=false∧w.frozen? ⟨b,2,none⟩=false∧w.frozen? ⟨b,3,none⟩=false∧w.frozen? ⟨b,4,none⟩=false∧w.frozen? ⟨b,5,none⟩=false∧w.frozen? ⟨b,6,none⟩=false∧w.frozen? ⟨b,7,none⟩=false∧w.frozen? ⟨b,8,none⟩=false∧w.frozen? ⟨b,9,none⟩=false∧w.frozen? ⟨b,10,none⟩=false:=⟨h.rawFree 0,h.rawFree 1,h.rawFree 2,h.rawFree 3,h.rawFree 4,h.rawFree 5,h.rawFree 6,h.rawFree 7,h.rawFree 8,h.rawFree 9,h.rawFree 10⟩
theorem uR12{W0 w:World}{K:Know}{L:List Res}{b:Nat}{c:Array Value}{T:TypeId}(h:St W0 w K (.raw b c T::L)):w.cell? ⟨b,0,none⟩=c[0]? ∧w.cell? ⟨b,1,none⟩=c[1]? ∧w.cell? ⟨b,2,none⟩=c[2]? ∧w.cell? ⟨b,3,none⟩=c[3]? ∧w.cell? ⟨b,4,none⟩=c[4]? ∧w.cell? ⟨b,5,none⟩=c[5]? ∧w.cell? ⟨b,6,none⟩=c[6]? ∧w.cell? ⟨b,7,none⟩=c[7]? ∧w.cell? ⟨b,8,none⟩=c[8]? ∧w.cell? ⟨b,9,none⟩=c[9]? ∧w.cell? ⟨b,10,none⟩=c[10]? ∧w.cell? ⟨b,11,none⟩=c[11]? :=⟨h.rawCell 0,h.rawCell 1,h.rawCell 2,h.rawCell 3,h.rawCell 4,h.rawCell 5,h.rawCell 6,h.rawCell 7,h.rawCell 8,h.rawCell 9,h.rawCell 10,h.rawCell 11⟩
theorem uS12{W0 w:World}{K:Know}{L:List Res}{b:Nat}{c:Array Value}{T:TypeId}(h:St W0 w K (.raw b c T::L)):w.frozen? ⟨b,0,none⟩=false∧w.frozen? ⟨b,1,none⟩=false∧w.frozen? ⟨b,2,none⟩=false∧w.frozen? ⟨b,3,none⟩=false∧w.frozen? ⟨b,4,none⟩=false∧w.frozen? ⟨b,5,none⟩=false∧w.frozen? ⟨b,6,none⟩=false∧w.frozen? ⟨b,7,none⟩=false∧w.frozen? ⟨b,8,none⟩=false∧w.frozen? ⟨b,9,none⟩=false∧w.frozen? ⟨b,10,none⟩=false∧w.frozen? ⟨b,11,none⟩=false:=⟨h.rawFree 0,h.rawFree 1,h.rawFree 2,h.rawFree 3,h.rawFree 4,h.rawFree 5,h.rawFree 6,h.rawFree 7,h.rawFree 8,h.rawFree 9,h.rawFree 10,h.rawFree 11⟩
theorem kR{p:Prop}(h:p:=by kernel_rfl):p:=h
theorem sM{p:Prop}(h:p:=by simp):p:=h
theorem eX{A:Sort _}(a:A):∃x,a=x:=⟨a,rfl⟩
variable {W0 w:World}{K:Know}{L:List Res}
theorem zBV(b:Nat)(i:InS)(e:Int)(h:St W0 w K (.inp b i::L)):
 Calls Jb 70 #[zAe b,I O e] w fun en w'=>en=Y (.tuple #[])∧St W0 w' K (.inp b (i.fail e)::L):=
 (zCf b i e w h.inpGet).mono fun _ _ ⟨h1,h2,h3⟩=>⟨h1,h.inp h2 h3⟩
theorem zNk(b:Nat)(i:InS)(h:St W0 w K (.inp b i::L)):
 Calls Jb 75 #[zAe b] w fun en w'=>en=Y (I O i.left)∧St W0 w' K (.inp b i::L):=
 (zDh b i w h.inpGet).mono fun _ _ ⟨h1,n,h2⟩=>⟨h1,h2 ▸ h.drewN n⟩
theorem zHs(b:Nat)(i:InS)(h:St W0 w K (.inp b i::L)):
 Calls Jb 22 #[zAe b] w fun en w'=>en=Y (I O i.err)∧St W0 w' K (.inp b i::L):=
 (in_err b i w h.inpGet).mono fun _ _ ⟨h1,h2⟩=>⟨h1,h2 ▸ h⟩
theorem zSD(b:Nat)(i:InS)(n:Int)(h:St W0 w K (.inp b i::L)):
 Calls Jb 67 #[zAe b,I O n] w fun en w'=>en=Y (Z (bb (i.take n).1))∧St W0 w' K (.inp b (i.take n).2::L):=
 (zD1 b i n w h.inpGet).mono fun _ _ ⟨h1,h2,h3⟩=>⟨h1,h.inp h2 h3⟩
theorem zCa(b:Nat)(i:InS)(n:Int)(h:St W0 w K (.inp b i::L)):
 Calls Jb 66 #[zAe b,I O n] w fun en w'=>en=Y (I O (i.int n).1)∧St W0 w' K (.inp b (i.int n).2::L):=
 (zKV b i n w h.inpGet).mono fun _ _ ⟨h1,h2,h3⟩=>⟨h1,h.inp h2 h3⟩
theorem zPA(b:Nat)(i:InS)(n m:Int)(h:St W0 w K (.inp b i::L)):
 Calls Jb 174 #[zAe b,I O n,I O m] w fun en w'=>en=Y (I O (i.count n m).1)∧St W0 w' K (.inp b (i.count n m).2::L):=
 (zR4 b i n m w h.inpGet).mono fun _ _ ⟨h1,h2,h3⟩=>⟨h1,h.inp h2 h3⟩
theorem zE0(b:Nat)(i:InS)(h:St W0 w K (.inp b i::L)):
 Calls Jb 25 #[zAe b] w fun en w'=>en=Y (I O i.close.err)∧St W0 w' K (.inp b i.close::L):=
 (zR5 b i w h.inpGet).mono fun _ _ ⟨h1,h2,h3⟩=>⟨h1,h.inp h2 h3⟩
theorem zEh(s:Bs)(hs:s.length≤140737488355328)(h:St W0 w K L):
 Calls Jb 19 #[Z (bb s)] w fun en w'=>∃b,en=Y (zAe b)∧St W0 w' K (.inp b ⟨s,0,0⟩::L):=
 (in_new s w hs).mono fun _ _ ⟨h1,h2,h3⟩=>⟨_,h1,h.newInp h2 h3 (Nat.le_refl _)⟩
theorem zDW(b:Nat)(o:OutS)(e:Int)(h:St W0 w K (.out b o::L)):
 Calls Jb 95 #[zAc b,I O e] w fun en w'=>en=Y (.tuple #[])∧St W0 w' K (.out b (o.fail e)::L):=by
 obtain⟨g,hg⟩:=h.outGet;exact(zI7 b g o e w hg).mono fun _ _ ⟨h1,h2,h3⟩=>⟨h1,h.out hg h2 h3 (Newer.refl _ _)⟩
theorem zPv(b:Nat)(o:OutS)(s:Bs)(h:St W0 w K (.out b o::L))(hr:o.ok s.length):
 Calls Jb 51 #[zAc b,Z (bb s)] w fun en w'=>en=Y (.tuple #[])∧St W0 w' K (.out b (o.put s)::L):=by
 obtain⟨g,hg⟩:=h.outGet;exact(zS6 b g o s w hg hr).mono fun _ _ ⟨h1,g',h2,h3,h4⟩=>⟨h1,h.out hg h2 h3 h4⟩
theorem zII(b:Nat)(o:OutS)(c:UInt8)(h:St W0 w K (.out b o::L))(hr:o.ok 1):
 Calls Jb 103 #[zAc b,.int .u8 c.toNat] w fun en w'=>en=Y (.tuple #[])∧St W0 w' K (.out b (o.put [c])::L):=by
 obtain⟨g,hg⟩:=h.outGet;exact(zFS b g o c w hg hr).mono fun _ _ ⟨h1,g',h2,h3,h4⟩=>⟨h1,h.out hg h2 h3 h4⟩
theorem zGb(b:Nat)(o:OutS)(n size:Int)(hn: -9223372036854775808≤n∧n<9223372036854775808)(h:St W0 w K (.out b o::L))(hr:o.ok 8):
 Calls Jb 50 #[zAc b,I O n,I O size] w fun en w'=>en=Y (.tuple #[])∧St W0 w' K (.out b (o.int n size)::L):=by
 obtain⟨g,hg⟩:=h.outGet;exact(zS7 b g o n size w hg hr hn.1 hn.2).mono fun _ _ ⟨h1,g',h2,h3,h4⟩=>⟨h1,h.out hg h2 h3 h4⟩
theorem zGa(b:Nat)(o:OutS)(h:St W0 w K (.out b o::L)):
 Calls Jb 49 #[zAc b] w fun en w'=>en=Y (.tuple #[Z (bb o.text.1),I O o.text.2])∧St W0 w' K (.out b o::L):=by
 obtain⟨g,hg⟩:=h.outGet;exact(zRS b g o w hg).mono fun _ _ ⟨h1,n,h2⟩=>⟨h1,h2 ▸ h.drewN n⟩
theorem zSV(n size:Int)(hn: -9223372036854775808≤n∧n<9223372036854775808)(h:St W0 w K L):
 Calls Jb 102 #[I O n,I O size] w fun en w'=>en=Y (U (decide (fits n size)))∧St W0 w' K L:=
 (zEq n size w hn.1 hn.2).mono fun _ _ ⟨h1,h2⟩=>⟨h1,h2 ▸ h⟩
def zCJ (P:Program) (e:TypeId) (z:Value) (size bytes:Nat):Prop:=
 (∃i,P.info? e=some i∧i.zero=some z∧i.size=size∧i.bytes=bytes)∧z.cells.size=size∧0<size
theorem zAT{P:Program}{e:TypeId}{z:Value}{size bytes:Nat}(h:(P.info? e).map (fun i=>(i.zero,i.size,i.bytes))=some (some z,size,bytes))(h1:z.cells.size=size)(h2:0<size):zCJ P e z size bytes:=by
 obtain⟨i,a,b,c,d⟩:=info_parts h;exact⟨⟨i,a,b,c,d⟩,h1,h2⟩
theorem zQZ(w:World)(c:List Value)(T:TypeId):∀j u,c[j]? =some u→(w.alloc (.cells c.toArray T)).cell? ((⟨w.heap.size,0,none⟩:Addr).add j)=some u:=by
 intro j u hj;have ha:(⟨w.heap.size,0,none⟩:Addr).add j=⟨w.heap.size,j,none⟩:=by unfold Addr.add;split<;>simp_all
 rw[ha,zAK (heap_alloc_new w _) j]
 simpa using hj
theorem St.rowLit(h:St W0 w K L)(c:List Value)(T:TypeId)(sz n:Nat)(hc:c.length=n*sz)(hn:n≤maxLen):
 St W0 (w.alloc (.cells c.toArray T)) K (.row (V (some ⟨w.heap.size,0,none⟩) n n) T sz n c::L):=
 h.new (S1:=fun k=>k=w.heap.size) ((Keeps.refl _ _).alloc _)
  ⟨⟨hc,.inr ⟨w.heap.size,n,c.toArray,rfl,Jd _,heap_alloc_new w _,Nat.le_refl _,hn,by simpa using hc,by simp[←hc]⟩⟩,fun k=>by simp[Value.ownBlock];exact eq_comm⟩ (by rintro j rfl;simp)
theorem zDx{ops:Array Oper}{rest:List Oper}{o:Oper}{a:Act}{Q:Exit→Act→World→Prop}(hgd:o.guard=none)(sl x:Operand)(t:TypeId)
 (ho:o.op=.call {callee:=.builtin .append,args:= #[sl,x],argTypes:= #[t,t]})
 (e:TypeId){z:Value}{size bytes:Nat}(ht:Tryz.prog.underlying t=some (.slice e))(he:zCJ Jb e z size bytes)
 (v:Value)(n:Nat)(xs:List Value)(hs:a.eval sl=v)(hst:St W0 w K (.row v e size n xs::L))
 (ad:Addr)(m c:Nat)(news:List Value)(hx:a.eval x=V (some ad) m c)(hl:news.length=m*size)(hnews:∀j u,news[j]? =some u→w.cell? (ad.add j)=some u)(h1:∀u∈news,u.oneCell'=true)
 (h63:n+m≤maxLen)(hbytes:(n+m)*bytes≤140737488355328)
 (h:∀v' w',St W0 w' K (.row v' e size (n+m) (xs++news)::L)→wpList Jb ops Q rest (a.put o.dst v') w'):wpList Jb ops Q (o::rest) a w:=by
 obtain⟨⟨i,g1,g2,g3,g4⟩,g5,g6⟩:=he
 exact zFX hgd sl x t ho e i z size bytes ht g1 g2 g3 g4 g5 g6 v n xs hs hst.rowGet ad m c news hx hl hnews h1 h63 hbytes
  fun v' w' k1 k2 k3=>h v' w' (hst.rowGrown k1 k2 k3)
theorem zAz{ops:Array Oper}{rest:List Oper}{o:Oper}{a:Act}{Q:Exit→Act→World→Prop}(hgd:o.guard=none)(sl x:Operand)(t:TypeId)
 (ho:o.op=.call {callee:=.builtin .append,args:= #[sl,x],argTypes:= #[t,t]})
 (e:TypeId){z:Value}{size bytes:Nat}(ht:Tryz.prog.underlying t=some (.slice e))(he:zCJ Jb e z size bytes)
 (v:Value)(n:Nat)(xs:List Value)(hs:a.eval sl=v)(hst:St W0 w K (.row v e size n xs::L))
 (news:List Value)(T:TypeId)(hx:a.eval x=V (some ⟨w.heap.size,0,none⟩) 1 1)(hl:news.length=size)(h1:∀u∈news,u.oneCell'=true)
 (h63:n+1≤maxLen)(hbytes:(n+1)*bytes≤140737488355328)
 (h:∀v' w',St W0 w' K (.row v' e size (n+1) (xs++news)::L)→wpList Jb ops Q rest (a.put o.dst v') w'):wpList Jb ops Q (o::rest) a (w.alloc (.cells news.toArray T)):=
 zDx hgd sl x t ho e ht he v n xs hs (hst.alloc _) ⟨w.heap.size,0,none⟩ 1 1 news hx oM (zQZ w news T) h1 h63 hbytes h
theorem St.rowSlice{v:Value}{T:TypeId}{sz n:Nat}{xs:List Value}(h:St W0 w K (.row v T sz n xs::L))(hn:0<n):∃g cap,v=V (some ⟨g,0,none⟩) n cap:=by
 rcases h.rowGet.2 with ⟨_,h0⟩|⟨g,cap,_,rfl,_⟩
 ·omega
 ·exact⟨g,cap,rfl⟩
theorem St.rowAny{v:Value}{T:TypeId}{sz n:Nat}{xs:List Value}(h:St W0 w K (.row v T sz n xs::L)):∃p cap,v=V p n cap:=by
 rcases h.rowGet.2 with ⟨rfl,h0⟩|⟨g,cap,_,rfl,_⟩
 ·exact⟨none,0,by rw[h0]⟩
 ·exact⟨_,cap,rfl⟩
theorem St.rowCell{g cap:Nat}{T:TypeId}{sz n:Nat}{xs:List Value}(h:St W0 w K (.row (V (some ⟨g,0,none⟩) n cap) T sz n xs::L))(j:Nat)(hj:j<n*sz):w.cell? ⟨g,j,none⟩=xs[j]? :=h.rowGet.cellAt j hj
theorem zTq:zCJ Jb 5 (.int .u8 0) 1 1:=zAT kR rfl dD
set_option maxHeartbeats 8000000
set_option maxRecDepth 100000
variable {W0 w:World}{K:Know}{L:List Res}
theorem zF6(b:Nat)(o:OutS)(n:Int)(hn: -9223372036854775808≤n∧n<9223372036854775808)(h:St W0 w K (.out b o::L))(hr:o.ok 16):
 Calls Jb 190 #[zAc b,I O n] w fun en w'=>en=Y (.tuple #[])∧St W0 w' K (.out b (o.putInt n)::L):=by
 obtain⟨g,hg⟩:=h.outGet;exact(zNY b g o n w hg hr hn.1 hn.2).mono fun _ _ ⟨h1,g',h2,h3,h4⟩=>⟨h1,h.out hg h2 h3 h4⟩
theorem zN3(b:Nat)(o:OutS)(n:Int)(hn: -9223372036854775808≤n∧n<9223372036854775808)(h:St W0 w K (.out b o::L))(hr:o.ok 16):
 Calls Jb 189 #[zAc b,I O n] w fun en w'=>en=Y (.tuple #[])∧St W0 w' K (.out b (o.putLong n)::L):=by
 obtain⟨g,hg⟩:=h.outGet;exact(zLM b g o n w hg hr hn.1 hn.2).mono fun _ _ ⟨h1,g',h2,h3,h4⟩=>⟨h1,h.out hg h2 h3 h4⟩
theorem zG5(top:Nat)(ht:top<128):∀(f read n:Nat) (i:InS),n<128 ^ read→(digs top (f+1) read n i).1<(top+1)*128 ^ (read+f)
 |0,read,n,i,hn=>by
  have hp:0<128 ^ read:=Nat.pow_pos dD;have h0:0<(top+1)*128 ^ read:=Nat.mul_pos oM hp;unfold digs
  split
  ·exact h0
  ·split
   ·exact h0
   ·rename_i hb
    split
    ·unfold digs;split<;>exact h0
    ·rename_i c t _ _
     have hd:c.toNat % 128≤top:=by
      have:¬(top<c.toNat % 128):=fun h=>hb (.inl ⟨rfl,h⟩)
      omega
     have:c.toNat % 128*128 ^ read≤top*128 ^ read:=Nat.mul_le_mul_right _ hd;rw[Nat.add_mul];simp only[Nat.add_zero]
     omega
 |f+1,read,n,i,hn=>by
  have h0:0<(top+1)*128 ^ (read+(f+1)):=Nat.mul_pos oM (Nat.pow_pos dD);unfold digs
  split
  ·exact h0
  ·split
   ·exact h0
   ·split
    ·rename_i c t _ _ _
     have:=zG5 top ht f (read+1) _ (i.take 1).2 (zFU hn (Nat.mod_lt c.toNat (by decide:128>0)));rw[show read+1+f=read+(f+1) by omega]at this;exact this
    ·refine Nat.lt_of_lt_of_le (zFU hn (Nat.mod_lt _ dD)) ?_;have h1:128 ^ (read+1)≤128 ^ (read+(f+1)):=Nat.pow_le_pow_right dD oM;exact Nat.le_trans h1 (Nat.le_mul_of_pos_left _ oM)
def InS.short (i:InS):Nat×InS:=digs 15 5 0 0 i
def InS.long (i:InS):Nat×InS:=digs 1 10 0 0 i
def InS.vint (i:InS):Int×InS:=(zDv i.short.1,i.short.2)
def InS.vlong (i:InS):Int×InS:=(zDv i.long.1,i.long.2)
theorem zNj(i:InS):i.short.1<4294967296:=zG5 15 dD 4 0 0 i dD
theorem zTa(i:InS):i.long.1<18446744073709551616:=zG5 1 dD 9 0 0 i dD
theorem zM5(u:Nat)(h:u<18446744073709551616): -9223372036854775808≤zDv u∧zDv u<9223372036854775808:=by
 unfold zDv;split<;>omega
theorem zEN(u:Nat)(h:u<4294967296): -2147483648≤zDv u∧zDv u<2147483648:=by
 unfold zDv;split<;>omega
theorem InS.vint_range(i:InS): -2147483648≤i.vint.1∧i.vint.1<2147483648:=zEN _ (zNj i)
theorem zJ2(b:Nat)(i:InS)(most top:Nat)(hm:most≤10)(ht:most=10→top≤1)(htop:top<128)(h:St W0 w K (.inp b i::L)):
 Calls Jb 231 #[zAe b,I O most,.int .u64 top] w fun en w'=>en=Y (.int .u64 (digs top most 0 0 i).1)∧St W0 w' K (.inp b (digs top most 0 0 i).2::L):=
 (zNZ b i most top w h.inpGet hm ht htop).mono fun _ _ ⟨h1,h2,h3⟩=>⟨h1,h.inp h2 h3⟩
theorem zJ1(u:Nat)(hu:u<18446744073709551616)(h:St W0 w K L):
 Calls Jb 230 #[.int .u64 u] w fun en w'=>en=Y (I O (zDv u))∧St W0 w' K L:=
 (zNX u w hu).mono fun _ _ ⟨h1,h2⟩=>⟨h1,h2 ▸ h⟩
theorem zRp(b:Nat)(i:InS)(h:St W0 w K (.inp b i::L)):
 Calls Jb 232 #[zAe b] w fun en w'=>en=Y (.int .u64 i.short.1)∧St W0 w' K (.inp b (i.short).2::L):=by
 have H:=hQd h;clear h;go_enter Tryz.func232,Tryz.ntmps232
 go_wp2_with (first
  |(go_at_call 231;refine(zJ2 b i 5 15 dD dD dD stQ).zM ?_;clear H;intro wn H))
 go_ret;exact⟨rfl,H.out⟩
theorem zF7(b:Nat)(i:InS)(h:St W0 w K (.inp b i::L)):
 Calls Jb 185 #[zAe b] w fun en w'=>en=Y (I O i.vint.1)∧St W0 w' K (.inp b (i.vint).2::L):=by
 have H:=hQd h;clear h;have hl:=hQd (zNj i);go_enter Tryz.func185,Tryz.ntmps185
 go_wp2_with (first
  |(go_at_call 232;refine(zRp b i stQ).zM ?_;clear H;intro wn H)
  |(go_at_call 230;refine(zJ1 _ (by have:=hl.out;omega) stQ).zM ?_;clear H;intro wn H))
 go_ret;exact⟨rfl,H.out⟩
theorem zIF(b:Nat)(i:InS)(h:St W0 w K (.inp b i::L)):
 Calls Jb 184 #[zAe b] w fun en w'=>en=Y (I O i.vlong.1)∧St W0 w' K (.inp b (i.vlong).2::L):=by
 have H:=hQd h;clear h;have hl:=hQd (zTa i);go_enter Tryz.func184,Tryz.ntmps184
 go_wp2_with (first
  |(go_at_call 231;refine(zJ2 b i 10 1 dD dD dD stQ).zM ?_;clear H;intro wn H)
  |(go_at_call 230;refine(zJ1 _ hl.out stQ).zM ?_;clear H;intro wn H))
 go_ret;exact⟨rfl,H.out⟩
theorem zEV(top:Nat)(ht:top<128):∀(f r n u:Nat) (rest:Bs),u<(top+1)*128 ^ f→(r=0∨0<u)→zBF top (f+1) r n (putU u++rest)=.ok (n+u*128 ^ r,r+(putU u).length)
 |f,r,n,u,rest,hu,hr=>by
  by_cases h:u<128
  ·have h1:u % 256=u:=by omega
   have h2:(UInt8.ofNat u).toNat=u:=by simp[h1]
   rw[zCy h,List.singleton_append,zIv]
   ·rw[h2,Nat.mod_eq_of_lt h];rfl
   ·rw[h2,Nat.mod_eq_of_lt h];rintro(⟨rfl,h⟩|⟨h,h',_⟩)
    ·simp at hu;omega
    ·omega
   ·rw[h2];omega
  ·have h2:(UInt8.ofNat (u % 128+128)).toNat=u % 128+128:=by simp;omega
   match f,hu with
   |0,hu=>simp at hu;omega
   |f+1,hu=>
    rw[zFR h,List.cons_append,zIu]
    ·have hq:u / 128<(top+1)*128 ^ f:=by
      rw[Nat.pow_succ,←Nat.mul_assoc]at hu;exact Nat.div_lt_of_lt_mul (by rw[Nat.mul_comm];exact hu)
     rw[zEV top ht f (r+1) _ (u / 128) rest hq (.inr oM),h2];have e1:(u % 128+128) % 128=u % 128:=by omega
     rw[e1,Nat.pow_succ]
     have e2:u % 128*128 ^ r+u / 128*(128 ^ r*128)=u*128 ^ r:=by
      have:u / 128*(128 ^ r*128)=(u / 128*128)*128 ^ r:=by rw[Nat.mul_comm (128 ^ r),Nat.mul_assoc]
      rw[this,←Nat.add_mul]
      congr 1
      omega
     have e3:(UInt8.ofNat (u % 128+128)::putU (u / 128)).length=1+(putU (u / 128)).length:=by simp;omega
     rw[e3,Jm,e2,Jm]
    ·rw[h2];rintro(⟨h,_⟩|⟨_,_,h⟩)<;>omega
    ·rw[h2];omega
theorem zIE(s:Bs)(pos:Nat)(_h:pos≤s.length):(⟨s,pos,0⟩:InS).take 1=match s.drop pos with|[]=>([],⟨s,pos,1⟩)|c::_=>([c],⟨s,pos+1,0⟩):=by
 have hl:=Jh (l:=s) (i:=pos)
 cases hd:s.drop pos with
 |nil=>
  rw[hd]at hl;simp at hl;rw[InS.take_short dD (by simp only[InS.left];omega)]
  rfl
 |cons c t=>
  rw[hd]at hl;simp at hl;rw[InS.take_ok rfl dD (by simp only[InS.left];omega)];simp only[hd]
  rfl
theorem zDy{i:InS}(h:i.err≠0)(n:Int):i.take n=([],i):=InS.take_err h
theorem zFl{s:Bs}{pos:Nat}{c:UInt8}{t:Bs}(h:s.drop pos=c::t):s.drop (pos+1)=t∧pos<s.length:=by
 have h1:s.drop (pos+1)=(s.drop pos).drop 1:=by rw[Jk]
 refine⟨by rw[h1,h];rfl,?_⟩;have:=congrArg List.length h;rw[Jh]at this;simp at this
 omega
theorem zG4(top:Nat):∀(f r n:Nat) (s:Bs) (pos m k:Nat),pos≤s.length→zBF top f r n (s.drop pos)=.ok (m,k)→r<k∧pos+(k - r)≤s.length∧digs top f r n ⟨s,pos,0⟩=(m,⟨s,pos+(k - r),0⟩)
 |0,r,n,s,pos,m,k,hp,h=>by
  cases hd:s.drop pos with
  |nil=>rw[hd,zC9]at h;cases h
  |cons c t=>rw[hd,zLL]at h;cases h
 |f+1,r,n,s,pos,m,k,hp,h=>by
  cases hd:s.drop pos with
  |nil=>rw[hd,zC9]at h;cases h
  |cons c t=>
   have ht:=zIE s pos hp;rw[hd]at h ht;simp only at ht;obtain⟨hd2,hlt⟩:=zFl hd
   by_cases hb:(f=0∧top<c.toNat % 128)∨(0<r∧c.toNat % 128=0∧c.toNat<128)
   ·rw[zPc hb]at h;cases h
   ·by_cases hm:128≤c.toNat
    ·rw[zIu hb hm]at h;rw[zEC ht hb hm];obtain⟨h1,h3,h2⟩:=zG4 top f (r+1) _ s (pos+1) m k hlt (by rw[hd2];exact h);have e:pos+1+(k - (r+1))=pos+(k - r):=by omega
     rw[e]at h2 h3;exact⟨oM,h3,h2⟩
    ·rw[zIv hb hm]at h;rw[zG6 ht hb hm]
     cases h
     have e:r+1 - r=1:=by omega
     rw[e];exact⟨oM,hlt,rfl⟩
theorem zJv(top:Nat):∀(f r n:Nat) (s:Bs) (pos:Nat) (e:Int),pos≤s.length→zBF top f r n (s.drop pos)=.error e→e≠0∧∃p,p≤s.length∧digs top f r n ⟨s,pos,0⟩=(0,⟨s,p,e⟩)
 |0,r,n,s,pos,e,hp,h=>by
  have ht:=zIE s pos hp
  cases hd:s.drop pos with
  |nil=>rw[hd]at h ht;rw[zC9]at h;cases h;exact⟨dD,pos,hp,zEB ht⟩
  |cons c t=>
   obtain⟨hd2,hlt⟩:=zFl hd;rw[hd]at h ht;rw[zLL]at h;cases h;exact⟨dD,pos+1,hlt,zLb ht⟩
 |f+1,r,n,s,pos,e,hp,h=>by
  have ht:=zIE s pos hp
  cases hd:s.drop pos with
  |nil=>rw[hd]at h ht;rw[zC9]at h;cases h;exact⟨dD,pos,hp,zEB ht⟩
  |cons c t=>
   rw[hd]at h ht;simp only at ht;obtain⟨hd2,hlt⟩:=zFl hd
   by_cases hb:(f=0∧top<c.toNat % 128)∨(0<r∧c.toNat % 128=0∧c.toNat<128)
   ·rw[zPc hb]at h
    cases h
    rw[zJw ht hb];exact⟨dD,pos+1,hlt,rfl⟩
   ·by_cases hm:128≤c.toNat
    ·rw[zIu hb hm]at h;rw[zEC ht hb hm];exact zJv top f (r+1) _ s (pos+1) e hlt (by rw[hd2];exact h)
    ·rw[zIv hb hm]at h
     cases h
theorem zIf(top f r n:Nat){i:InS}(h:i.err≠0):digs top f r n i=(0,i):=zEB (zDy h 1)
theorem zJV(top:Nat)(ht:top<128):∀(f r n:Nat) (l:Bs) (m k:Nat),zBF top f r n l=.ok (m,k)→∃u,m=n+u*128 ^ r∧putU u=l.take (k - r)∧r<k∧k - r≤l.length∧(r=0∨0<u)
 |0,r,n,l,m,k,h=>by
  cases l with
  |nil=>rw[zC9]at h;cases h
  |cons c t=>rw[zLL]at h;cases h
 |f+1,r,n,l,m,k,h=>by
  cases l with
  |nil=>rw[zC9]at h;cases h
  |cons c t=>
   by_cases hb:(f=0∧top<c.toNat % 128)∨(0<r∧c.toNat % 128=0∧c.toNat<128)
   ·rw[zPc hb]at h;cases h
   ·have hc:=c.toNat_lt
    by_cases hm:128≤c.toNat
    ·rw[zIu hb hm]at h;obtain⟨u,h1,h2,h3,h4,h5⟩:=zJV top ht f (r+1) _ t m k h;have hu:0<u:=by omega
     refine⟨c.toNat % 128+128*u,?_,?_,oM,by simp;omega,oM⟩
     ·rw[h1,Nat.pow_succ,Jm,Nat.add_mul]
      congr 2
      rw[Nat.mul_comm (128 ^ r),←Nat.mul_assoc,Nat.mul_comm u 128]
     ·have e1:(c.toNat % 128+128*u) % 128+128=c.toNat:=by omega
      have e2:(c.toNat % 128+128*u) / 128=u:=by omega
      have e3:k - r=(k - (r+1))+1:=by omega
      rw[zFR oM,e1,e2,h2,e3,List.take_succ_cons,UInt8.ofNat_toNat]
    ·rw[zIv hb hm]at h
     cases h
     have e:r+1 - r=1:=by omega
     have e2:c.toNat % 128=c.toNat:=by omega
     refine⟨c.toNat,by rw[e2],?_,oM,by rw[e];simp,?_⟩
     ·rw[zCy oM,e,UInt8.ofNat_toNat];rfl
     ·omega
theorem zFu{top most:Nat}(ht:top<128){l:Bs}{m k:Nat}(h:zBF top most 0 0 l=.ok (m,k)):putU m=l.take k∧0<k∧k≤l.length:=by
 obtain⟨u,h1,h2,h3,h4,_⟩:=zJV top ht _ _ _ _ _ _ h;simp at h1 h2 h4;subst h1;exact⟨h2,h3,h4⟩
def zB0 (l:Bs):Except Int (Int×Nat):=match zBF 15 5 0 0 l with| .ok x=> .ok (zDv x.1,x.2)| .error e=> .error e
def zDT (l:Bs):Except Int (Int×Nat):=match zBF 1 10 0 0 l with| .ok x=> .ok (zDv x.1,x.2)| .error e=> .error e
structure Rds {α:Type}(f:InS→α×InS) (p:Bs→Except Int (α×Nat)) (d:α):Prop where
 ok:∀(s:Bs) (pos:Nat) (a:α) (k:Nat),pos≤s.length→p (s.drop pos)=.ok (a,k)→pos+k≤s.length∧f ⟨s,pos,0⟩=(a,⟨s,pos+k,0⟩)
 err:∀(s:Bs) (pos:Nat) (e:Int),pos≤s.length→p (s.drop pos)=.error e→e≠0∧∃q,q≤s.length∧f ⟨s,pos,0⟩=(d,⟨s,q,e⟩)
 stuck:∀i:InS,i.err≠0→f i=(d,i)
theorem zDc:Rds InS.vint zB0 0:=by
 refine⟨?_,?_,?_⟩
 ·intro s pos a k hp h;unfold zB0 at h
  split at h
  ·rename_i x hx
   cases h
   obtain⟨h1,h3,h2⟩:=zG4 15 5 0 0 s pos x.1 x.2 hp hx;refine⟨h3,?_⟩;simp only[InS.vint,InS.short,h2]
   rfl
  ·cases h
 ·intro s pos e hp h;unfold zB0 at h
  split at h
  ·cases h
  ·rename_i x hx
   cases h
   obtain⟨h1,p,h3,h2⟩:=zJv 15 5 0 0 s pos _ hp hx;refine⟨h1,p,h3,?_⟩;simp only[InS.vint,InS.short,h2]
   rfl
 ·intro i hi;simp only[InS.vint,InS.short,zIf _ _ _ _ hi]
  rfl
theorem zFP:Rds InS.vlong zDT 0:=by
 refine⟨?_,?_,?_⟩
 ·intro s pos a k hp h;unfold zDT at h
  split at h
  ·rename_i x hx
   cases h
   obtain⟨h1,h3,h2⟩:=zG4 1 10 0 0 s pos x.1 x.2 hp hx;refine⟨h3,?_⟩;simp only[InS.vlong,InS.long,h2]
   rfl
  ·cases h
 ·intro s pos e hp h;unfold zDT at h
  split at h
  ·cases h
  ·rename_i x hx
   cases h
   obtain⟨h1,p,h3,h2⟩:=zJv 1 10 0 0 s pos _ hp hx;refine⟨h1,p,h3,?_⟩;simp only[InS.vlong,InS.long,h2]
   rfl
 ·intro i hi;simp only[InS.vlong,InS.long,zIf _ _ _ _ hi]
  rfl
theorem zF1(n:Int)(h0: -2147483648≤n)(h1:n<2147483648)(rest:Bs):zB0 (putU (zBc n)++rest)=.ok (n,(putU (zBc n)).length):=by
 have hf:zBc n<(15+1)*128 ^ 4:=by unfold zBc;split<;>omega
 simp only[zB0,zEV 15 dD 4 0 0 (zBc n) rest hf (.inl rfl)];simp[zLC]
theorem zJT(n:Int)(h0: -9223372036854775808≤n)(h1:n<9223372036854775808)(rest:Bs):zDT (putU (zBc n)++rest)=.ok (n,(putU (zBc n)).length):=by
 have hf:zBc n<(1+1)*128 ^ 9:=by unfold zBc;split<;>omega
 simp only[zDT,zEV 1 dD 9 0 0 (zBc n) rest hf (.inl rfl)];simp[zLC]
theorem zEa{l:Bs}{n:Int}{k:Nat}(h:zB0 l=.ok (n,k)):putU (zBc n)=l.take k∧0<k∧k≤l.length∧ -2147483648≤n∧n<2147483648:=by
 unfold zB0 at h
 split at h
 ·rename_i x hx
  cases h
  obtain⟨h1,h2,h3⟩:=zFu dD hx
  have h4:x.1<4294967296:=by
   have h5:=zG5 15 dD 4 0 0 ⟨l,0,0⟩ dD;obtain⟨_,_,h6⟩:=zG4 15 5 0 0 l 0 x.1 x.2 (Jd _) hx;rw[h6]at h5;exact h5
  exact⟨by rw[zKY];exact h1,h2,h3,zEN _ h4⟩
 ·cases h
theorem zJU{l:Bs}{n:Int}{k:Nat}(h:zDT l=.ok (n,k)):putU (zBc n)=l.take k∧0<k∧k≤l.length∧ -9223372036854775808≤n∧n<9223372036854775808:=by
 unfold zDT at h
 split at h
 ·rename_i x hx
  cases h
  obtain⟨h1,h2,h3⟩:=zFu dD hx
  have h4:x.1<18446744073709551616:=by
   have h5:=zG5 1 dD 9 0 0 ⟨l,0,0⟩ dD;obtain⟨_,_,h6⟩:=zG4 1 10 0 0 l 0 x.1 x.2 (Jd _) hx;rw[h6]at h5;exact h5
  exact⟨by rw[zKY];exact h1,h2,h3,zM5 _ h4⟩
 ·cases h
variable {W0 w:World}{K:Know}{L:List Res}
structure BlobS where
 null:Bool
 data:Bs
deriving DecidableEq
def bv (b:BlobS):Value:=.agg #[U b.null,Z (bb b.data)]
def BlobS.right (b:BlobS):Bool:= !b.null||b.data.isEmpty
def BlobS.len (b:BlobS):Int:=if b.null then -1 else b.data.length
def BlobS.none:BlobS:=⟨true,[]⟩
theorem Holds.rawMem{w:World}{b:Nat}{c:Array Value}{T:TypeId}:∀{L:List Res}{S:Nat→Prop},Holds L w S→.raw b c T∈L→w.heap[b]? =some (.cells c T (0,0))
 |[],_,_,hm=>by cases hm
 |r::L,S,⟨S1,S2,h1,h2,_⟩,hm=>by
  cases hm with
  |head=>exact h1.1
  |tail _ hm=>exact Holds.rawMem h2 hm
theorem St.rawMem{b:Nat}{c:Array Value}{T:TypeId}(h:St W0 w K L)(hm:.raw b c T∈L):w.heap[b]? =some (.cells c T (0,0)):=by
 obtain⟨_,S,F,hh,_⟩:=h;exact hh.rawMem hm
theorem St.cellOf{b:Nat}{c:Array Value}{T:TypeId}(h:St W0 w K L)(hm:.raw b c T∈L)(j:Nat):w.cell? ⟨b,j,none⟩=c[j]? :=zAK (h.rawMem hm) j
theorem St.freeOf{b:Nat}{c:Array Value}{T:TypeId}(h:St W0 w K L)(hm:.raw b c T∈L)(j:Nat):w.frozen? ⟨b,j,none⟩=false:=zCV (h.rawMem hm) j
theorem St.cast{L':List Res}(h:St W0 w K L)(e:L=L'):St W0 w K L':=e ▸ h
theorem OutS.len_fail(o:OutS)(e:Int):(o.fail e).bytes.length=o.bytes.length:=by unfold OutS.fail;split<;>rfl
theorem OutS.len_put(o:OutS)(s:Bs):(o.put s).bytes.length≤o.bytes.length+s.length:=by unfold OutS.put;split<;>simp
theorem OutS.len_int(o:OutS)(n size:Int):(o.int n size).bytes.length≤o.bytes.length+8:=by
 unfold OutS.int
 split
 ·rename_i h
  have:=o.len_put (zAa n size.toNat);rw[zAb]at this;have:=h.2.1
  omega
 ·rw[OutS.len_fail];omega
theorem OutS.ok_fail{o:OutS}{e:Int}{n:Nat}(h:o.ok n):(o.fail e).ok n:=by unfold OutS.ok at*;rw[OutS.len_fail];exact h
theorem OutS.ok_mono{o:OutS}{n m:Nat}(h:o.ok n)(hm:m≤n):o.ok m:=by unfold OutS.ok at*;omega
theorem OutS.ok_int{o:OutS}{a b:Int}{n m:Nat}(h:o.ok n)(hm:8+m≤n):(o.int a b).ok m:=by unfold OutS.ok at*;have:=o.len_int a b;omega
theorem OutS.len_putInt(o:OutS)(n:Int)(h: -9223372036854775808≤n∧n<9223372036854775808):(o.putInt n).bytes.length≤o.bytes.length+10:=by
 unfold OutS.putInt
 split
 ·have:=o.len_put (putU (zBc n));have:=zEn _ (zDE h.1 h.2)
  omega
 ·rw[OutS.len_fail];omega
theorem OutS.ok_putInt{o:OutS}{a:Int}{n m:Nat}(h:o.ok n)(hm:10+m≤n)(ha: -9223372036854775808≤a∧a<9223372036854775808):(o.putInt a).ok m:=by unfold OutS.ok at*;have:=o.len_putInt a ha;omega
theorem zJE(s:Bs)(h:St W0 w K L):
 Calls Jb 144 #[Z (bb s)] w fun en w'=>en=Y (bv ⟨false,s⟩)∧St W0 w' K L:=by
 have H:=hQd h;clear h;go_enter Tryz.func144,Tryz.ntmps144;go_wp2;refine bodyPost_ret (v:=bv ⟨false,s⟩) (by simp[results,Tryz.results144,go_sem,bv]) rfl ⟨rfl,?_⟩;exact H.out.alloc _
theorem zQ5(h:St W0 w K L):
 Calls Jb 225 #[] w fun en w'=>en=Y (bv BlobS.none)∧St W0 w' K L:=by
 have H:=hQd h;clear h;go_enter Tryz.func225,Tryz.ntmps225;go_wp2;refine bodyPost_ret (v:=bv BlobS.none) (by simp[results,Tryz.results225,go_sem,bv,BlobS.none];rfl) rfl ⟨rfl,?_⟩;exact H.out.alloc _
theorem zCG(b:BlobS)(h:St W0 w K L):
 Calls Jb 149 #[bv b] w fun en w'=>en=Y (U b.right)∧St W0 w' K L:=by
 have H:=hQd h;clear h;obtain⟨n,d⟩:=b
 cases n
 ·go_enter Tryz.func149,Tryz.ntmps149;unfold bv;go_wp2;go_ret;exact⟨rfl,H.out.alloc _⟩
 ·go_enter Tryz.func149,Tryz.ntmps149;unfold bv;go_wp2;go_ret;exact⟨by cases d<;>rfl,H.out.alloc _⟩
theorem zHh(b:BlobS)(h:St W0 w K L):
 Calls Jb 150 #[bv b] w fun en w'=>en=Y (I O b.len)∧St W0 w' K L:=by
 have H:=hQd h;clear h;obtain⟨n,d⟩:=b
 cases n
 ·go_enter Tryz.func150,Tryz.ntmps150;unfold bv;go_wp2;go_ret;exact⟨rfl,H.out.alloc _⟩
 ·go_enter Tryz.func150,Tryz.ntmps150;unfold bv;go_wp2;go_ret;exact⟨rfl,H.out.alloc _⟩
def OutS.putData (o:OutS) (b:BlobS):OutS:=(if b.right then o else o.fail 4).put b.data
def OutS.putFixed (o:OutS) (b:BlobS) (size:Int):OutS:=(o.int b.len size).putData b
def OutS.putVaried (o:OutS) (b:BlobS):OutS:=(o.putInt b.len).putData b
theorem zFF(p:Nat)(o:OutS)(b:BlobS)(h:St W0 w K (.out p o::L))(hr:o.ok b.data.length):
 Calls Jb 151 #[zAc p,bv b] w fun en w'=>en=Y (.tuple #[])∧St W0 w' K (.out p (o.putData b)::L):=by
 have H:=hQd (h.allocRaw #[U b.null,Z (bb b.data)] 23);have HR:=hQd hr;clear h hr;go_enter Tryz.func151,Tryz.ntmps151;unfold bv
 go_wp2_with (first
  |(go_at_call 149;refine(zCG b stQ).zM ?_;clear H;intro wn H;have c1:=H.out.cellOf (b:=w.heap.size) (c:= #[U b.null,Z (bb b.data)]) (T:=23) sM 1;simp at c1)
  |(go_at_call 95;refine(zDW _ _ _ stQ).zM ?_;clear H;intro wn H;have c1:=H.out.cellOf (b:=w.heap.size) (c:= #[U b.null,Z (bb b.data)]) (T:=23) sM 1;simp at c1)
  |(go_at_call 51;refine(zPv _ _ _ stQ (by first|exact HR.out|exact OutS.ok_fail HR.out)).zM ?_;clear H;intro wn H))
 all_goals
  go_end0;exact⟨rfl,H.out.p1.drop.cast (by simp_all [OutS.putData])⟩
theorem BlobS.len_range(b:BlobS)(h:b.data.length≤140737488355328): -9223372036854775808≤b.len∧b.len<9223372036854775808:=by
 unfold BlobS.len
 split<;>omega
theorem zBb(p:Nat)(o:OutS)(b:BlobS)(size:Int)(h:St W0 w K (.out p o::L))(hr:o.ok (b.data.length+8)):
 Calls Jb 96 #[zAc p,bv b,I O size] w fun en w'=>en=Y (.tuple #[])∧St W0 w' K (.out p (o.putFixed b size)::L):=by
 have H:=hQd (h.allocRaw #[U b.null,Z (bb b.data)] 23);have HR:=hQd hr;have HB:=hQd (b.len_range (by unfold OutS.ok at hr;omega));clear h hr;go_enter Tryz.func96,Tryz.ntmps96;unfold bv
 go_wp2_with (first
  |(go_at_call 150;refine(zHh b stQ).zM ?_;clear H;intro wn H;have c0:=H.out.cellOf (b:=w.heap.size) (c:= #[U b.null,Z (bb b.data)]) (T:=23) sM 0;have c1:=H.out.cellOf (b:=w.heap.size) (c:= #[U b.null,Z (bb b.data)]) (T:=23) sM 1;simp at c0 c1)
  |(go_at_call 50;refine(zGb _ _ _ _ HB.out stQ (OutS.ok_mono HR.out oM)).zM ?_;clear H;intro wn H;have c0:=H.out.cellOf (b:=w.heap.size) (c:= #[U b.null,Z (bb b.data)]) (T:=23) sM 0;have c1:=H.out.cellOf (b:=w.heap.size) (c:= #[U b.null,Z (bb b.data)]) (T:=23) sM 1;simp at c0 c1)
  |(go_at_call 151;refine(zFF _ _ b stQ (OutS.ok_int HR.out oM)).zM ?_;clear H;intro wn H))
 go_end0;exact⟨rfl,H.out.p1.drop⟩
theorem zBS(p:Nat)(o:OutS)(b:BlobS)(h:St W0 w K (.out p o::L))(hr:o.ok (b.data.length+16)):
 Calls Jb 191 #[zAc p,bv b] w fun en w'=>en=Y (.tuple #[])∧St W0 w' K (.out p (o.putVaried b)::L):=by
 have H:=hQd (h.allocRaw #[U b.null,Z (bb b.data)] 23);have HR:=hQd hr;have HB:=hQd (b.len_range (by unfold OutS.ok at hr;omega));clear h hr;go_enter Tryz.func191,Tryz.ntmps191;unfold bv
 go_wp2_with (first
  |(go_at_call 150;refine(zHh b stQ).zM ?_;clear H;intro wn H;have c0:=H.out.cellOf (b:=w.heap.size) (c:= #[U b.null,Z (bb b.data)]) (T:=23) sM 0;have c1:=H.out.cellOf (b:=w.heap.size) (c:= #[U b.null,Z (bb b.data)]) (T:=23) sM 1;simp at c0 c1)
  |(go_at_call 190;refine(zF6 _ _ _ HB.out stQ (OutS.ok_mono HR.out oM)).zM ?_;clear H;intro wn H;have c0:=H.out.cellOf (b:=w.heap.size) (c:= #[U b.null,Z (bb b.data)]) (T:=23) sM 0;have c1:=H.out.cellOf (b:=w.heap.size) (c:= #[U b.null,Z (bb b.data)]) (T:=23) sM 1;simp at c0 c1)
  |(go_at_call 151;refine(zFF _ _ b stQ (OutS.ok_putInt HR.out oM HB.out)).zM ?_;clear H;intro wn H))
 go_end0;exact⟨rfl,H.out.p1.drop⟩
def OutS.putText (o:OutS) (s:Bs):OutS:=o.putFixed ⟨false,s⟩ 2
def OutS.putName (o:OutS) (s:Bs):OutS:=o.putVaried ⟨false,s⟩
theorem zDr(p:Nat)(o:OutS)(s:Bs)(h:St W0 w K (.out p o::L))(hr:o.ok (s.length+8)):
 Calls Jb 89 #[zAc p,Z (bb s)] w fun en w'=>en=Y (.tuple #[])∧St W0 w' K (.out p (o.putText s)::L):=by
 have H:=hQd h;have HR:=hQd hr;clear h hr;go_enter Tryz.func89,Tryz.ntmps89
 go_wp2_with (first
  |(go_at_call 144;refine(zJE s stQ).zM ?_;clear H;intro wn H)
  |(go_at_call 96;refine(zBb _ _ ⟨false,s⟩ 2 stQ HR.out).zM ?_;clear H;intro wn H))
 go_end0;exact⟨rfl,H.out⟩
theorem zFE(p:Nat)(o:OutS)(s:Bs)(h:St W0 w K (.out p o::L))(hr:o.ok (s.length+16)):
 Calls Jb 132 #[zAc p,Z (bb s)] w fun en w'=>en=Y (.tuple #[])∧St W0 w' K (.out p (o.putName s)::L):=by
 have H:=hQd h;have HR:=hQd hr;clear h hr;go_enter Tryz.func132,Tryz.ntmps132
 go_wp2_with (first
  |(go_at_call 144;refine(zJE s stQ).zM ?_;clear H;intro wn H)
  |(go_at_call 191;refine(zBS _ _ ⟨false,s⟩ stQ HR.out).zM ?_;clear H;intro wn H))
 go_end0;exact⟨rfl,H.out⟩
variable {W0 w:World}{K:Know}{L:List Res}
def InS.tk (i:InS) (n:Int):BlobS×InS:=if n= -1 then(BlobS.none,i)else(⟨false,(i.take n).1⟩,(i.take n).2)
def InS.fixed (i:InS) (size:Int):BlobS×InS:=(i.int size).2.tk (i.int size).1
def InS.varied (i:InS):BlobS×InS:=i.vint.2.tk i.vint.1
def InS.bytes (i:InS) (b:BlobS):Bs×InS:=(b.data,if b.null then i.fail 4 else i)
def InS.text (i:InS):Bs×InS:=(i.fixed 2).2.bytes (i.fixed 2).1
def InS.name (i:InS):Bs×InS:=i.varied.2.bytes i.varied.1
theorem zLq(p:Nat)(i:InS)(n:Int)(h:St W0 w K (.inp p i::L)):
 Calls Jb 173 #[zAe p,I O n] w fun en w'=>en=Y (bv (i.tk n).1)∧St W0 w' K (.inp p (i.tk n).2::L):=by
 have H:=hQd (h.allocRaw #[U false,Z ⟨#[]⟩] 23);clear h;go_enter Tryz.func173,Tryz.ntmps173
 go_wp2_with (first
  |(go_at_call 67;refine(zSD _ _ _ stQ).zM ?_;clear H;intro wn H;have f0:=H.out.freeOf (b:=w.heap.size) (c:= #[U false,Z ⟨#[]⟩]) (T:=23) sM 0;have f1:=H.out.freeOf (b:=w.heap.size) (c:= #[U false,Z ⟨#[]⟩]) (T:=23) sM 1;have c0:=H.out.cellOf (b:=w.heap.size) (c:= #[U false,Z ⟨#[]⟩]) (T:=23) sM 0;have c1:=H.out.cellOf (b:=w.heap.size) (c:= #[U false,Z ⟨#[]⟩]) (T:=23) sM 1;simp at c0 c1)
  |(go_at_call 144;refine(zJE (i.take n).1 stQ).zM ?_;clear H;intro wn H;have f0:=H.out.freeOf (b:=w.heap.size) (c:= #[U false,Z ⟨#[]⟩]) (T:=23) sM 0;have f1:=H.out.freeOf (b:=w.heap.size) (c:= #[U false,Z ⟨#[]⟩]) (T:=23) sM 1;have c0:=H.out.cellOf (b:=w.heap.size) (c:= #[U false,Z ⟨#[]⟩]) (T:=23) sM 0;have c1:=H.out.cellOf (b:=w.heap.size) (c:= #[U false,Z ⟨#[]⟩]) (T:=23) sM 1;simp at c0 c1;unfold bv)
  |(go_at_call 225;refine(zQ5 stQ).zM ?_;clear H;intro wn H;have f0:=H.out.freeOf (b:=w.heap.size) (c:= #[U false,Z ⟨#[]⟩]) (T:=23) sM 0;have f1:=H.out.freeOf (b:=w.heap.size) (c:= #[U false,Z ⟨#[]⟩]) (T:=23) sM 1;have c0:=H.out.cellOf (b:=w.heap.size) (c:= #[U false,Z ⟨#[]⟩]) (T:=23) sM 0;have c1:=H.out.cellOf (b:=w.heap.size) (c:= #[U false,Z ⟨#[]⟩]) (T:=23) sM 1;simp at c0 c1;unfold bv))
 ·have hn:n= -1:=by simpa using ‹(n== -1)=true›
  have e:i.tk n=(BlobS.none,i):=if_pos hn;rw[e];refine bodyPost_ret (v:=bv BlobS.none) (by simp[results,Tryz.results173,go_sem,bv,c0,c1]) rfl ⟨rfl,?_⟩;exact((H.out.rawSet 0 _).rawSet 1 _).drop
 ·have hn:n≠ -1:=by simpa using ‹(n== -1)=false›
  have e:i.tk n=(⟨false,(i.take n).1⟩,(i.take n).2):=if_neg hn;rw[e];refine bodyPost_ret (v:=bv ⟨false,(i.take n).1⟩) (by simp[results,Tryz.results173,go_sem,bv,c0,c1]) rfl ⟨rfl,?_⟩;exact((H.out.p1.rawSet 0 _).rawSet 1 _).drop
theorem zIn(p:Nat)(i:InS)(b:BlobS)(h:St W0 w K (.inp p i::L)):
 Calls Jb 143 #[zAe p,bv b] w fun en w'=>en=Y (Z (bb (i.bytes b).1))∧St W0 w' K (.inp p (i.bytes b).2::L):=by
 obtain⟨n,d⟩:=b
 cases n
 ·have H:=hQd (h.allocRaw #[U false,Z (bb d)] 23);clear h;go_enter Tryz.func143,Tryz.ntmps143;unfold bv;go_wp2_with (go_at_call 70;refine(zBV _ _ _ stQ).zM ?_;clear H;intro wn H;have c1:=H.out.cellOf (b:=w.heap.size) (c:= #[U false,Z (bb d)]) (T:=23) sM 1;simp at c1);go_ret;exact⟨rfl,H.out.drop⟩
 ·have H:=hQd (h.allocRaw #[U true,Z (bb d)] 23);clear h;go_enter Tryz.func143,Tryz.ntmps143;unfold bv;go_wp2_with (go_at_call 70;refine(zBV _ _ _ stQ).zM ?_;clear H;intro wn H;have c1:=H.out.cellOf (b:=w.heap.size) (c:= #[U true,Z (bb d)]) (T:=23) sM 1;simp at c1);go_ret;exact⟨rfl,H.out.p1.drop⟩
theorem zDK(p:Nat)(i:InS)(n:Int)(h:St W0 w K (.inp p i::L)):
 Calls Jb 117 #[zAe p,I O n] w fun en w'=>en=Y (bv (i.fixed n).1)∧St W0 w' K (.inp p (i.fixed n).2::L):=by
 have H:=hQd (h.allocRaw #[U false,Z ⟨#[]⟩] 23);clear h;go_enter Tryz.func117,Tryz.ntmps117
 go_wp2_with (first
  |(go_at_call 66;refine(zCa _ _ _ stQ).zM ?_;clear H;intro wn H;have f0:=H.out.freeOf (b:=w.heap.size) (c:= #[U false,Z ⟨#[]⟩]) (T:=23) sM 0;have f1:=H.out.freeOf (b:=w.heap.size) (c:= #[U false,Z ⟨#[]⟩]) (T:=23) sM 1;have c0:=H.out.cellOf (b:=w.heap.size) (c:= #[U false,Z ⟨#[]⟩]) (T:=23) sM 0;have c1:=H.out.cellOf (b:=w.heap.size) (c:= #[U false,Z ⟨#[]⟩]) (T:=23) sM 1;simp at c0 c1)
  |(go_at_call 173;refine(zLq _ _ _ stQ).zM ?_;clear H;intro wn H;have f0:=H.out.freeOf (b:=w.heap.size) (c:= #[U false,Z ⟨#[]⟩]) (T:=23) sM 0;have f1:=H.out.freeOf (b:=w.heap.size) (c:= #[U false,Z ⟨#[]⟩]) (T:=23) sM 1;have c0:=H.out.cellOf (b:=w.heap.size) (c:= #[U false,Z ⟨#[]⟩]) (T:=23) sM 0;have c1:=H.out.cellOf (b:=w.heap.size) (c:= #[U false,Z ⟨#[]⟩]) (T:=23) sM 1;simp at c0 c1;unfold bv))
 refine bodyPost_ret (v:=bv (i.fixed n).1) (by simp[results,Tryz.results117,go_sem,bv,c0,c1];exact⟨rfl,rfl⟩) rfl ⟨rfl,?_⟩;exact((H.out.p1.rawSet 0 _).rawSet 1 _).drop
theorem zAS(p:Nat)(i:InS)(h:St W0 w K (.inp p i::L)):
 Calls Jb 183 #[zAe p] w fun en w'=>en=Y (bv i.varied.1)∧St W0 w' K (.inp p i.varied.2::L):=by
 have H:=hQd (h.allocRaw #[U false,Z ⟨#[]⟩] 23);clear h;go_enter Tryz.func183,Tryz.ntmps183
 go_wp2_with (first
  |(go_at_call 185;refine(zF7 _ _ stQ).zM ?_;clear H;intro wn H;have f0:=H.out.freeOf (b:=w.heap.size) (c:= #[U false,Z ⟨#[]⟩]) (T:=23) sM 0;have f1:=H.out.freeOf (b:=w.heap.size) (c:= #[U false,Z ⟨#[]⟩]) (T:=23) sM 1;have c0:=H.out.cellOf (b:=w.heap.size) (c:= #[U false,Z ⟨#[]⟩]) (T:=23) sM 0;have c1:=H.out.cellOf (b:=w.heap.size) (c:= #[U false,Z ⟨#[]⟩]) (T:=23) sM 1;simp at c0 c1)
  |(go_at_call 173;refine(zLq _ _ _ stQ).zM ?_;clear H;intro wn H;have f0:=H.out.freeOf (b:=w.heap.size) (c:= #[U false,Z ⟨#[]⟩]) (T:=23) sM 0;have f1:=H.out.freeOf (b:=w.heap.size) (c:= #[U false,Z ⟨#[]⟩]) (T:=23) sM 1;have c0:=H.out.cellOf (b:=w.heap.size) (c:= #[U false,Z ⟨#[]⟩]) (T:=23) sM 0;have c1:=H.out.cellOf (b:=w.heap.size) (c:= #[U false,Z ⟨#[]⟩]) (T:=23) sM 1;simp at c0 c1;unfold bv))
 refine bodyPost_ret (v:=bv i.varied.1) (by simp[results,Tryz.results183,go_sem,bv,c0,c1];exact⟨rfl,rfl⟩) rfl ⟨rfl,?_⟩;exact((H.out.p1.rawSet 0 _).rawSet 1 _).drop
theorem zLp(p:Nat)(i:InS)(h:St W0 w K (.inp p i::L)):
 Calls Jb 87 #[zAe p] w fun en w'=>en=Y (Z (bb i.text.1))∧St W0 w' K (.inp p i.text.2::L):=by
 have H:=hQd h;clear h;go_enter Tryz.func87,Tryz.ntmps87
 go_wp2_with (first
  |(go_at_call 117;refine(zDK _ _ 2 stQ).zM ?_;clear H;intro wn H)
  |(go_at_call 143;refine(zIn _ _ (i.fixed 2).1 stQ).zM ?_;clear H;intro wn H))
 go_ret;exact⟨rfl,H.out⟩
theorem zEI(p:Nat)(i:InS)(h:St W0 w K (.inp p i::L)):
 Calls Jb 128 #[zAe p] w fun en w'=>en=Y (Z (bb i.name.1))∧St W0 w' K (.inp p i.name.2::L):=by
 have H:=hQd h;clear h;go_enter Tryz.func128,Tryz.ntmps128
 go_wp2_with (first
  |(go_at_call 183;refine(zAS _ _ stQ).zM ?_;clear H;intro wn H)
  |(go_at_call 143;refine(zIn _ _ i.varied.1 stQ).zM ?_;clear H;intro wn H))
 go_ret;exact⟨rfl,H.out⟩
def gotS (s:Bs) (head:Nat) (n:Int):Except Int (BlobS×Nat):=
 if n= -1 then .ok (BlobS.none,head)
 else if n<0 then .error 4
 else if (s.length:Int) - head<n then .error 1
 else .ok (⟨false,(s.drop head).take n.toNat⟩,head+n.toNat)
def zAI (size:Nat) (s:Bs):Except Int (BlobS×Nat):=if s.length<size then .error 1 else gotS s size (sInt (s.take size))
def zAn (s:Bs):Except Int (BlobS×Nat):=match zB0 s with| .ok x=>gotS s x.2 x.1| .error e=> .error e
def zAJ (size:Nat) (l:Bs):Except Int (Int×Nat):=if l.length<size then .error 1 else .ok (sInt (l.take size),size)
theorem zAW(size:Nat)(h1:1≤size)(h8:size≤8):Rds (fun i=>i.int size) (zAJ size) 0:=by
 have hc:∀i:InS,i.int size=(sInt (i.take size).1,(i.take size).2):=fun i=>if_neg oM
 refine⟨?_,?_,?_⟩
 ·intro s pos a k hp h;unfold zAJ at h
  split at h
  ·cases h
  ·rename_i hl
   cases h
   rw[Jh]at hl;refine⟨oM,?_⟩
   show(⟨s,pos,0⟩:InS).int size=_
   rw[hc,InS.take_ok rfl oM (by simp only[InS.left];omega)]
   rfl
 ·intro s pos e hp h;unfold zAJ at h
  split at h
  ·rename_i hl
   cases h
   rw[Jh]at hl;refine⟨dD,pos,hp,?_⟩
   show(⟨s,pos,0⟩:InS).int size=_
   rw[hc,InS.take_short oM (by simp only[InS.left];omega)]
   rfl
  ·cases h
 ·intro i hi
  show i.int size=_
  rw[hc,zDy hi]
  rfl
def zMG (p:Bs→Except Int (Int×Nat)) (l:Bs):Except Int (BlobS×Nat):=match p l with| .ok x=>gotS l x.2 x.1| .error e=> .error e
theorem zSE{f:InS→Int×InS}{p:Bs→Except Int (Int×Nat)}(h:Rds f p 0):Rds (fun i=>(f i).2.tk (f i).1) (zMG p) ⟨false,[]⟩:=by
 refine⟨?_,?_,?_⟩
 ·intro s pos a k hp hh;unfold zMG at hh
  cases hx:p (s.drop pos)with
  |error e=>rw[hx]at hh;cases hh
  |ok x=>
   obtain⟨n,m⟩:=x;rw[hx]at hh;obtain⟨g1,g2⟩:=h.ok s pos n m hp hx;simp only at hh ⊢;rw[g2];unfold gotS at hh;unfold InS.tk;simp only
   by_cases h1:n= -1
   ·rw[if_pos h1]at hh ⊢
    cases hh
    exact⟨g1,rfl⟩
   rw[if_neg h1]at hh ⊢
   by_cases h2:n<0
   ·rw[if_pos h2]at hh;cases hh
   rw[if_neg h2]at hh
   by_cases h3:((s.drop pos).length:Int) - m<n
   ·rw[if_pos h3]at hh;cases hh
   rw[if_neg h3]at hh
   cases hh
   rw[Jh]at h3;refine⟨oM,?_⟩;rw[InS.take_ok rfl oM (by simp only[InS.left];omega)];simp only[Jk,Jm]
 ·intro s pos e hp hh;unfold zMG at hh
  cases hx:p (s.drop pos)with
  |error e'=>
   rw[hx]at hh
   cases hh
   obtain⟨g1,q,g2,g3⟩:=h.err s pos _ hp hx;refine⟨g1,q,g2,?_⟩
   (try simp only)
   rw[g3];unfold InS.tk;simp only;rw[if_neg dD,zDy (by exact g1)]
  |ok x=>
   obtain⟨n,m⟩:=x;rw[hx]at hh;obtain⟨g1,g2⟩:=h.ok s pos n m hp hx;simp only at hh ⊢;rw[g2];unfold gotS at hh;unfold InS.tk;simp only
   by_cases h1:n= -1
   ·rw[if_pos h1]at hh;cases hh
   rw[if_neg h1]at hh ⊢
   by_cases h2:n<0
   ·rw[if_pos h2]at hh
    cases hh
    refine⟨dD,pos+m,g1,?_⟩;rw[InS.take_neg h2]
    rfl
   rw[if_neg h2]at hh
   by_cases h3:((s.drop pos).length:Int) - m<n
   ·rw[if_pos h3]at hh
    cases hh
    rw[Jh]at h3;refine⟨dD,pos+m,g1,?_⟩;rw[InS.take_short oM (by simp only[InS.left];omega)]
    rfl
   rw[if_neg h3]at hh
   cases hh
 ·intro i hi
  (try simp only)
  rw[h.stuck i hi];unfold InS.tk;simp only;rw[if_neg dD,zDy hi]
theorem zAN(size:Nat)(h1:1≤size)(h8:size≤8):Rds (fun i=>i.fixed size) (zAI size) ⟨false,[]⟩:=by
 have h:=zSE (zAW size h1 h8)
 have e:zMG (zAJ size)=zAI size:=by
  funext l
  unfold zMG zAJ zAI
  split<;>rename_i x hx<;>split at hx<;>rename_i hl<;>cases hx
  ·rw[if_neg hl]
  ·rw[if_pos hl]
 rw[←e];exact h
theorem zAm:Rds InS.varied zAn ⟨false,[]⟩:=by
 have h:=zSE zDc
 have e:zMG zB0=zAn:=by
  funext l
  unfold zMG zAn
  split<;>rename_i x hx<;>first|rw[hx]|rfl
 rw[←e];exact h
def encV (b:BlobS):Bs:=putU (zBc b.len)++b.data
def encF (size:Nat) (b:BlobS):Bs:=zAa b.len size++b.data
theorem zKX(b:BlobS)(hb:b.right=true)(hd rest:Bs):gotS (hd++(b.data++rest)) hd.length b.len=.ok (b,hd.length+b.data.length):=by
 obtain⟨n,d⟩:=b
 cases n
 ·unfold gotS BlobS.len;simp only[Bool.false_eq_true,if_false];rw[if_neg oM,if_neg oM,if_neg (by simp;omega)]
  simp
 ·have hd0:d=[]:=by simpa [BlobS.right]using hb
  subst hd0;unfold gotS BlobS.len;simp[BlobS.none]
theorem zBa(b:BlobS)(hb:b.right=true)(hl:b.data.length≤2147483647)(rest:Bs):zAn (encV b++rest)=.ok (b,(encV b).length):=by
 have hr: -2147483648≤b.len∧b.len<2147483648:=by unfold BlobS.len;split<;>omega
 have h:=zF1 b.len hr.1 hr.2 (b.data++rest);have h2:=zKX b hb (putU (zBc b.len)) rest;unfold zAn encV;rw[Je,h];simp only[h2,Jc]
theorem zA4(size:Nat)(b:BlobS)(hb:b.right=true)(hf:fits b.len size)(rest:Bs):zAI size (encF size b++rest)=.ok (b,(encF size b).length):=by
 have hs:1≤size:=by have:=hf.1;omega
 have h2:=zKX b hb (zAa b.len size) rest
 have h3:(zAa b.len size++(b.data++rest)).take size=zAa b.len size:=by
  have h4:=zAb b.len size;rw[List.take_append_of_le_length oM,List.take_of_length_le oM]
 have hfit:=hf.2.2;rw[Int.toNat_natCast]at hfit;have h5:=(zAB b.len size hs).2 hfit;unfold zAI encF;rw[Je,if_neg (by rw[Jc,zAb];omega),h3,h5];rw[zAb]at h2;rw[h2,Jc,zAb]
variable {W0 w:World}{K:Know}{L:List Res}
def FlatRows {α:Type}(R:List Value→α→Prop) (F:Nat→Prop) (w:World) (v:Value) (sz:Nat) (l:List α):Prop:=RowsOf (fun _ cs x=>R cs x) F w v sz l
theorem zQx{α:Type}{R:List Value→α→Prop}{F:Nat→Prop}{w w':World}{v:Value}{sz:Nat}{l:List α}(h:FlatRows R F w v sz l)(hs:w.heap.size≤w'.heap.size)(hk:∀k,k<w.heap.size→F k→w'.heap[k]? =w.heap[k]?):FlatRows R F w' v sz l:=by
 obtain⟨p,cap,rfl,h⟩:=h;refine⟨p,cap,rfl,fun h0=> ?_⟩;obtain⟨b,off,rfl,hb,hlt,hc⟩:=h h0;refine⟨b,off,rfl,hb,Nat.lt_of_lt_of_le hlt hs,fun i hi=> ?_⟩;obtain⟨cs,h1,h2,h3⟩:=hc i hi;exact⟨cs,h1,h2,fun f u hu=>(World.cell?_of_block (w:=w) (a:=⟨b,off+(i*sz+f),none⟩) (hk b hlt hb)).trans (h3 f u hu)⟩
def Know.flat {α:Type}(R:List Value→α→Prop) (v:Value) (sz:Nat) (l:List α):Know:=⟨fun w F=>FlatRows R F w v sz l,fun _ _ _ h hs hk=>zQx h hs hk,fun _ _ _ h hs=>RowsOf.mono h (fun _ _ h=>hs _ h) (fun _ _ h=>h)⟩
theorem FlatRows.at{α:Type}{R:List Value→α→Prop}{F:Nat→Prop}{w:World}{v:Value}{sz:Nat}{l:List α}(h:FlatRows R F w v sz l):
 ∃p cap,v=V p l.length cap∧(0<l.length→∃b off,p=some ⟨b,off,none⟩∧∀i (h:i<l.length),∃cs,cs.length=sz∧R cs l[i]∧∀f u,cs[f]? =some u→w.cell? ⟨b,off+(i*sz+f),none⟩=some u):=by
 obtain⟨p,cap,rfl,h⟩:=h;refine⟨p,cap,rfl,fun h0=> ?_⟩;obtain⟨b,off,rfl,_,_,hc⟩:=h h0;exact⟨b,off,rfl,hc⟩
theorem zCg{α:Type}:∀(l:List α) (f:α→List Value) (sz:Nat),(∀x∈l,(f x).length=sz)→∀(i:Nat) (hi:i<l.length) (q:Nat),q<sz→(l.flatMap f)[i*sz+q]? =(f l[i])[q]?
 |[],_,_,_,i,hi,_,_=>by simp at hi
 |x::t,f,sz,h,0,_,q,hq=>by
  rw[Jg,Nat.zero_mul,Nat.zero_add,List.getElem?_append_left (by rw[h x sM];exact hq)]
  rfl
 |x::t,f,sz,h,i+1,hi,q,hq=>by
  have hx:=h x sM;rw[Jg,List.getElem?_append_right (by rw[hx,Nat.add_mul];omega),hx,show(i+1)*sz+q - sz=i*sz+q by rw[Nat.add_mul];omega];exact zCg t f sz (fun y hy=>h y (by simp[hy])) i (by simpa using hi) q hq
theorem St.freezeRow{α:Type}{R:List Value→α→Prop}{v:Value}{T:TypeId}{sz:Nat}{l:List α}{f:α→List Value}(h:St W0 w K (.row v T sz l.length (l.flatMap f)::L))(hf:∀x∈l,(f x).length=sz∧R (f x) x):
 St W0 w (K.and (Know.flat R v sz l)) L:=by
 refine h.freeze fun F S1 _ h1=> ?_
 obtain⟨⟨g1,g2⟩,g3⟩:=h1
 rcases g2 with ⟨rfl,h0⟩|⟨g,cap,cur,rfl,_,hg,hn,hcm,hcs,htake⟩
 ·exact⟨none,0,by rw[h0],fun hh=>absurd hh oM⟩
 ·have hS:S1 g:=(g3 g).2 rfl;have hlt:=zBi hg;refine⟨_,cap,rfl,fun _=>⟨g,0,rfl,.inr ⟨hS,hlt⟩,hlt,fun i hi=> ?_⟩⟩;obtain⟨h2,h3⟩:=hf l[i] (Ji hi);refine⟨f l[i],h2,h3,fun q u hu=> ?_⟩;rw[zAK hg,Nat.zero_add];have hq:q<sz:=by rw[←h2];exact(List.getElem?_eq_some_iff.1 hu).1
  have e:(l.flatMap f)[i*sz+q]? =some u:=by
   rw[zCg l f sz (fun x hx=>(hf x hx).1) i hi q hq];exact hu
  rw[←htake,List.getElem?_take_of_lt (by have:=Nat.mul_le_mul_right sz (show i+1≤l.length by omega);rw[Nat.add_mul,Nat.one_mul]at this;omega)]at e
  simpa using e
structure HdrS where
 key:Bs
 val:BlobS
deriving DecidableEq
def RHdr (cs:List Value) (h:HdrS):Prop:=cs=[Z (bb h.key),U h.val.null,Z (bb h.val.data)]
def hcells (h:HdrS):List Value:=[Z (bb h.key),U h.val.null,Z (bb h.val.data)]
def HdrS.size (h:HdrS):Nat:=h.key.length+h.val.data.length+32
def hsize (l:List HdrS):Nat:=(l.map HdrS.size).sum
def OutS.putHdr (o:OutS) (h:HdrS):OutS:=(o.putName h.key).putVaried h.val
def OutS.putHdrs (o:OutS) (l:List HdrS):OutS:=l.foldl OutS.putHdr (o.putInt l.length)
theorem OutS.len_putVaried(o:OutS)(b:BlobS)(h:b.data.length≤140737488355328):(o.putVaried b).bytes.length≤o.bytes.length+(b.data.length+16):=by
 unfold OutS.putVaried OutS.putData;have h1:=o.len_putInt b.len (b.len_range h)
 split
 ·have:=(o.putInt b.len).len_put b.data;omega
 ·have:=((o.putInt b.len).fail 4).len_put b.data;rw[OutS.len_fail]at this
  omega
theorem OutS.len_putHdr(o:OutS)(h:HdrS)(hl:h.size≤140737488355328):(o.putHdr h).bytes.length≤o.bytes.length+h.size:=by
 unfold HdrS.size at*;have h1:=o.len_putVaried ⟨false,h.key⟩ (by simp only;omega);have h2:=(o.putName h.key).len_putVaried h.val oM;unfold OutS.putHdr;unfold OutS.putName at*;simp only at h1
 omega
theorem zMC(l:List HdrS)(k:Nat)(h:k<l.length):hsize (l.take k)+l[k].size≤hsize l:=by
 have h1:hsize l=hsize (l.take k)+hsize (l.drop k):=by
  unfold hsize;rw[←List.sum_append,←List.map_append,List.take_append_drop]
 have h2:hsize (l.drop k)=l[k].size+hsize (l.drop (k+1)):=by
  unfold hsize;rw[List.drop_eq_getElem_cons h]
  rfl
 omega
theorem OutS.len_hdrs:∀(l:List HdrS) (o:OutS),hsize l≤140737488355328→(l.foldl OutS.putHdr o).bytes.length≤o.bytes.length+hsize l
 |[],o,_=>by simp[hsize]
 |h::t,o,hl=>by
  have e:hsize (h::t)=h.size+hsize t:=rfl;have h1:=o.len_putHdr h oM;have h2:=OutS.len_hdrs t (o.putHdr h) oM
  show(t.foldl OutS.putHdr (o.putHdr h)).bytes.length≤_
  omega
theorem zKW(p:Nat)(o:OutS)(v:Value)(l:List HdrS)(hl:l.length≤140737488355328)(hk:K.has (Know.flat RHdr v 3 l))(h:St W0 w K (.out p o::L))(hr:o.ok (hsize l+16)):
 Calls Jb 192 #[zAc p,v] w fun en w'=>en=Y (.tuple #[])∧St W0 w' K (.out p (o.putHdrs l)::L):=by
 have H:=hQd h;have HR:=hQd hr;have HK:=hQd hk;have HL:=hQd (show -9223372036854775808≤(l.length:Int)∧(l.length:Int)<9223372036854775808 by omega);obtain⟨F,hF,_⟩:=h.get;obtain⟨q,cap,rfl,_⟩:=(hk _ _ hF).at;clear h hk hr hF;go_enter Tryz.func192,Tryz.ntmps192;go_wp2_with (go_at_call 190;refine(zF6 _ _ _ HL.out stQ (OutS.ok_mono HR.out oM)).zM ?_;clear H;intro wn H);go_loopw [12] (fun iv wr=>∃(k:Nat) (oo:OutS),k≤l.length∧iv=I O k∧(l.take k).foldl OutS.putHdr (o.putInt l.length)=oo∧St W0 wr K (.out p oo::L)) (fun iv _=>l.length - (intOf iv).toNat)
 case atStart=>exact⟨0,o.putInt l.length,Jd _,rfl,by rw[List.take_zero,List.foldl_nil],H.out⟩
 case round=>
  obtain⟨k,oo,hk,rfl,hoo,hst⟩:=hrel
  by_cases hlt:k<l.length
  ·obtain⟨F2,hF2,_⟩:=hst.get;obtain⟨q2,cap2,hv2,hrow⟩:=(HK.out _ _ hF2).at;obtain⟨b,off,hq,hcells⟩:=hrow oM;obtain rfl:q=some ⟨b,off,none⟩:=by simp at hv2;rw[hv2.1,hq]
   obtain⟨cs,_,hR,hc⟩:=hcells k hlt;unfold RHdr at hR;subst hR;have c0:=hc 0 _ rfl;have c1:=hc 1 _ rfl;have c2:=hc 2 _ rfl;rw[Nat.add_zero]at c0;rw[←Jm]at c1 c2;have hnn:(l.take (k+1)).foldl OutS.putHdr (o.putInt l.length)=((l.take k).foldl OutS.putHdr (o.putInt l.length)).putHdr l[k]:=by rw[Jf hlt,List.foldl_append];rfl
   have hsz:=zMC l k hlt;have hro:=HR.out;have hpi:=o.len_putInt l.length HL.out;have hlen:=OutS.len_hdrs (l.take k) (o.putInt l.length) (by unfold OutS.ok at hro;omega);obtain⟨x,hx⟩:=eX (l[k]'hlt);rw[hoo]at hnn hlen;rw[hx]at hnn hsz c0 c1 c2;have HN:=hQd hnn;have HRO:=hQd (show oo.ok x.size by unfold OutS.ok at*;omega);have H:=hQd (hst.allocRaw #[Z (bb x.key),U x.val.null,Z (bb x.val.data)] 244);clear hst hF2 hrow hcells hc hv2 hq hsz hro hpi hlen hoo hx hnn
   go_wp2_with (first
    |(go_at_call 132;refine(zFE _ _ x.key stQ (OutS.ok_mono HRO.out (by unfold HdrS.size;omega))).zM ?_;clear H;intro wn H;have zc0:=H.out.cellOf (b:=wr.heap.size) (c:= #[Z (bb x.key),U x.val.null,Z (bb x.val.data)]) (T:=244) sM 0;have zc1:=H.out.cellOf (b:=wr.heap.size) (c:= #[Z (bb x.key),U x.val.null,Z (bb x.val.data)]) (T:=244) sM 1;have zc2:=H.out.cellOf (b:=wr.heap.size) (c:= #[Z (bb x.key),U x.val.null,Z (bb x.val.data)]) (T:=244) sM 2;simp at zc0 zc1 zc2)
    |(go_at_call 191;refine(zBS _ _ x.val stQ (by have h1:=HRO.out;have h2:=oo.len_putVaried ⟨false,x.key⟩ (by simp only;unfold OutS.ok HdrS.size at h1;omega);unfold OutS.ok HdrS.size at*;unfold OutS.putName;simp only at h2 ⊢;omega)).zM ?_;clear H;intro wn H))
   go_roundw
   case rel=>exact⟨k+1,_,hlt,by go_num,HN.out,H.out.p1.drop⟩
   case measure=>first|(simp[intOf];done)|(simp[intOf];omega)
  ·have hk:k=l.length:=by omega
   subst hk;rw[List.take_length]at hoo;have HOO:=hQd hoo;have HST:=hQd hst;clear hst hoo;go_wp2;go_end0;exact⟨rfl,HST.out.cast (by rw[←HOO.out];rfl)⟩
theorem zSm:zCJ Jb 244 (.agg #[Z ⟨#[]⟩,U false,Z ⟨#[]⟩]) 3 40:=zAT kR rfl dD
def InS.hdrLoop:Nat→List HdrS→InS→List HdrS×InS
 |0,acc,i=>(acc,i)
 |n+1,acc,i=>
  if i.name.2.varied.2.err=0 then InS.hdrLoop n (acc++[⟨i.name.1,i.name.2.varied.1⟩]) i.name.2.varied.2
  else([],i.name.2.varied.2)
def InS.hdrHead (i:InS):InS:=if i.vint.1<0 then i.vint.2.fail 4 else if (i.vint.2.left:Int)<2*i.vint.1 then i.vint.2.fail 1 else i.vint.2
def InS.hdrs (i:InS):List HdrS×InS:=InS.hdrLoop i.vint.1.toNat [] i.hdrHead
theorem zNx{α:Type}(R:List Value→α→Prop)(sz:Nat)(K:Know):K.has (K.and (Know.flat R (V none 0 0) sz [])):=fun _ _ h=>⟨h,none,0,rfl,fun h=>absurd h sM⟩
theorem zq25{p:Prop}(h:p:=by have HKE:=hQd hke;clear hke hk;go_wp2;go_ret;refine⟨_,rfl,?_⟩;have h1:=HLOOP.out;rw[HKE.out]at h1;rw[←h1];exact HST.out.freezeRow (fun x _=>⟨rfl,rfl⟩)):p:=h
theorem zCT(p:Nat)(i:InS){W0 w:World}{K:Know}{L:List Res}(h:St W0 w K (.inp p i::L)):
 Calls Jb 186 #[zAe p] w fun en w'=>∃v,en=Y v∧St W0 w' (K.and (Know.flat RHdr v 3 i.hdrs.1)) (.inp p i.hdrs.2::L):=by
 have H:=hQd h;have hv:=i.vint_range;obtain⟨a,ha⟩:=eX i.vint;obtain⟨j,hj⟩:=eX i.hdrHead;have hjj:j=if a.1<0 then a.2.fail 4 else if (a.2.left:Int)<2*a.1 then a.2.fail 1 else a.2:=by rw[←hj,←ha];rfl
 have hH:i.hdrs=InS.hdrLoop a.1.toNat [] j:=by unfold InS.hdrs;rw[hj,ha]
 rw[ha]at hv;rw[hH];have EA:=hQd ha;clear h ha hj hH;obtain⟨n,c⟩:=a;simp only at hv hjj ⊢
 by_cases h1:n<0
 ·rw[if_pos h1]at hjj;subst hjj;go_enter Tryz.func186,Tryz.ntmps186
  go_wp2_with (first
   |(go_at_call 185;refine(zF7 _ _ stQ).mono ?_;(repeat first|rw[EA.out]);rintro e wn ⟨rfl,h⟩;replace H:=hQd h;clear h)
   |(go_at_call 75;refine(zNk _ _ stQ).zM ?_;clear H;intro wn H)
   |(go_at_call 70;refine(zBV _ _ _ stQ).zM ?_;clear H;intro wn H))
  go_loopw [4,20] (fun lv kv wr=>∃(k:Nat) (i':InS) (acc:List HdrS),k≤n.toNat∧kv=I O k∧acc.length=k∧InS.hdrLoop (n.toNat - k) acc i'=InS.hdrLoop n.toNat [] _∧St W0 wr K (.row lv 244 3 acc.length (acc.flatMap hcells)::.inp p i'::L)) (fun _ kv _=>n.toNat - (intOf kv).toNat)
  case atStart=>exact⟨0,_,[],Jd _,rfl,rfl,rfl,H.out.nilRow 244 3⟩
  case round=>
   obtain⟨k,i',acc,hk,rfl,hacc,hloop,hst⟩:=hrel;have HACC:=hQd hacc;have HLOOP:=hQd hloop;have HST:=hQd hst;have HK:=hQd (show k≤2147483648 by omega);clear hacc hloop hst;have hke:n.toNat - k=0:=by omega
   have hlt:¬(k:Int)<n:=by omega
   exact zq25
 by_cases h2:(c.left:Int)<2*n
 all_goals
  rw[if_neg h1]at hjj
  first|rw[if_pos h2]at hjj|rw[if_neg h2]at hjj
  subst hjj;go_enter Tryz.func186,Tryz.ntmps186
  go_wp2_with (first
   |(go_at_call 185;refine(zF7 _ _ stQ).mono ?_;(repeat first|rw[EA.out]);rintro e wn ⟨rfl,h⟩;replace H:=hQd h;clear h)
   |(go_at_call 75;refine(zNk _ _ stQ).zM ?_;clear H;intro wn H)
   |(go_at_call 70;refine(zBV _ _ _ stQ).zM ?_;clear H;intro wn H))
  go_loopw [4,20] (fun lv kv wr=>∃(k:Nat) (i':InS) (acc:List HdrS),k≤n.toNat∧kv=I O k∧acc.length=k∧InS.hdrLoop (n.toNat - k) acc i'=InS.hdrLoop n.toNat [] _∧St W0 wr K (.row lv 244 3 acc.length (acc.flatMap hcells)::.inp p i'::L)) (fun _ kv _=>n.toNat - (intOf kv).toNat)
  case atStart=>exact⟨0,_,[],Jd _,rfl,rfl,rfl,H.out.nilRow 244 3⟩
  case round=>
   obtain⟨k,i',acc,hk,rfl,hacc,hloop,hst⟩:=hrel;have HACC:=hQd hacc;have HLOOP:=hQd hloop;have HST:=hQd hst;have HK:=hQd (show k≤2147483648 by omega);clear hacc hloop hst
   by_cases hlt:(k:Int)<n
   ·have hstep:n.toNat - k=(n.toNat - (k+1))+1:=by omega
    have HSTEP:=hQd hstep;obtain⟨x,hx⟩:=eX i'.name;obtain⟨y,hy⟩:=eX x.2.varied;have EX:=hQd hx;have EY:=hQd hy;have HLN:InS.hdrLoop ((n.toNat - (k+1))+1) acc i'=if y.2.err=0 then InS.hdrLoop (n.toNat - (k+1)) (acc++[⟨x.1,y.1⟩]) y.2 else([],y.2):=by simp only[InS.hdrLoop,hx,hy]
    replace HLN:=hQd HLN;have H:=HST;clear hstep hx hy hk HST
    by_cases he:y.2.err=0
    all_goals
     have hb:(y.2.err !=0)=decide (y.2.err≠0):=by by_cases h:y.2.err=0<;>simp[h]
     first|rw[decide_eq_true he]at hb|rw[decide_eq_false (not_not_intro he)]at hb
     have HE:=hQd he;clear he
     go_wp2_with (first
      |(go_at_call 128;refine(zEI _ _ stQ).mono ?_;(repeat first|rw[EX.out]);rintro e wn ⟨rfl,h⟩;replace H:=hQd h;clear h)
      |(go_at_call 183;refine(zAS _ _ stQ).mono ?_;(repeat first|rw[EY.out]);rintro e wn ⟨rfl,h⟩;replace H:=hQd h;clear h;unfold bv)
      |(go_at_call 22;refine(zHs _ _ stQ).zM ?_;clear H;intro wn H)
      |(at_builtin;refine zAz rfl _ _ 93 rfl 244 Tryz.underlying93 zSm _ _ _ rfl H.out.p1 [Z (bb x.1),U y.1.null,Z (bb y.1.data)] 244 rfl rfl (by simp[Value.oneCell']) (by have:=HACC.out;have:=HK.out;unfold maxLen;omega) (by have:=HACC.out;have:=HK.out;omega) ?_;intro v' w' h;replace H:=hQd h;clear h))
    ·go_roundw
     case rel=>
      refine⟨k+1,y.2,acc++[⟨x.1,y.1⟩],oM,by go_num,by simp[HACC.out],?_,?_⟩
      ·have h1:=HLOOP.out;rw[HSTEP.out,HLN.out,if_pos HE.out]at h1;exact h1
      ·refine H.out.p1.cast ?_;simp[hcells]
     case measure=>first|(simp[intOf];done)|(simp[intOf];omega)
    ·go_ret;refine⟨V none 0 0,rfl,?_⟩;have h1:=HLOOP.out;rw[HSTEP.out,HLN.out,if_neg HE.out]at h1;rw[←h1];exact(H.out.p1.drop).know (zNx _ _ _)
   ·have hke:n.toNat - k=0:=by omega
    exact zq25
theorem zDj{l:List HdrS}{q:Option Addr}{cap:Nat}(hk:K.has (Know.flat RHdr (V q l.length cap) 3 l))(h:St W0 w K L)(i:Nat)(hi:i<l.length):
 ∃b off,q=some ⟨b,off,none⟩∧w.cell? ⟨b,off+i*3,none⟩=some (Z (bb (l[i]'hi).key))∧w.cell? ⟨b,off+i*3+1,none⟩=some (U (l[i]'hi).val.null)∧w.cell? ⟨b,off+i*3+2,none⟩=some (Z (bb (l[i]'hi).val.data)):=by
 obtain⟨F,hF,_⟩:=h.get;obtain⟨q2,cap2,hv2,hrow⟩:=(hk _ _ hF).at;obtain⟨b,off,hq,hcells⟩:=hrow oM;obtain⟨cs,_,hR,hc⟩:=hcells i hi;unfold RHdr at hR;subst hR;refine⟨b,off,by simp at hv2;rw[hv2.1,hq],?_,?_,?_⟩
 ·have:=hc 0 _ rfl;rwa [Nat.add_zero]at this
 ·have:=hc 1 _ rfl;rwa [←Jm]at this
 ·have:=hc 2 _ rfl;rwa [←Jm]at this
theorem zAr{α:Type}{R:List Value→α→Prop}{sz:Nat}{v:Value}{l:List α}(hk:K.has (Know.flat R v sz l))(h:St W0 w K L):∃q cap,v=V q l.length cap:=by
 obtain⟨F,hF,_⟩:=h.get;obtain⟨q,cap,hv,_⟩:=(hk _ _ hF).at;exact⟨q,cap,hv⟩
theorem zFo(c:UInt8)(t:Bs):zAa (sInt (c::t)) (t.length+1)=c::t:=by
 induction h:t.length generalizing t with
 |zero=>
  have:t=[]:=List.eq_nil_of_length_eq_zero h;subst this;have hc:=c.toNat_lt;simp only[sInt,List.foldl_nil,zAa,List.nil_append]
  congr 1
  unfold zFI
  apply UInt8.toNat_inj.1
  split<;>simp<;>omega
 |succ k ih=>
  obtain⟨t',d,rfl⟩:∃t' d,t=t'++[d]:=⟨t.dropLast,t.getLast (by intro h0;rw[h0]at h;simp at h),(List.dropLast_concat_getLast _).symm⟩;have hk:t'.length=k:=by simpa using h
  have hd:=d.toNat_lt;have e:=zGd c t' d;have h1:sInt (c::(t'++[d])) / 256=sInt (c::t'):=by rw[e];omega
  have h2:(sInt (c::(t'++[d])) % 256).toNat=d.toNat:=by rw[e];omega
  show zAa (sInt (c::(t'++[d])) / 256) (k+1)++[UInt8.ofNat (sInt (c::(t'++[d])) % 256).toNat]=_
  rw[h1,h2,ih t' hk,UInt8.ofNat_toNat]
  rfl
theorem zFG(l:Bs):zAa (sInt l) l.length=l:=by
 cases l with
 |nil=>rfl
 |cons c t=>exact zFo c t
theorem fail_stuck{i:InS}(h:i.err≠0)(e:Int):i.fail e=i:=if_neg h
def zAu (s:Bs):Bool:= !s.isEmpty && decide (s.length≤32767)
end Go.Proofs.YteldcbljedeeiaaGreatDoor
