/- A text. -/
import Derived.Test.YtenojajfacacoaaGreatDoorGReportRawsCard1
import Derived.Test.YtenojajfacacoaaGreatDoorGReportRawsCard2
import Derived.Deep.RegionWith
import Derived.Test.YtenojajfacacoaaGreatDoorGReportRawsCard4
import Derived.Deep.MidRow
import Derived.Test.YtenojajfacacoaaGreatDoorGReportRawsCard5
import Derived.Deep.RegionHeld3
import Derived.Deep.DeepCutAuto
import Derived.Test.YtenojajfacacoaaGreatDoorGReportRawsCard3
/- A text. -/
namespace Go.Proofs.YtenojajfacacoaaGreatDoor
open Go.RowKit
abbrev W32:=BitVec 32
def cP:W32:=0x82F63B78#32
def b2w (b:Bool):W32:=if b then 1#32 else 0#32
def step (r:W32):W32:=(r>>>1) ^^^ (if r.getLsbD 0 then cP else 0#32)
def zC7:Nat→W32→W32
  |0,r=>r
  |n+1,r=>zC7 n (step r)
theorem xlc(a b c:W32):a ^^^ (b ^^^ c)=b ^^^ (a ^^^ c):=by rw[←BitVec.xor_assoc,BitVec.xor_comm a b,BitVec.xor_assoc]
theorem xcan(a b:W32):a ^^^ (a ^^^ b)=b:=by rw[←BitVec.xor_assoc,BitVec.xor_self,BitVec.zero_xor]
theorem zKx(a b:W32):step (a ^^^ b)=step a ^^^ step b:=by
 unfold step
 have e:(a ^^^ b)>>>1=(a>>>1) ^^^ (b>>>1):=by
  apply BitVec.eq_of_getLsbD_eq
  intro i hi
  simp
 rw[e,BitVec.getLsbD_xor]
 cases a.getLsbD 0<;>cases b.getLsbD 0<;>simp[BitVec.xor_assoc,BitVec.xor_comm,xlc,xcan]
theorem zMd(n:Nat)(a b:W32):zC7 n (a ^^^ b)=zC7 n a ^^^ zC7 n b:=by
 induction n generalizing a b with
 |zero=>rfl
 |succ n ih=>show zC7 n (step (a ^^^ b))=_;rw[zKx,ih];rfl
theorem zKy(x:W32)(h:x.getLsbD 31=false):step (x<<<1)=x:=by
 unfold step;have h0:(x<<<1).getLsbD 0=false:=by simp
 rw[h0]
 apply BitVec.eq_of_getLsbD_eq
 intro i hi
 by_cases h31:i=31
 · subst h31;simp;rw[←BitVec.getLsbD_eq_getElem];exact h
 · have:1+i<32:=by omega
   simp[this];rw[←BitVec.getLsbD_eq_getElem]
def zPX (r:W32) (b:Bool):W32:=step (r ^^^ b2w b)
def feed (r:W32) (l:List Bool):W32:=l.foldl zPX r
def word:List Bool→W32
  |[]=>0#32
  |b::t=>b2w b ^^^ (word t<<<1)
theorem zG9:∀(l:List Bool) (i:Nat),i<32→(word l).getLsbD i=l.getD i false
  |[],i,_=>by simp[word]
  |b::t,0,_=>by simp[word];cases b<;>rfl
  |b::t,i+1,hi=>by
    have ih:=zG9 t i (by omega);have hb:(b2w b).getLsbD (i+1)=false:=by cases b<;>simp[b2w]
    simp only[word,BitVec.getLsbD_xor,hb,Bool.false_xor];have:(word t<<<1).getLsbD (i+1)=(word t).getLsbD i:=by simp[hi];rw[←BitVec.getLsbD_eq_getElem]
    rw[this,ih]
    simp
theorem zI0:∀(l:List Bool) (r:W32),l.length≤32→feed r l=zC7 l.length (r ^^^ word l)
  |[],r,_=>by simp[feed,word,zC7]
  |b::t,r,h=>by
    have hl:t.length≤31:=by simpa using h
    have ht:(word t).getLsbD 31=false:=by
      rw[zG9 t 31 (by decide),List.getD_eq_getElem?_getD,List.getElem?_eq_none (by omega)]
      rfl
    have e:feed r (b::t)=feed (step (r ^^^ b2w b)) t:=rfl;rw[e,zI0 t _ (by omega)]
    show _=zC7 t.length (step (r ^^^ word (b::t)))
    rw[word,←BitVec.xor_assoc,zKx (r ^^^ b2w b),zKy _ ht]
theorem zF5(r:W32)(l m:List Bool):feed r (l++m)=feed (feed r l) m:=List.foldl_append
def zBn (c:UInt8):List Bool:=(List.range 8).map (fun i=>c.toNat.testBit i)
def zBh (s:Bs):List Bool:=s.flatMap zBn
def tab (n:Nat):W32:=zC7 8 (BitVec.ofNat 32 n)
def zCx (r:W32) (c:UInt8):W32:=tab (r.toNat % 256 ^^^ c.toNat) ^^^ (r>>>8)
theorem zHW(c:UInt8):word (zBn c)=BitVec.ofNat 32 c.toNat:=by
 apply BitVec.eq_of_getLsbD_eq
 intro i hi;rw[zG9 _ _ hi,BitVec.getLsbD_ofNat];unfold zBn
 by_cases h:i<8
 · simp[List.getD_eq_getElem?_getD,h,hi]
 · have:c.toNat<2 ^ i:=Nat.lt_of_lt_of_le c.toNat_lt (Nat.pow_le_pow_right (by decide) (by omega));rw[List.getD_eq_getElem?_getD,List.getElem?_eq_none (by simp;omega),Nat.testBit_lt_two_pow this]
   simp
theorem zIe:∀(n:Nat) (x:W32),n≤32→(∀i,32 - n≤i→x.getLsbD i=false)→zC7 n (x<<<n)=x
  |0,x,_,_=>by simp[zC7]
  |n+1,x,hn,h=>by
    show zC7 n (step (x<<<(n+1)))=x
    have e:x<<<(n+1)=(x<<<n)<<<1:=by rw[BitVec.shiftLeft_add]
    rw[e,zKy]
    · exact zIe n x (by omega) (fun i hi=>h i (by omega))
    · rw[BitVec.getLsbD_shiftLeft,h (31 - n) (by omega)]
      simp
theorem zKf(r:W32)(c:UInt8):zCx r c=zC7 8 (r ^^^ BitVec.ofNat 32 c.toNat):=by
 have h1:r ^^^ BitVec.ofNat 32 c.toNat=BitVec.ofNat 32 (r.toNat % 256 ^^^ c.toNat) ^^^ ((r>>>8)<<<8):=by
  apply BitVec.eq_of_getLsbD_eq
  intro i hi;have hm:(r.toNat % 256).testBit i=(decide (i<8) && r.toNat.testBit i):=by rw[show(256:Nat)=2 ^ 8 from rfl,Nat.testBit_mod_two_pow]
  simp only[BitVec.getLsbD_xor,BitVec.getLsbD_ofNat,Nat.testBit_xor,hm,BitVec.getLsbD_shiftLeft,BitVec.getLsbD_ushiftRight,hi,decide_true,Bool.true_and]
  by_cases h:i<8
  · simp[h];rfl
  · have h8:8+(i - 8)=i:=by omega
    have:c.toNat<2 ^ i:=Nat.lt_of_lt_of_le c.toNat_lt (Nat.pow_le_pow_right (by decide) (by omega));simp[h,h8,Nat.testBit_lt_two_pow this]
 rw[h1,zMd,zIe 8 (r>>>8) (by decide) (by intro i hi;rw[BitVec.getLsbD_ushiftRight];exact BitVec.getLsbD_of_ge _ _ (by omega))]
 rfl
theorem zHU(r:W32)(c:UInt8):zCx r c=feed r (zBn c):=by
 rw[zI0 _ _ (by simp[zBn]),zKf,zHW];simp[zBn]
def zDb (r:W32) (s:Bs):W32:=s.foldl zCx r
theorem zKa(r:W32)(s:Bs):zDb r s=feed r (zBh s):=by
 induction s generalizing r with
 |nil=>rfl
 |cons c t ih=>
  show zDb (zCx r c) t=_
  rw[ih,zHU]
  show _=feed r (zBn c++zBh t)
  rw[zF5]
theorem zDO(r:W32)(a b:Bs):zDb r (a++b)=zDb (zDb r a) b:=List.foldl_append
def zAq (sum:W32) (s:Bs):W32:= ~~~ (zDb (~~~ sum) s)
theorem zGu(sum:W32)(a b:Bs):zAq sum (a++b)=zAq (zAq sum a) b:=by
 unfold zAq;rw[zDO,BitVec.not_not]
theorem zKb(sum:W32):zAq sum []=sum:=by unfold zAq zDb;simp
theorem zCy(s:Bs):(zBh s).length=8*s.length:=by
 induction s with
 |nil=>rfl
 |cons c t ih=>simp only[zBh,List.flatMap_cons,List.length_append,List.length_cons]at ih ⊢;rw[ih];simp[zBn];omega
theorem zLU(s:Bs)(i:Nat):(zBh s).getD i false=((s.getD (i / 8) 0).toNat.testBit (i % 8)):=by
 induction s generalizing i with
 |nil=>simp[zBh]
 |cons c t ih=>
  have e:zBh (c::t)=zBn c++zBh t:=rfl;rw[e,List.getD_eq_getElem?_getD];have hl:(zBn c).length=8:=by simp[zBn]
  by_cases h:i<8
  · rw[List.getElem?_append_left (by omega)];have h0:i / 8=0:=by omega
    have h1:i % 8=i:=by omega
    rw[h0,h1];simp[zBn,h]
  · rw[List.getElem?_append_right (by omega),hl,←List.getD_eq_getElem?_getD,ih];obtain⟨q,hq⟩:∃q,i / 8=q+1:=⟨i / 8 - 1,by omega⟩;rw[show(i - 8) / 8=q by omega,show(i - 8) % 8=i % 8 by omega,hq]
    simp
set_option maxHeartbeats 1000000
set_option maxRecDepth 100000
variable {W0 w:World}{K:Know}{L:List Res}
theorem zJs(a b:W32):bits .xor .u32 (a.toNat:Int) (b.toNat:Int)=((a ^^^ b).toNat:Int):=by
 have ha:=a.isLt;have hb:=b.isLt;have hab:=(a ^^^ b).isLt;rw[zJg,BitVec.toNat_xor]at*;have e1:((a.toNat:Int) % 4294967296).toNat=a.toNat:=by omega
 have e2:((b.toNat:Int) % 4294967296).toNat=b.toNat:=by omega
 rw[e1,e2,IntKind.wrap_u32]
 omega
theorem zOZ(a:W32):bits .and .u32 (a.toNat:Int) 1=if a.getLsbD 0 then 1 else 0:=by
 have ha:=a.isLt;rw[zJj];have e1:((a.toNat:Int) % 4294967296).toNat=a.toNat:=by omega
 have e2:((1:Int) % 4294967296).toNat=1:=by decide
 rw[e1,e2,Nat.and_one_is_mod,IntKind.wrap_u32];have:a.getLsbD 0=decide (a.toNat % 2=1):=by rw[BitVec.getLsbD,Nat.testBit_zero]
 rw[this]
 by_cases h:a.toNat % 2=1<;>simp[h]
 omega
theorem zJr(a:W32):bits .xor .u32 (a.toNat:Int) 2197175160=((a ^^^ cP).toNat:Int):=zJs a cP
theorem zN3(a:W32):(a.toNat:Int) / 2=((a>>>1).toNat:Int):=by
 rw[BitVec.toNat_ushiftRight,Nat.shiftRight_eq_div_pow];omega
theorem zN2(a:W32):(a.toNat:Int) / 256=((a>>>8).toNat:Int):=by
 rw[BitVec.toNat_ushiftRight,Nat.shiftRight_eq_div_pow];omega
theorem zMW(a:W32):bits .xor .u32 IntKind.u32.max (a.toNat:Int)=((~~~ a).toNat:Int):=by
 have e:IntKind.u32.max=((BitVec.allOnes 32).toNat:Int):=by decide
 rw[e,zJs,BitVec.xor_comm,BitVec.xor_allOnes]
theorem zHQ(r:W32)(w:World):
  Calls Tryz.prog 150 #[.int .u32 r.toNat] w fun en w'=>en=.returned (.int .u32 (zC7 8 r).toNat)∧w=w':=by
 go_enter Tryz.func150,Tryz.ntmps150;go_wp2
 go_loop [0,4] (fun rv kv=>∃(k:Nat) (x:W32),k≤8∧kv=.int .i64 k∧rv=.int .u32 x.toNat∧zC7 (8 - k) x=zC7 8 r) (fun _ kv=>8 - (intOf kv).toNat)
 case atStart=>exact⟨0,r,by decide,rfl,rfl,rfl⟩
 case round=>
  obtain⟨k,x,hk,rfl,rfl,hx⟩:=hrel;have HX:=hQd hx;clear hx
  by_cases h8:k<8
  · have ha:=zOZ x;have hs:=zN3 x;have hx:=x.isLt
    cases hb:x.getLsbD 0
    all_goals
     rw[hb]at ha;go_wp2
     go_round
     case rel=>
      refine⟨k+1,step x,by omega,by go_num,?_,?_⟩
      · refine congrArg _ ?_;unfold step;rw[hb]
        first
         |(rw[if_pos rfl,←zJr];exact congrArg (bits .xor .u32 · 2197175160) hs)
         |exact hs.trans (by simp)
      · rw[←HX.out,show 8 - k=(8 - (k+1))+1 by omega]
        rfl
     case measure=>first|(simp[intOf];done)|(simp[intOf];omega)
  · have hk8:k=8:=by omega
    subst hk8;go_wp2;go_ret;rw[←HX.out];exact⟨rfl,rfl⟩
theorem zP6(k:Nat)(hk:k<256)(w:World):
  Calls Tryz.prog 150 #[.int .u32 (k:Int)] w fun en w'=>en=.returned (.int .u32 (tab k).toNat)∧w=w':=by
 have h:=zHQ (BitVec.ofNat 32 k) w;have hn:(BitVec.ofNat 32 k).toNat=k:=by simp;omega
 rw[hn]at h;exact h
def tabC (n:Nat):Array Value:=((List.range 256).map fun j=>if j<n then Value.int .u32 (tab j).toNat else Value.int .u32 0).toArray
theorem zFd(n:Nat):(tabC n).size=256:=by simp[tabC]
theorem zEU(n j:Nat)(h:j<256):(tabC n)[j]? =some (if j<n then Value.int .u32 (tab j).toNat else Value.int .u32 0):=by
 simp[tabC,h]
theorem zNY(n:Nat)(h:n<256):(tabC n).setIfInBounds n (.int .u32 (tab n).toNat)=tabC (n+1):=by
 apply Array.ext_getElem?
 intro j
 by_cases hj:j<256
 · rw[zEU (n+1) j hj,Array.getElem?_setIfInBounds]
   by_cases e:n=j
   · subst e;simp[zFd,hj]
   · rw[if_neg e,zEU n j hj]
     by_cases h1:j<n
     · rw[if_pos h1,if_pos (by omega)]
     · rw[if_neg h1,if_neg (by omega)]
 · rw[Array.getElem?_eq_none (by simp[zFd];omega),Array.getElem?_eq_none (by rw[zFd];omega)]
theorem zNU:Tryz.zeroCells206=tabC 0:=by kernel_rfl
def bIx (m:Nat) (c:UInt8):Nat:=m ^^^ c.toNat
def zO8 (a b:W32):Nat:=(a ^^^ b).toNat
theorem zKZ{m:Nat}(hm:m<256)(c:UInt8):bIx m c<256:=Nat.xor_lt_two_pow (n:=8) hm c.toNat_lt
theorem zQa{m:Nat}(hm:m<256)(c:UInt8):bits .xor .u8 (m:Int) (c.toNat:Int)=(bIx m c:Int):=by
 have hc:=c.toNat_lt;have hq:=zKZ hm c;unfold bIx at*;rw[zKi];have e1:((m:Int) % 256).toNat=m:=by omega
 have e2:((c.toNat:Int) % 256).toNat=c.toNat:=by omega
 rw[e1,e2,IntKind.wrap_u8]
 omega
abbrev zH9 (b:Nat):Value:=.pointer (some ⟨b,0,none⟩)
theorem zNv(h:St W0 w K L):
  Calls Tryz.prog 122 #[] w fun en w'=>∃b,en=.returned (zH9 b)∧St W0 w' K (.raw b (tabC 256) 206::L):=by
 have H:=hQd h;clear h;go_enter Tryz.func122,Tryz.ntmps122;go_wp2;rw[zNU];go_loopw [4] (fun iv wr=>∃k:Nat,k≤256∧iv=.int .i64 k∧St W0 wr K (.raw w.heap.size (tabC k) 206::L)) (fun iv _=>256 - (intOf iv).toNat)
 case atStart=>exact⟨0,by decide,rfl,H.out.allocRaw _ _⟩
 case round=>
  obtain⟨k,hk,rfl,hs⟩:=hrel;have HS:=hQd hs;clear hs
  by_cases hlt:k<256
  · have hc:=HS.out.rawCell k;rw[zEU k k hlt,if_neg (by omega)]at hc;have hf:=HS.out.rawFree k;have hw:IntKind.u32.wrap (k:Int)=(k:Int):=by rw[IntKind.wrap_u32];omega
    have hlt2:(k:Int)<256:=by omega
    have hk0:(0:Int)≤(k:Int):=by omega
    go_wp2_with fail
    go_region_with (go_at_call 150;refine(zP6 k hlt _).mono ?_;rintro e wn ⟨rfl,rfl⟩)
    go_wp2;go_roundw
    case rel=>
     refine⟨k+1,by omega,by go_num,?_⟩;have h2:=(HS.out.drew).rawSet k (.int .u32 (tab k).toNat);rw[zNY k hlt]at h2;exact h2
    case measure=>first|(simp[intOf];done)|(simp[intOf];omega)
  · have hk:k=256:=by omega
    subst hk;go_wp2;go_ret;exact⟨_,rfl,HS.out⟩
theorem zOP(b:Nat)(sum:W32)(s:Bs)(hs:s.length≤140737488355328)(h:St W0 w K (.raw b (tabC 256) 206::L)):
  Calls Tryz.prog 151 #[zH9 b,.int .u32 sum.toNat,.string (bb s)] w fun en w'=>en=.returned (.int .u32 (zAq sum s).toNat)∧St W0 w' K (.raw b (tabC 256) 206::L):=by
 have H:=hQd h;have hsum:=sum.isLt;obtain⟨nb,hnb⟩:∃nb,~~~ sum=nb:=⟨_,rfl⟩;have hn:=zMW sum;rw[hnb]at hn;have HNB:=hQd hnb;clear h hnb;go_enter Tryz.func151,Tryz.ntmps151;go_wp2;go_loopw [7,13] (fun rv kv wr=>∃k:Nat,k≤s.length∧kv=.int .i64 k∧rv=.int .u32 (zDb nb (s.take k)).toNat∧St W0 wr K (.raw b (tabC 256) 206::L)) (fun _ kv _=>s.length - (intOf kv).toNat)
 case atStart=>exact⟨0,Nat.zero_le _,rfl,rfl,H.out⟩
 case round=>
  obtain⟨k,hk,rfl,rfl,hst⟩:=hrel;have HS:=hQd hst;clear hst;obtain⟨r,hr⟩:∃r,zDb nb (s.take k)=r:=⟨_,rfl⟩;rw[hr];have HR:=hQd hr;clear hr
  by_cases hlt:k<s.length
  · have hrl:=r.isLt
    have hstep:zDb nb (s.take (k+1))=zCx r s[k]:=by
     rw[List.take_succ_eq_append_getElem hlt,zDO,HR.out];rfl
    have HST:=hQd hstep;clear hstep;obtain⟨m,hm⟩:∃m,r.toNat % 256=m:=⟨_,rfl⟩;obtain⟨y,hy⟩:∃y,r>>>8=y:=⟨_,rfl⟩;have hm0:m<256:=by omega
    have hcell:∀c:UInt8,wr.cell? ⟨b,bIx m c,none⟩=some (.int .u32 (tab (bIx m c)).toNat):=fun c=>by
     have h:=HS.out.rawCell (bIx m c);rw[zEU 256 _ (zKZ hm0 c),if_pos (zKZ hm0 c)]at h;exact h
    have hx:=zQa hm0;have hm2:IntKind.u8.wrap (r.toNat:Int)=(m:Int):=by rw[IntKind.wrap_u8];omega
    have hs8:=zN2 r;rw[hy]at hs8;have hxz:∀t:W32,bits .xor .u32 (t.toNat:Int) (y.toNat:Int)=(zO8 t y:Int):=fun t=>zJs t y
    have hq0:∀c:UInt8,(0:Int)≤(bIx m c:Int):=fun c=>by omega
    have hq1:∀c:UInt8,(bIx m c:Int)<256:=fun c=>by have:=zKZ hm0 c;omega
    have HZ:=hQd (show(zCx r s[k]).toNat=zO8 (tab (bIx m s[k])) y by unfold zCx zO8 bIx;rw[hm,hy]);clear hm hy hrl hm0;have hk0:(0:Int)≤(k:Int):=by omega
    have hk1:(k:Int)<s.length:=by omega
    go_wp2_with fail
    go_quiet (fail)
    go_wp2;go_roundw
    case rel=>
     refine⟨k+1,hlt,by go_num,?_,HS.out.drewN _⟩;rw[HST.out,HZ.out];exact congrArg (Value.int .u32) ((congrArg (bits .xor .u32 _) hs8).trans (hxz _))
    case measure=>first|(simp[intOf];done)|(simp[intOf];omega)
  · have hk:k=s.length:=by omega
    subst hk;obtain⟨nr,hnr⟩:∃nr,~~~ r=nr:=⟨_,rfl⟩;have hn2:=zMW r;rw[hnr]at hn2;have HNR:=hQd hnr;clear hnr;rw[List.take_length]at HR;go_wp2;go_ret;refine⟨?_,HS.out⟩;unfold zAq;rw[HNB.out,HR.out,HNR.out]
    rfl
def RStr (_:World) (cs:List Value) (x:Bs):Prop:=cs=[.string (bb x)]
def strRows (D:Nat→Prop) (w:World) (v:Value) (l:List Bs):Prop:=RowsOf RStr D w v 1 l
theorem zMq{D:Nat→Prop}{w w':World}{v:Value}{l:List Bs}(h:strRows D w v l)(hs:w.heap.size≤w'.heap.size)(hk:∀k,k<w.heap.size→D k→w'.heap[k]? =w.heap[k]?):strRows D w' v l:=by
 obtain⟨p,cap,rfl,h⟩:=h;refine⟨p,cap,rfl,fun h0=> ?_⟩;obtain⟨b,off,rfl,hb,hlt,hc⟩:=h h0;refine⟨b,off,rfl,hb,Nat.lt_of_lt_of_le hlt hs,fun i hi=> ?_⟩;obtain⟨cs,h1,h2,h3⟩:=hc i hi;exact⟨cs,h1,h2,fun f u hu=>(World.cell?_of_block (w:=w) (a:=⟨b,off+(i*1+f),none⟩) (hk b hlt hb)).trans (h3 f u hu)⟩
def Know.strs (v:Value) (l:List Bs):Know:=⟨fun w F=>strRows F w v l,fun _ _ _ h hs hk=>zMq h hs hk,fun _ _ _ h hs=>h.mono (fun _ _ h=>hs _ h) (fun _ _ h=>h)⟩
theorem strRows.at{D:Nat→Prop}{w:World}{v:Value}{l:List Bs}(h:strRows D w v l):
  ∃p cap,v=.slice p l.length cap∧(0<l.length→∃b off,p=some ⟨b,off,none⟩∧∀i (h:i<l.length),w.cell? ⟨b,off+i,none⟩=some (.string (bb l[i]))):=by
 obtain⟨p,cap,rfl,h⟩:=h;refine⟨p,cap,rfl,fun h0=> ?_⟩;obtain⟨b,off,rfl,_,_,hc⟩:=h h0;refine⟨b,off,rfl,fun i hi=> ?_⟩;obtain⟨cs,h1,h2,h3⟩:=hc i hi;unfold RStr at h2;subst h2;have:=h3 0 _ rfl
 simpa using this
def zBm (sum:W32) (l:List Bs):W32:=l.foldl zAq sum
theorem zHR(sum:W32)(l:List Bs)(s:Bs):zBm sum (l++[s])=zAq (zBm sum l) s:=List.foldl_append
theorem zHS(sum:W32)(l:List Bs):zBm sum l=zAq sum l.flatten:=by
 induction l generalizing sum with
 |nil=>exact(zKb sum).symm
 |cons a t ih=>
  show zBm (zAq sum a) t=_
  rw[ih,List.flatten_cons,zGu]
theorem zP5(b:Nat)(v:Value)(l:List Bs)(hl:l.length≤9223372036854775807)(hs:∀s∈l,s.length≤140737488355328)(hk:K.has (Know.strs v l))(h:St W0 w K (.raw b (tabC 256) 206::L)):
  Calls Tryz.prog 123 #[zH9 b,v] w fun en w'=>en=.returned (.int .u32 (zBm 0#32 l).toNat)∧St W0 w' K (.raw b (tabC 256) 206::L):=by
 have H:=hQd h;have HS:=hQd hs;have HK:=hQd hk;obtain⟨F,hF,_⟩:=h.get;obtain⟨p,cap,rfl,_⟩:=(hk _ _ hF).at;clear h hs hk hF;go_enter Tryz.func123,Tryz.ntmps123;go_wp2;go_loopw [5,10] (fun rv kv wr=>∃k:Nat,k≤l.length∧kv=.int .i64 k∧rv=.int .u32 (zBm 0#32 (l.take k)).toNat∧St W0 wr K (.raw b (tabC 256) 206::L)) (fun _ kv _=>l.length - (intOf kv).toNat)
 case atStart=>exact⟨0,Nat.zero_le _,rfl,rfl,H.out⟩
 case round=>
  obtain⟨k,hk,rfl,rfl,hst⟩:=hrel;have HST:=hQd hst;obtain⟨F2,hF2,_⟩:=hst.get;obtain⟨p2,cap2,hv2,hrow⟩:=(HK.out _ _ hF2).at;clear hst hF2;obtain⟨r,hr⟩:∃r,zBm 0#32 (l.take k)=r:=⟨_,rfl⟩;rw[hr];have HR:=hQd hr;clear hr
  by_cases hlt:k<l.length
  · obtain⟨bb',off,hp,hcells⟩:=hrow (by omega);have hpp:p=some ⟨bb',off,none⟩:=by simp at hv2;rw[hv2.1,hp]
    subst hpp;have hc:=hcells k hlt;have HL:=hQd (HS.out l[k] (List.getElem_mem hlt));have HN:=hQd (show zBm 0#32 (l.take (k+1))=zAq r l[k] by rw[List.take_succ_eq_append_getElem hlt,zHR,HR.out]);clear hcells hv2 hp hrow;generalize l[k]=s at*;go_wp2_with (go_at_call 151;refine(zOP b r s HL.out HST.out).mono ?_;rintro e wn ⟨rfl,h⟩;have H2:=hQd h;clear h);go_roundw
    case rel=>exact⟨k+1,hlt,by go_num,by rw[HN.out],H2.out⟩
    case measure=>first|(simp[intOf];done)|(simp[intOf];omega)
  · have hk:k=l.length:=by omega
    subst hk;rw[List.take_length]at HR;go_wp2;go_ret;exact⟨by rw[HR.out];rfl,HST.out⟩
theorem St.freezeStrs{r:Nat}(l:List Bs)(h:St W0 w K (.raw r (l.map fun s=>Value.string (bb s)).toArray 9::L)):St W0 w (K.and (Know.strs (.slice (some ⟨r,0,none⟩) l.length l.length) l)) L:=by
 refine h.freeze fun F S1 _ h1=> ?_
 have hlt:=zA2 h1.1;refine⟨some ⟨r,0,none⟩,l.length,rfl,fun _=>⟨r,0,rfl,.inr ⟨(h1.2 r).2 rfl,hlt⟩,hlt,fun i hi=> ?_⟩⟩;refine⟨[.string (bb l[i])],rfl,rfl,fun f u hu=> ?_⟩;rw[zAM h1.1]
 cases f with
 |zero=>
  simp at hu;subst hu;simp[hi]
 |succ f=>simp at hu
theorem zOO(b r n:Nat)(l:List Bs)(x:Nat)(hn:l.length=n)(hx:(zBm 0#32 l).toNat=x)(hs:∀s∈l,s.length≤140737488355328)(hl:l.length≤9223372036854775807)(h:St W0 w K (.raw r (l.map fun s=>Value.string (bb s)).toArray 9::.raw b (tabC 256) 206::L)):
  Calls Tryz.prog 123 #[zH9 b,.slice (some ⟨r,0,none⟩) n n] w fun en w'=>en=.returned (.int .u32 x)∧St W0 w' K (.raw b (tabC 256) 206::L):=by
 subst hn;subst hx;exact(zP5 b _ l hl hs (Know.has_right (Know.has_refl _)) (h.freezeStrs l)).mono fun en w' hh=>⟨hh.1,hh.2.know (Know.has_left (Know.has_refl _))⟩
def zDt:Array Value→Nat→List Value→Array Value
  |c,_,[]=>c
  |c,o,v::r=>zDt (c.setIfInBounds o v) (o+1) r
theorem St.there{b:Nat}{c:Array Value}{T:TypeId}(h:St W0 w K (.raw b c T::L)):w.there b 0 c.size:=fun j hj=>by
  rw[Nat.zero_add];exact⟨by rw[h.rawCell j,Array.getElem?_eq_getElem hj];rfl,h.rawFree j⟩
theorem St.rawSets{W0:World}{K:Know}{L:List Res}{b:Nat}{T:TypeId}:∀(vs:List Value) (o:Nat) (c:Array Value) (w:World),St W0 w K (.raw b c T::L)→St W0 (w.setCells b o vs) K (.raw b (zDt c o vs) T::L)
  |[],_,_,_,h=>h
  |v::r,o,_,_,h=>St.rawSets r (o+1) _ _ (h.rawSet o v)
theorem St.storeEx{b:Nat}{c:Array Value}{T:TypeId}(h:St W0 w K (.raw b c T::L))(cs:Array Value):∃wz,w.setCells b 0 cs.toList=wz∧St W0 wz K (.raw b (zDt c 0 cs.toList) T::L):=⟨_,rfl,h.rawSets _ _ _ _⟩
theorem St.allocEx(h:St W0 w K L)(c:Array Value)(T:TypeId):∃wy b,w.alloc (.cells c T (0,0))=wy∧w.heap.size=b∧St W0 wy K (.raw b c T::L):=⟨_,_,rfl,rfl,h.allocRaw c T⟩
variable {W0 w:World}{K:Know}{L:List Res}
theorem zP4(a c:Bs):(zBm 0#32 [a,c]).toNat=(zAq 0#32 (a++c)).toNat:=by
 rw[zHS]
 simp
theorem zKX(b r:Nat)(a c:Bs)(x:Nat)(hx:(zBm 0#32 [a,c]).toNat=x)(hs:∀s∈[a,c],s.length≤140737488355328)(hl:[a,c].length≤9223372036854775807)(h:St W0 w K (.raw r #[.string (bb a),.string (bb c)] 9::.raw b (tabC 256) 206::L)):
 Calls Tryz.prog 123 #[zH9 b,.slice (some ⟨r,0,none⟩) 2 2] w fun en w'=>en=.returned (.int .u32 x)∧St W0 w' K (.raw b (tabC 256) 206::L):=zOO b r 2 [a,c] x rfl hx hs hl h
theorem zEw(said rows:Bs)(x:Nat)(hx:(zAq 0#32 (said.drop 21++rows)).toNat=x)(hl:21≤said.length)(hl2:said.length≤140737488355328)(hr:rows.length≤140737488355328)(h:St W0 w K L):
  Calls Tryz.prog 88 #[.string (bb said),.string (bb rows)] w fun en w'=>en=.returned (.int .i64 x)∧St W0 w' K L:=by
 have H:=hQd h;have HX:=hQd (show(zBm 0#32 [said.drop 21,rows]).toNat=x by rw[zP4];exact hx)
 have HSS:=hQd (show ∀s∈[said.drop 21,rows],s.length≤140737488355328 by
  intro s hs;simp only[List.mem_cons,List.not_mem_nil,or_false]at hs
  rcases hs with rfl|rfl
  · rw[List.length_drop];omega
  · exact hr)
 have HLS:=hQd (show[said.drop 21,rows].length≤9223372036854775807 by simp);have HT:=hQd (show List.take (said.length - 21) (List.drop 21 said)=said.drop 21 from List.take_of_length_le (by rw[List.length_drop];omega));have hx32:x<4294967296:=by rw[←hx];exact(zAq 0#32 (said.drop 21++rows)).isLt
 have l21:(21:Int)≤(said.length:Int):=by omega
 have w1:IntKind.i64.wrap (x:Int)=(x:Int):=IntWalk.i64_in _ (by omega);have w2:wrap64 (x:Int)=(x:Int):=by unfold wrap64;omega
 clear h hx hl hl2 hr hx32;go_enter Tryz.func88,Tryz.ntmps88;go_upto_region 1 with (fail);have hs:=H.out.drew;refine wp_region_held_drew (S:=fun _=>True) (by kernel_rfl) trivial (fun hHeld=> ?_);clear H;generalize w.drew=wd at hs ⊢;refine tQ 1 ⟨some 6,.move (.tmp 0),9,_,_,none⟩ ?_;simp only[Act.put,sA,sB,sC];refine tQ 2 ⟨some 7,.slice 9 (.tmp 6) (some (.const (Value.int IntKind.i64 21))) none none,9,_,_,none⟩ ?_;simp only[Act.put,sA,sB,sC];refine tQ 3 ⟨some 8,.move (.tmp 1),9,_,_,none⟩ ?_;simp only[Act.put,sA,sB,sC];refine wpAnyH_ready (rs:=[0,4]) (by kernel_rfl) (by simp) (AllReadyH.cons (o:=⟨some 5,.call {callee:=.value (.func 122),args:= #[],argTypes:= #[]},171,_,_,none⟩) rfl (fun KK hK=> ?_) (AllReadyH.cons (o:=⟨some 9,.buildSlice 69 2 #[(0,.tmp 7),(1,.tmp 8)],69,_,_,none⟩) rfl (fun KK hK=> ?_) AllReadyH.nil))
 focus
  go_simp;go_at_call 122;with_reducible refine(zNv hs).mono ?_;rintro e wq ⟨bt,rfl,hs⟩;refine hK.out _ _ (trivial) (fun hHeld=> ?_);clear hK KK
  try simp only[Act.put,sA,sB,sC]
  refine wpAnyH_ready (rs:=[4]) (by kernel_rfl) (by simp) (AllReadyH.cons (o:=⟨some 9,.buildSlice 69 2 #[(0,.tmp 7),(1,.tmp 8)],69,_,_,none⟩) rfl (fun KK hK=> ?_) AllReadyH.nil);obtain⟨wy,bS,ey,eb,hs⟩:=hs.allocEx #[.string (bb (said.drop 21)),.string (bb rows)] 9;go_simp
  try rw[HT.out]
  try rw[ey]
  try rw[eb]
  clear ey eb;refine hK.out _ _ (trivial) (fun hHeld=> ?_);clear hK KK
  try simp only[Act.put,sA,sB,sC]
  refine wpAnyH_ready (rs:=[5]) (by kernel_rfl) (by simp) (AllReadyH.cons (o:=⟨some 10,.call {callee:=.value (.func 123),args:= #[.tmp 5,.tmp 9],argTypes:= #[171,69]},60,_,_,none⟩) rfl (fun KK hK=> ?_) AllReadyH.nil);go_simp;go_at_call 123;with_reducible refine(zKX bt bS (said.drop 21) rows x HX.out HSS.out HLS.out (hs)).mono ?_
 rotate_left
 focus
  obtain⟨wy,bS,ey,eb,hs⟩:=hs.allocEx #[.string (bb (said.drop 21)),.string (bb rows)] 9;go_simp
  try rw[HT.out]
  try rw[ey]
  try rw[eb]
  clear ey eb;refine hK.out _ _ (trivial) (fun hHeld=> ?_);clear hK KK
  try simp only[Act.put,sA,sB,sC]
  refine wpAnyH_ready (rs:=[0]) (by kernel_rfl) (by simp) (AllReadyH.cons (o:=⟨some 5,.call {callee:=.value (.func 122),args:= #[],argTypes:= #[]},171,_,_,none⟩) rfl (fun KK hK=> ?_) AllReadyH.nil);go_simp;go_at_call 122;with_reducible refine(zNv hs).mono ?_;rintro e wq ⟨bt,rfl,hs⟩;refine hK.out _ _ (trivial) (fun hHeld=> ?_);clear hK KK
  try simp only[Act.put,sA,sB,sC]
  refine wpAnyH_ready (rs:=[5]) (by kernel_rfl) (by simp) (AllReadyH.cons (o:=⟨some 10,.call {callee:=.value (.func 123),args:= #[.tmp 5,.tmp 9],argTypes:= #[171,69]},60,_,_,none⟩) rfl (fun KK hK=> ?_) AllReadyH.nil);go_simp;go_at_call 123;with_reducible refine(zKX bt bS (said.drop 21) rows x HX.out HSS.out HLS.out (hs.p1)).mono ?_
 all_goals
  rintro e wq ⟨rfl,hs⟩;refine hK.out _ _ (trivial) (fun hHeld=> ?_);clear hK KK
  try simp only[Act.put,sA,sB,sC]
  refine tQ 6 ⟨some 11,.convert 60 3 (.tmp 10),3,_,_,none⟩ ?_;simp only[Act.put,sA,sB,sC];refine tQ 7 ⟨some 4,.assign (.tmp 11),3,_,_,none⟩ ?_;simp only[Act.put,sA,sB,sC];refine wpAnyH_done (by kernel_rfl) ?_ _;clear hHeld;go_wp2_with fail;go_ret;exact⟨rfl,hs.drop⟩
def zAf (n:Int) (i:Nat):Bool:=decide (n / 2 ^ i % 2=1)
def R64 (n:Int):Prop:= -9223372036854775808≤n∧n<9223372036854775808
theorem zE5(k:Nat)(h:k<18446744073709551616):IntKind.i64.wrap (k:Int)=0↔k=0:=by
 rw[IntKind.wrap_i64];omega
theorem zCq(n:Int):((BitVec.ofInt 64 n).toNat:Int)=n % 18446744073709551616:=by
 rw[BitVec.toNat_ofInt];have:(0:Int)≤n % ((2 ^ 64:Nat):Int):=Int.emod_nonneg _ (by decide);rw[Int.toNat_of_nonneg this]
 rfl
theorem zJV(n:Int)(i:Nat)(hi:i<64):(BitVec.ofInt 64 n).toNat.testBit i=zAf n i:=by
 obtain⟨m,hm⟩:∃m,(BitVec.ofInt 64 n).toNat=m:=⟨_,rfl⟩;have h:=zCq n;rw[hm]at h;rw[hm,Nat.testBit_eq_decide_div_mod_eq];unfold zAf
 apply decide_eq_decide.mpr
 have hd:((2:Int) ^ i)*(2*2 ^ (63 - i))=18446744073709551616:=by
  rw[←Int.mul_assoc,Int.mul_comm _ 2,Int.mul_assoc,←Int.pow_add,show i+(63 - i)=63 by omega];decide
 have hp:(0:Int)<2 ^ i:=Int.pow_pos (by decide)
 have e:n=(m:Int)+2 ^ i*(2*(2 ^ (63 - i)*(n / 18446744073709551616))):=by
  have h1:=Int.mul_ediv_add_emod n 18446744073709551616;rw[←Int.mul_assoc 2,←Int.mul_assoc (2 ^ i),hd]
  omega
 have e2:n / 2 ^ i=(m:Int) / 2 ^ i+2*(2 ^ (63 - i)*(n / 18446744073709551616)):=by
  have:=Int.add_mul_ediv_left (m:Int) (2*(2 ^ (63 - i)*(n / 18446744073709551616))) (Int.ne_of_gt hp);rw[←e]at this;exact this
 have e3:((m:Int) / 2 ^ i)=((m / 2 ^ i:Nat):Int):=by
  rw[Int.natCast_ediv,Int.natCast_pow];rfl
 rw[e2,e3,Int.add_mul_emod_self_left]
 omega
theorem zKo(n:Int)(i:Nat)(hi:i<63)(m:Int)(hm:BitVec.ofInt 64 m=BitVec.twoPow 64 i):(bits .and .i64 n m !=0)=zAf n i:=by
 have e:bits .and .i64 n m=IntKind.i64.wrap ((BitVec.ofInt 64 n &&& BitVec.ofInt 64 m).toNat:Int):=rfl;have hb:(BitVec.ofInt 64 n).getLsbD i=zAf n i:=zJV n i (by omega);have hp:2 ^ i<2 ^ 64:=Nat.pow_lt_pow_right (by decide) (by omega);rw[e,hm,BitVec.and_twoPow,hb]
 cases zAf n i
 · rw[if_neg (by decide)]
   decide
 · rw[if_pos rfl,bne_iff_ne,Ne,zE5 _ (BitVec.isLt _),BitVec.toNat_twoPow,Nat.mod_eq_of_lt hp];exact Nat.ne_of_gt (Nat.two_pow_pos i)
theorem and7(n:Int):(bits .and .i64 n 7 !=0)=(zAf n 0||zAf n 1||zAf n 2):=by
 have e:bits .and .i64 n 7=IntKind.i64.wrap ((BitVec.ofInt 64 n &&& BitVec.ofInt 64 7).toNat:Int):=rfl;have hlt:=(BitVec.ofInt 64 n &&& BitVec.ofInt 64 7).isLt;have hz:=zE5 _ hlt
 have h2:(BitVec.ofInt 64 n &&& BitVec.ofInt 64 7).toNat=(BitVec.ofInt 64 n).toNat % 8:=by
  rw[BitVec.toNat_and,show(BitVec.ofInt 64 7).toNat=2 ^ 3 - 1 by decide,Nat.and_two_pow_sub_one_eq_mod]
 have h3:=zCq n;rw[h2]at e hz;rw[Bool.eq_iff_iff,bne_iff_ne,e,Ne,hz];unfold zAf
 simp
 omega
theorem zOY(n:Int)(hn:R64 n)(h:(zAf n 0||zAf n 1||zAf n 2)=false):(bits .andNot .i64 n 56 !=0)=(decide (n<0)||decide (63<n)):=by
 have h8:n % 8=0:=by unfold zAf at h;simp at h;omega
 by_cases h1:0≤n∧n≤63
 · rw[decide_eq_false (by omega),decide_eq_false (by omega)];obtain⟨q,hq⟩:∃q,n=8*q:=⟨n / 8,by omega⟩
   rcases(by omega:q=0∨q=1∨q=2∨q=3∨q=4∨q=5∨q=6∨q=7)with h|h|h|h|h|h|h|h<;>(subst h;subst hq;decide)
 · have hr:(decide (n<0)||decide (63<n))=true:=by simp;omega
   rw[hr,bne_iff_ne];intro h0;have e:bits .andNot .i64 n 56=IntKind.i64.wrap ((BitVec.ofInt 64 n &&& ~~~ BitVec.ofInt 64 56).toNat:Int):=rfl;rw[e,zE5 _ (BitVec.isLt _)]at h0
   have h2:∀i,6≤i→(BitVec.ofInt 64 n).toNat.testBit i=false:=by
    intro i hi
    by_cases h64:i<64
    · have h4:=congrArg (fun k=>Nat.testBit k i) h0
      have h5:(BitVec.ofInt 64 n &&& ~~~ BitVec.ofInt 64 56).getLsbD i=false:=by
       have:(BitVec.ofInt 64 n &&& ~~~ BitVec.ofInt 64 56).toNat.testBit i=false:=by rw[h0];exact Nat.zero_testBit i
       exact this
      rw[BitVec.getLsbD_and,BitVec.getLsbD_not]at h5
      have h6:(BitVec.ofInt 64 56).getLsbD i=false:=by
       have:(BitVec.ofInt 64 56).toNat=56:=by decide
       unfold BitVec.getLsbD;rw[this];exact Nat.testBit_lt_two_pow (Nat.lt_of_lt_of_le (by decide:56<2 ^ 6) (Nat.pow_le_pow_right (by decide) hi))
      rw[h6]at h5;have h11:(BitVec.ofInt 64 n).getLsbD i=false:=by cases hc:(BitVec.ofInt 64 n).getLsbD i<;>simp_all
      exact h11
    · exact BitVec.getLsbD_of_ge _ _ (by omega)
   have h7:(BitVec.ofInt 64 n).toNat<2 ^ 6:=Nat.lt_pow_two_of_testBit _ h2;have h8:=zCq n;have h9:=hn.1;have h10:=hn.2
   omega
def chk (n:Int):Int:=if (zAf n 0||zAf n 1||zAf n 2)=true then 9 else if (decide (n<0)||decide (63<n)||(zAf n 5 && !zAf n 4))=true then 8 else 0
def zAQ (a t c:Bool) (k:Nat):Int:=(if a && decide (0<k)then 8 else 0)+(if t && decide (1<k)then 16 else 0)+(if c && decide (2<k)then 32 else 0)
theorem and8(n:Int):(bits .and .i64 n 8 !=0)=zAf n 3:=zKo n 3 (by decide) 8 (by decide)
theorem and16(n:Int):(bits .and .i64 n 16 !=0)=zAf n 4:=zKo n 4 (by decide) 16 (by decide)
theorem and32(n:Int):(bits .and .i64 n 32 !=0)=zAf n 5:=zKo n 5 (by decide) 32 (by decide)
theorem and16z(n:Int):(bits .and .i64 n 16==0)= !zAf n 4:=by rw[←and16];simp[bne]
theorem zNM(n:Int)(w:World):
  Calls Tryz.prog 201 #[.int .i64 n] w fun en w'=>en=.returned (.tuple #[.bool (zAf n 3),.bool (zAf n 4),.bool (zAf n 5)])∧w=w':=by
 have h1:=and8 n;have h2:=and16 n;have h3:=and32 n;go_enter Tryz.func201,Tryz.ntmps201;go_wp2;go_ret3;rw[←h1,←h2,←h3];exact⟨rfl,rfl⟩
theorem zLW(n:Int)(hn:R64 n)(w:World):
   Calls Tryz.prog 199 #[.int .i64 n] w fun en w'=>en=.returned (.int .i64 (chk n))∧w=w':=by
 have a7:=and7 n;have a56:=zOY n hn;have a16:=and16z n;have a32:=and32 n;clear hn;have hc:chk n=chk n:=rfl
 conv at hc=>rhs;unfold chk
 cases hb:(zAf n 0||zAf n 1||zAf n 2)
 · rw[hb]at a7 hc;rw[hb]at a56;replace a56:=a56 rfl
   cases hd:(decide (n<0)||decide (63<n))
   · rw[hd]at a56 hc
     cases h5:zAf n 5
     · rw[h5]at a32 hc;have HC:=hQd (show chk n=0 from hc);clear hc hd hb h5;go_enter Tryz.func199,Tryz.ntmps199;go_wp2;go_ret;rw[HC.out];exact⟨rfl,rfl⟩
     · rw[h5]at a32 hc
       cases h4:zAf n 4
       · rw[h4]at a16 hc;have HC:=hQd (show chk n=8 from hc);clear hc hd hb h5 h4;go_enter Tryz.func199,Tryz.ntmps199;go_wp2;go_ret;rw[HC.out];exact⟨rfl,rfl⟩
       · rw[h4]at a16 hc;have HC:=hQd (show chk n=0 from hc);clear hc hd hb h5 h4;go_enter Tryz.func199,Tryz.ntmps199;go_wp2;go_ret;rw[HC.out];exact⟨rfl,rfl⟩
   · rw[hd]at a56 hc;have HC:=hQd (show chk n=8 from hc);clear hc hd hb;go_enter Tryz.func199,Tryz.ntmps199;go_wp2;go_ret;rw[HC.out];exact⟨rfl,rfl⟩
 · rw[hb]at a7 hc;have HC:=hQd (show chk n=9 from hc);clear hc hb a56;go_enter Tryz.func199,Tryz.ntmps199;go_wp2;go_ret;rw[HC.out];exact⟨rfl,rfl⟩
abbrev aBatch (base leader:Int) (a t c:Bool) (last first max prod epoch sq:Int) (ro:Option Addr) (e k:Nat):Value:=
  .agg #[.int .i64 base,.int .i64 leader,.bool a,.bool t,.bool c,.int .i64 last,.int .i64 first,.int .i64 max,.int .i64 prod,.int .i64 epoch,.int .i64 sq,.slice ro e k]
theorem zQb(base leader:Int)(a t c:Bool)(last first max prod epoch sq:Int)(ro:Option Addr)(e k:Nat){W0 w:World}{K:Know}{L:List Res}(h:St W0 w K L):
  Calls Tryz.prog 120 #[aBatch base leader a t c last first max prod epoch sq ro e k] w fun en w'=>en=.returned (.int .i64 (zAQ a t c 3))∧St W0 w' K L:=by
 have H:=hQd h;clear h;go_enter Tryz.func120,Tryz.ntmps120;go_wp2
 go_loop [4,15] (fun nv kv=>∃(k:Nat),k≤3∧kv=.int .i64 k∧nv=.int .i64 (zAQ a t c k)) (fun _ kv=>3 - (intOf kv).toNat)
 case atStart=>exact⟨0,by decide,rfl,by simp[zAQ]⟩
 case round=>
  obtain⟨k,hk,rfl,rfl⟩:=hrel;have e1:zAQ true t c 1=bits .or .i64 (zAQ true t c 0) 8:=by cases t<;>cases c<;>decide
  have e2:zAQ a true c 2=bits .or .i64 (zAQ a true c 1) 16:=by cases a<;>cases c<;>decide
  have e3:zAQ a t true 3=bits .or .i64 (zAQ a t true 2) 32:=by cases a<;>cases t<;>decide
  have f1:zAQ false t c 1=zAQ false t c 0:=by cases t<;>cases c<;>decide
  have f2:zAQ a false c 2=zAQ a false c 1:=by cases a<;>cases c<;>decide
  have f3:zAQ a t false 3=zAQ a t false 2:=by cases a<;>cases t<;>decide
  have E:=hQd (And.intro e1 (And.intro e2 (And.intro e3 (And.intro f1 (And.intro f2 f3)))));clear e1 e2 e3 f1 f2 f3;have i0:∀w:World,(Instr.index 137 (.agg #[.bool a,.bool t,.bool c]) (.int .i64 0)).run Tryz.prog w=.ok (.bool a) w:=fun _=>by kernel_rfl
  have i1:∀w:World,(Instr.index 137 (.agg #[.bool a,.bool t,.bool c]) (.int .i64 1)).run Tryz.prog w=.ok (.bool t) w:=fun _=>by kernel_rfl
  have i2:∀w:World,(Instr.index 137 (.agg #[.bool a,.bool t,.bool c]) (.int .i64 2)).run Tryz.prog w=.ok (.bool c) w:=fun _=>by kernel_rfl
  rcases(by omega:k=0∨k=1∨k=2∨k=3)with h|h|h|h
  · subst h
    cases a
    all_goals
     go_wp2
     go_round
     case rel=>exact⟨1,by decide,rfl,congrArg (Value.int .i64) (by first|exact E.out.2.2.2.1.symm|exact E.out.1.symm)⟩
     case measure=>decide
  · subst h
    cases t
    all_goals
     go_wp2
     go_round
     case rel=>exact⟨2,by decide,rfl,congrArg (Value.int .i64) (by first|exact E.out.2.2.2.2.1.symm|exact E.out.2.1.symm)⟩
     case measure=>decide
  · subst h
    cases c
    all_goals
     go_wp2
     go_round
     case rel=>exact⟨3,by decide,rfl,congrArg (Value.int .i64) (by first|exact E.out.2.2.2.2.2.symm|exact E.out.2.2.1.symm)⟩
     case measure=>decide
  · subst h;go_wp2;go_ret;exact⟨rfl,(H.out.alloc _).alloc _⟩
set_option maxHeartbeats 2000000
variable {W0 w:World}{K:Know}{L:List Res}
theorem zq18{p:Prop}(h:p:=by
  rw[if_neg h1,Array.getElem?_setIfInBounds]
  by_cases h2:o=i
  · subst h2;rw[if_pos rfl]
    by_cases h3:o<c.size
    · rw[if_pos h3,if_pos (by omega),Nat.sub_self];rfl
    · rw[if_neg h3,if_neg (by omega),Array.getElem?_eq_none (by omega)]
  · rw[if_neg h2,if_neg (by omega)]):p:=h
theorem zq23{p:Prop}(h:p:=by
  rw[if_pos h1,if_pos (by omega)];obtain⟨k,rfl⟩:∃k,i=o+1+k:=⟨i - (o+1),by omega⟩;rw[show o+1+k - (o+1)=k by omega,show o+1+k - o=k+1 by omega]
  rfl):p:=h
theorem zGE:∀(vs:List Value) (o:Nat) (c:Array Value) (i:Nat),(zDt c o vs)[i]? =if o≤i∧i<o+vs.length∧i<c.size then vs[i - o]? else c[i]?
  |[],o,c,i=>by
    show c[i]? =_
    rw[if_neg (by simp;omega)]
  |v::r,o,c,i=>by
    show(zDt (c.setIfInBounds o v) (o+1) r)[i]? =_
    rw[zGE r (o+1) _ i];simp only[Array.size_setIfInBounds,List.length_cons]
    by_cases h1:o+1≤i∧i<o+1+r.length∧i<c.size
    · exact zq23
    · exact zq18
theorem zq21{p:Prop}(h:p:=by
  by_cases h1:i<cs.size
  · rw[if_pos (by simp;omega),Nat.sub_zero,Array.getElem?_toList]
  · rw[if_neg (by simp;omega),Array.getElem?_eq_none (by omega),Array.getElem?_eq_none (by omega)]):p:=h
theorem zD5(c cs:Array Value)(h:c.size=cs.size):zDt c 0 cs.toList=cs:=by
 refine Array.ext_getElem? fun i=> ?_
 rw[zGE]
 exact zq21
theorem zOU(base leader:Int)(app txn ctl:Bool)(last first maxt prod epoch sq:Int)(q:Option Addr)(n cap:Nat)(h:St W0 w K L):
 Calls Tryz.prog 120 #[.agg #[.int .i64 base,.int .i64 leader,.bool app,.bool txn,.bool ctl,.int .i64 last,.int .i64 first,.int .i64 maxt,.int .i64 prod,.int .i64 epoch,.int .i64 sq,.slice q n cap]] w fun en w'=>en=.returned (.int .i64 (zAQ app txn ctl 3))∧St W0 w' K L:=zQb base leader app txn ctl last first maxt prod epoch sq q n cap h
theorem zOR(base leader:Int)(app txn ctl:Bool)(last first maxt prod epoch sq:Int)(l:List (RecS×Value))(q:Option Addr)(cap:Nat)(size:Nat)(hsz:size≤140737488355328)(h:St W0 w K L):
  Calls Tryz.prog 86 #[.agg #[.int .i64 base,.int .i64 leader,.bool app,.bool txn,.bool ctl,.int .i64 last,.int .i64 first,.int .i64 maxt,.int .i64 prod,.int .i64 epoch,.int .i64 sq,.slice q l.length cap],.int .i64 size] w fun en w'=>en=.returned (.agg #[.int .i64 base,.int .i64 (49+size),.int .i64 leader,.int .i64 0,.int .i64 (zAQ app txn ctl 3),.int .i64 last,.int .i64 first,.int .i64 maxt,.int .i64 prod,.int .i64 epoch,.int .i64 sq,.int .i64 l.length])∧St W0 w' K L:=by
 have g1:=h.allocRaw #[.int .i64 base,.int .i64 leader,.bool app,.bool txn,.bool ctl,.int .i64 last,.int .i64 first,.int .i64 maxt,.int .i64 prod,.int .i64 epoch,.int .i64 sq,.slice q l.length cap] 30;have g2:=(g1.allocRaw #[.int .i64 0,.int .i64 0,.int .i64 0,.int .i64 0,.int .i64 0,.int .i64 0,.int .i64 0,.int .i64 0,.int .i64 0,.int .i64 0,.int .i64 0,.int .i64 0] 130).p1;obtain⟨hb,hhb⟩:∃b,w.heap.size=b:=⟨_,rfl⟩;obtain⟨rb,hrb⟩:∃b,hb+1=b:=⟨_,rfl⟩;simp only[World.size_alloc,hhb,hrb]at g2;have H:=hQd g2;have w1:IntKind.i64.wrap (49+(size:Int))=49+(size:Int):=IntWalk.i64_in _ (by omega);clear g1 g2 h hsz;go_enter Tryz.func86,Tryz.ntmps86;go_upto_region 1 with (fail);have hs:=H.out.drew;refine wp_region_held_drew (S:=fun w'=>w'.cell? ⟨hb,0,none⟩=some (.int .i64 base)∧w'.cell? ⟨hb,1,none⟩=some (.int .i64 leader)∧w'.cell? ⟨hb,2,none⟩=some (.bool app)∧w'.cell? ⟨hb,3,none⟩=some (.bool txn)∧w'.cell? ⟨hb,4,none⟩=some (.bool ctl)∧w'.cell? ⟨hb,5,none⟩=some (.int .i64 last)∧w'.cell? ⟨hb,6,none⟩=some (.int .i64 first)∧w'.cell? ⟨hb,7,none⟩=some (.int .i64 maxt)∧w'.cell? ⟨hb,8,none⟩=some (.int .i64 prod)∧w'.cell? ⟨hb,9,none⟩=some (.int .i64 epoch)∧w'.cell? ⟨hb,10,none⟩=some (.int .i64 sq)∧w'.cell? ⟨hb,11,none⟩=some (.slice q l.length cap)) (by kernel_rfl) (let ⟨x0,x1,x2,x3,x4,x5,x6,x7,x8,x9,x10,x11,_⟩:=zAc (b:=hb) (hs);⟨x0,x1,x2,x3,x4,x5,x6,x7,x8,x9,x10,x11⟩) (fun hHeld=> ?_);refine tQ 0 ⟨some 5,.fieldAddr 30 (.tmp 2) 0,0,_,_,none⟩ ?_;simp only[Act.put,sA,sB,sC];refine tQ 1 ⟨some 6,.load 3 (.tmp 5),3,_,_,none⟩ ?_;simp only[Act.put,sA,sB,sC];refine tQ 2 ⟨some 7,.move (.tmp 1),3,_,_,none⟩ ?_;simp only[Act.put,sA,sB,sC];refine tQ 3 ⟨some 8,.binOp .add 3 (.const (Value.int IntKind.i64 49)) (.tmp 7) 3,3,_,_,none⟩ ?_;simp only[Act.put,sA,sB,sC];refine tQ 4 ⟨some 9,.fieldAddr 30 (.tmp 2) 1,0,_,_,none⟩ ?_;simp only[Act.put,sA,sB,sC];refine tQ 5 ⟨some 10,.load 3 (.tmp 9),3,_,_,none⟩ ?_;simp only[Act.put,sA,sB,sC];refine tQ 6 ⟨some 11,.load 30 (.tmp 2),30,_,_,none⟩ ?_;simp only[Act.put,sA,sB,sC];refine tQ 8 ⟨some 13,.fieldAddr 30 (.tmp 2) 5,0,_,_,none⟩ ?_;simp only[Act.put,sA,sB,sC];refine tQ 9 ⟨some 14,.load 3 (.tmp 13),3,_,_,none⟩ ?_;simp only[Act.put,sA,sB,sC];refine tQ 10 ⟨some 15,.fieldAddr 30 (.tmp 2) 6,0,_,_,none⟩ ?_;simp only[Act.put,sA,sB,sC];refine tQ 11 ⟨some 16,.load 3 (.tmp 15),3,_,_,none⟩ ?_;simp only[Act.put,sA,sB,sC];refine tQ 12 ⟨some 17,.fieldAddr 30 (.tmp 2) 7,0,_,_,none⟩ ?_;simp only[Act.put,sA,sB,sC];refine tQ 13 ⟨some 18,.load 3 (.tmp 17),3,_,_,none⟩ ?_;simp only[Act.put,sA,sB,sC];refine tQ 14 ⟨some 19,.fieldAddr 30 (.tmp 2) 8,0,_,_,none⟩ ?_;simp only[Act.put,sA,sB,sC];refine tQ 15 ⟨some 20,.load 3 (.tmp 19),3,_,_,none⟩ ?_;simp only[Act.put,sA,sB,sC];refine tQ 16 ⟨some 21,.fieldAddr 30 (.tmp 2) 9,0,_,_,none⟩ ?_;simp only[Act.put,sA,sB,sC];refine tQ 17 ⟨some 22,.load 3 (.tmp 21),3,_,_,none⟩ ?_;simp only[Act.put,sA,sB,sC];refine tQ 18 ⟨some 23,.fieldAddr 30 (.tmp 2) 10,0,_,_,none⟩ ?_;simp only[Act.put,sA,sB,sC];refine tQ 19 ⟨some 24,.load 3 (.tmp 23),3,_,_,none⟩ ?_;simp only[Act.put,sA,sB,sC];refine tQ 20 ⟨some 25,.fieldAddr 30 (.tmp 2) 11,0,_,_,none⟩ ?_;simp only[Act.put,sA,sB,sC];refine tQ 21 ⟨some 26,.load 28 (.tmp 25),28,_,_,none⟩ ?_;simp only[Act.put,sA,sB,sC];refine tQ 22 ⟨some 27,.call {callee:=.builtin .len,args:= #[.tmp 26],argTypes:= #[28]},3,_,_,none⟩ ?_;simp only[Act.put,sA,sB,sC];refine wpAnyH_ready (rs:=[7]) (by kernel_rfl) (by simp) (AllReadyH.cons (o:=⟨some 12,.call {callee:=.value (.func 120),args:= #[.tmp 11],argTypes:= #[30]},3,_,_,none⟩) rfl (fun KK hK=> ?_) AllReadyH.nil);go_simp;go_at_call 120;with_reducible refine(zOU base leader app txn ctl last first maxt prod epoch sq q l.length cap hs).mono ?_;rintro e wq ⟨rfl,hs⟩;refine hK.out _ _ (let ⟨x0,x1,x2,x3,x4,x5,x6,x7,x8,x9,x10,x11,_⟩:=zAc (b:=hb) (hs);⟨x0,x1,x2,x3,x4,x5,x6,x7,x8,x9,x10,x11⟩) (fun hHeld=> ?_);clear hK KK
 try simp only[Act.put,sA,sB,sC]
 refine tQ 23 ⟨some 28,.build 130 #[(0,.tmp 6),(1,.tmp 8),(2,.tmp 10),(4,.tmp 12),(5,.tmp 14),(6,.tmp 16),(7,.tmp 18),(8,.tmp 20),(9,.tmp 22),(10,.tmp 24),(11,.tmp 27)],130,_,_,none⟩ ?_;simp only[Act.put,sA,sB,sC];refine wpAnyH_ready (rs:=[24]) (by kernel_rfl) (by simp) (AllReadyH.cons (o:=⟨none,.store 130 (.tmp 4) (.tmp 28),0,_,_,none⟩) rfl (fun KK hK=> ?_) AllReadyH.nil);have hs:=hs.p1;rw[if_pos (by rfl)];refine wp_store_mid 130 (.tmp 4) (.tmp 28) rfl rb 0 #[.int .i64 base,.int .i64 (49+size),.int .i64 leader,.int .i64 0,.int .i64 (zAQ app txn ctl 3),.int .i64 last,.int .i64 first,.int .i64 maxt,.int .i64 prod,.int .i64 epoch,.int .i64 sq,.int .i64 l.length] (by rfl) (by rfl) hs.there (by kernel_rfl) (by simp[Value.oneCell']) ?_;obtain⟨wz,ez,hs⟩:=hs.storeEx #[.int .i64 base,.int .i64 (49+size),.int .i64 leader,.int .i64 0,.int .i64 (zAQ app txn ctl 3),.int .i64 last,.int .i64 first,.int .i64 maxt,.int .i64 prod,.int .i64 epoch,.int .i64 sq,.int .i64 l.length];rw[ez];clear ez;refine hK.out _ _ (let ⟨x0,x1,x2,x3,x4,x5,x6,x7,x8,x9,x10,x11,_⟩:=zAc (b:=hb) (hs.p1);⟨x0,x1,x2,x3,x4,x5,x6,x7,x8,x9,x10,x11⟩) (fun hHeld=> ?_);clear hK KK
 try simp only[Act.put,sA,sB,sC]
 refine wpAnyH_done (by kernel_rfl) ?_ _;clear hHeld;rw[zD5]at hs;rotate_left
 · rfl
 have hz:St W0 _ K (.raw rb #[.int .i64 base,.int .i64 (49+size),.int .i64 leader,.int .i64 0,.int .i64 (zAQ app txn ctl 3),.int .i64 last,.int .i64 first,.int .i64 maxt,.int .i64 prod,.int .i64 epoch,.int .i64 sq,.int .i64 l.length] 130::_):=hs;go_wp2_with fail;refine bodyPost_ret (zAl rfl _ _ rb [.int .i64 base,.int .i64 (49+size),.int .i64 leader,.int .i64 0,.int .i64 (zAQ app txn ctl 3),.int .i64 last,.int .i64 first,.int .i64 maxt,.int .i64 prod,.int .i64 epoch,.int .i64 sq,.int .i64 l.length] _ rfl (zAp hz) Tryz.underlying130 rfl (by kernel_rfl)) rfl ?_;exact⟨rfl,hz.drop.drop⟩
variable {W0 w:World}{K:Know}{L:List Res}
theorem raw9{b:Nat}{T:TypeId}{v0 v1 v2 v3 v4 v5 v6 v7 v8:Value}(h:St W0 w K (.raw b #[v0,v1,v2,v3,v4,v5,v6,v7,v8] T::L)):
  w.cell? ⟨b,0,none⟩=some v0∧w.cell? ⟨b,1,none⟩=some v1∧w.cell? ⟨b,2,none⟩=some v2∧w.cell? ⟨b,3,none⟩=some v3∧w.cell? ⟨b,4,none⟩=some v4∧w.cell? ⟨b,5,none⟩=some v5∧w.cell? ⟨b,6,none⟩=some v6∧w.cell? ⟨b,7,none⟩=some v7∧w.cell? ⟨b,8,none⟩=some v8∧
  w.frozen? ⟨b,0,none⟩=false∧w.frozen? ⟨b,1,none⟩=false∧w.frozen? ⟨b,2,none⟩=false∧w.frozen? ⟨b,3,none⟩=false∧w.frozen? ⟨b,4,none⟩=false∧w.frozen? ⟨b,5,none⟩=false∧w.frozen? ⟨b,6,none⟩=false∧w.frozen? ⟨b,7,none⟩=false∧w.frozen? ⟨b,8,none⟩=false:=
 ⟨h.rawCell 0,h.rawCell 1,h.rawCell 2,h.rawCell 3,h.rawCell 4,h.rawCell 5,h.rawCell 6,h.rawCell 7,h.rawCell 8,h.rawFree 0,h.rawFree 1,h.rawFree 2,h.rawFree 3,h.rawFree 4,h.rawFree 5,h.rawFree 6,h.rawFree 7,h.rawFree 8⟩
theorem zAL(e:Int)(h:St W0 w K L):
  Calls Tryz.prog 126 #[.int .i64 e] w fun en w'=>en=.returned (.agg #[.int .i64 0,.int .i64 0,.bool false,.string ⟨#[]⟩,.bool false,.string ⟨#[]⟩,.slice none 0 0,.int .i64 0,.int .i64 e])∧St W0 w' K L:=by
 have h0:=h.allocRaw #[.int .i64 0,.int .i64 0,.bool false,.string ⟨#[]⟩,.bool false,.string ⟨#[]⟩,.slice none 0 0,.int .i64 0,.int .i64 e] 146;obtain⟨ac0,ac1,ac2,ac3,ac4,ac5,ac6,ac7,ac8,af0,af1,af2,af3,af4,af5,af6,af7,af8⟩:=raw9 h0;have H:=hQd h0;clear h h0;go_enter Tryz.func126,Tryz.ntmps126;go_wp2;refine bodyPost_ret (v:=.agg #[.int .i64 0,.int .i64 0,.bool false,.string ⟨#[]⟩,.bool false,.string ⟨#[]⟩,.slice none 0 0,.int .i64 0,.int .i64 e]) (by simp[results,Tryz.results126,go_sem,ac0,ac1,ac2,ac3,ac4,ac5,ac6,ac7,ac8]) rfl ⟨rfl,H.out.drop⟩
theorem zAs{b:Nat}{T:TypeId}{x y z u:Value}(h:St W0 w K (.raw b #[x,y,z,u] T::L)):
 w.cell? ⟨b,0,none⟩=some x∧w.cell? ⟨b,1,none⟩=some y∧w.cell? ⟨b,2,none⟩=some z∧w.cell? ⟨b,3,none⟩=some u:=⟨h.rawCell 0,h.rawCell 1,h.rawCell 2,h.rawCell 3⟩
theorem zq36{p:Prop}(h:p:=by simp[results,Tryz.results97,go_sem,ac0,ac1,ac2,ac3,ac4,ac5,ac6,ac7,ac8]):p:=h
theorem zGn(s:Bs)(e:Int)(hr:zAd s=.error e)(hb:(e !=0)=true)(hs:s.length≤140737488355328)(h:St W0 w K L):
  Calls Tryz.prog 97 #[.string (bb s)] w fun en w'=>en=.returned (.agg #[.int .i64 0,.int .i64 0,.bool false,.string ⟨#[]⟩,.bool false,.string ⟨#[]⟩,.slice none 0 0,.int .i64 0,.int .i64 e])∧St W0 w' K L:=by
 have h0:=h.allocRaw #[.int .i64 0,.int .i64 0,.bool false,.string ⟨#[]⟩,.bool false,.string ⟨#[]⟩,.slice none 0 0,.int .i64 0,.int .i64 0] 146;obtain⟨wA,hwA⟩:∃b,w.heap.size=b:=⟨_,rfl⟩;rw[hwA]at h0;have H:=hQd h0;have HS:=hQd hs;have HG:=hQd (show gotV (zAd s)=.agg #[.bool false,.string (bb []),.int .i64 0,.int .i64 e] by rw[hr];rfl);clear h h0 hs hr;go_enter Tryz.func97,Tryz.ntmps97
 go_wp2_with (first
  |(go_at_call 125;refine(zAh s s _ rfl HS.out HG.out H.out).mono ?_;rintro e wn ⟨rfl,h⟩;obtain⟨wB,hwB⟩:∃b,wn.heap.size=b:=⟨_,rfl⟩;have h:=(h.allocRaw #[.bool false,.string (bb []),.int .i64 0,.int .i64 e] 176).p1;rw[hwB]at h;replace H:=hQd h;clear h;obtain⟨q0,q1,q2,q3⟩:=zAs (b:=wB) (H.out.p1);obtain⟨ac0,ac1,ac2,ac3,ac4,ac5,ac6,ac7,ac8,af0,af1,af2,af3,af4,af5,af6,af7,af8⟩:=raw9 (b:=wA) (H.out))
  |(go_at_call 126;refine(zAL _ H.out).mono ?_;rintro e wn ⟨rfl,h⟩;replace H:=hQd h;clear h;obtain⟨ac0,ac1,ac2,ac3,ac4,ac5,ac6,ac7,ac8,af0,af1,af2,af3,af4,af5,af6,af7,af8⟩:=raw9 (b:=wA) (H.out)))
 refine bodyPost_ret (v:=.agg #[.int .i64 0,.int .i64 0,.bool false,.string ⟨#[]⟩,.bool false,.string ⟨#[]⟩,.slice none 0 0,.int .i64 0,.int .i64 e]) zq36 rfl ⟨rfl,(((((((((H.out.rawSet 0 _).rawSet 1 _).rawSet 2 _).rawSet 3 _).rawSet 4 _).rawSet 5 _).rawSet 6 _).rawSet 7 _).rawSet 8 _).drop.drop⟩
theorem zFs(s:Bs)(d:Bs)(m:Nat)(hr:zAd s=.ok (⟨true,d⟩,m))(hs:s.length≤140737488355328)(h:St W0 w K L):
  Calls Tryz.prog 97 #[.string (bb s)] w fun en w'=>en=.returned (.agg #[.int .i64 0,.int .i64 0,.bool false,.string ⟨#[]⟩,.bool false,.string ⟨#[]⟩,.slice none 0 0,.int .i64 0,.int .i64 4])∧St W0 w' K L:=by
 have h0:=h.allocRaw #[.int .i64 0,.int .i64 0,.bool false,.string ⟨#[]⟩,.bool false,.string ⟨#[]⟩,.slice none 0 0,.int .i64 0,.int .i64 0] 146;obtain⟨wA,hwA⟩:∃b,w.heap.size=b:=⟨_,rfl⟩;rw[hwA]at h0;have H:=hQd h0;have HS:=hQd hs;have HG:=hQd (show gotV (zAd s)=.agg #[.bool true,.string (bb d),.int .i64 m,.int .i64 0] by rw[hr];rfl);clear h h0 hs hr;go_enter Tryz.func97,Tryz.ntmps97
 go_wp2_with (first
  |(go_at_call 125;refine(zAh s s _ rfl HS.out HG.out H.out).mono ?_;rintro e wn ⟨rfl,h⟩;obtain⟨wB,hwB⟩:∃b,wn.heap.size=b:=⟨_,rfl⟩;have h:=(h.allocRaw #[.bool true,.string (bb d),.int .i64 m,.int .i64 0] 176).p1;rw[hwB]at h;replace H:=hQd h;clear h;obtain⟨q0,q1,q2,q3⟩:=zAs (b:=wB) (H.out.p1);obtain⟨ac0,ac1,ac2,ac3,ac4,ac5,ac6,ac7,ac8,af0,af1,af2,af3,af4,af5,af6,af7,af8⟩:=raw9 (b:=wA) (H.out))
  |(go_at_call 126;refine(zAL _ H.out).mono ?_;rintro e wn ⟨rfl,h⟩;replace H:=hQd h;clear h;obtain⟨ac0,ac1,ac2,ac3,ac4,ac5,ac6,ac7,ac8,af0,af1,af2,af3,af4,af5,af6,af7,af8⟩:=raw9 (b:=wA) (H.out)))
 refine bodyPost_ret (v:=.agg #[.int .i64 0,.int .i64 0,.bool false,.string ⟨#[]⟩,.bool false,.string ⟨#[]⟩,.slice none 0 0,.int .i64 0,.int .i64 4]) zq36 rfl ⟨rfl,(((((((((H.out.rawSet 0 _).rawSet 1 _).rawSet 2 _).rawSet 3 _).rawSet 4 _).rawSet 5 _).rawSet 6 _).rawSet 7 _).rawSet 8 _).drop.drop⟩
variable {W0 w:World}{K:Know}{L:List Res}
theorem c_ne{c:UInt8}(hc:c≠0):((c.toNat:Int) !=0)=true:=by
 rw[bne_iff_ne];intro hh;exact hc (UInt8.toNat_inj.1 (by simpa using hh))
theorem zLj(s:Bs)(e:Int)(hv:zAH 1 10 0 0 s=.error e)(hs:s.length≤140737488355328)(h:St W0 w K L):
  Calls Tryz.prog 152 #[.string (bb s),.int .i64 64] w fun en w'=>en=.returned (.tuple #[.int .u64 0,.int .i64 0,.int .i64 e])∧St W0 w' K L:=by
 have:=zEc s 64 10 1 1 hs (by decide) (by decide) (by decide) (by decide) (by decide) h;rw[hv]at this;exact this
theorem zBA(s:Bs)(u k:Nat)(hv:zAH 1 10 0 0 s=.ok (u,k))(hs:s.length≤140737488355328)(h:St W0 w K L):
  Calls Tryz.prog 152 #[.string (bb s),.int .i64 64] w fun en w'=>en=.returned (.tuple #[.int .u64 u,.int .i64 k,.int .i64 0])∧St W0 w' K L:=by
 have:=zEc s 64 10 1 1 hs (by decide) (by decide) (by decide) (by decide) (by decide) h;rw[hv]at this;exact this
theorem zq32{p:Prop}(h:p:=by simp[results,Tryz.results127,go_sem,ac0,ac1,ac2,ac3,ac4,ac5,ac6,ac7,ac8]):p:=h
theorem zEN(h:St W0 w K L):
    Calls Tryz.prog 127 #[.string (bb [])] w fun en w'=>en=.returned (.agg #[.int .i64 0,.int .i64 0,.bool false,.string ⟨#[]⟩,.bool false,.string ⟨#[]⟩,.slice none 0 0,.int .i64 0,.int .i64 1])∧St W0 w' K L:=by
  have h0:=h.allocRaw #[.int .i64 0,.int .i64 0,.bool false,.string ⟨#[]⟩,.bool false,.string ⟨#[]⟩,.slice none 0 0,.int .i64 0,.int .i64 0] 146;obtain⟨wA,hwA⟩:∃b,w.heap.size=b:=⟨_,rfl⟩;rw[hwA]at h0;have H:=hQd h0
  clear h h0;go_enter Tryz.func127,Tryz.ntmps127
  go_wp2_with (first
    |(go_at_call 126;refine(zAL _ H.out).mono ?_;rintro e wn ⟨rfl,h⟩;replace H:=hQd h;clear h;obtain⟨ac0,ac1,ac2,ac3,ac4,ac5,ac6,ac7,ac8,af0,af1,af2,af3,af4,af5,af6,af7,af8⟩:=raw9 (b:=wA) (H.out)))
  refine bodyPost_ret (v:=.agg #[.int .i64 0,.int .i64 0,.bool false,.string ⟨#[]⟩,.bool false,.string ⟨#[]⟩,.slice none 0 0,.int .i64 0,.int .i64 1]) zq32 rfl ⟨rfl,(((((((((H.out.rawSet 0 _).rawSet 1 _).rawSet 2 _).rawSet 3 _).rawSet 4 _).rawSet 5 _).rawSet 6 _).rawSet 7 _).rawSet 8 _).drop⟩
theorem zEP(c:UInt8)(t:Bs)(hc:c≠0)(hl:t.length≤140737488355320)(h:St W0 w K L):
  Calls Tryz.prog 127 #[.string (bb (c::t))] w fun en w'=>en=.returned (.agg #[.int .i64 0,.int .i64 0,.bool false,.string ⟨#[]⟩,.bool false,.string ⟨#[]⟩,.slice none 0 0,.int .i64 0,.int .i64 8])∧St W0 w' K L:=by
 have h0:=h.allocRaw #[.int .i64 0,.int .i64 0,.bool false,.string ⟨#[]⟩,.bool false,.string ⟨#[]⟩,.slice none 0 0,.int .i64 0,.int .i64 0] 146;obtain⟨wA,hwA⟩:∃b,w.heap.size=b:=⟨_,rfl⟩;rw[hwA]at h0;have H:=hQd h0;have h1:decide (((c::t:Bs).length:Int)<1)=false:=decide_eq_false (by simp only[List.length_cons];omega);have hcn:((((c::t:Bs)[0]'(by simp)).toNat:Int) !=0)=true:=c_ne hc;clear h h0;go_enter Tryz.func127,Tryz.ntmps127
 go_wp2_with (first
  |(go_at_call 126;refine(zAL _ H.out).mono ?_;rintro e wn ⟨rfl,h⟩;replace H:=hQd h;clear h;obtain⟨ac0,ac1,ac2,ac3,ac4,ac5,ac6,ac7,ac8,af0,af1,af2,af3,af4,af5,af6,af7,af8⟩:=raw9 (b:=wA) (H.out)))
 refine bodyPost_ret (v:=.agg #[.int .i64 0,.int .i64 0,.bool false,.string ⟨#[]⟩,.bool false,.string ⟨#[]⟩,.slice none 0 0,.int .i64 0,.int .i64 8]) zq32 rfl ⟨rfl,(((((((((H.out.rawSet 0 _).rawSet 1 _).rawSet 2 _).rawSet 3 _).rawSet 4 _).rawSet 5 _).rawSet 6 _).rawSet 7 _).rawSet 8 _).drop⟩
theorem zEM(t:Bs)(e:Int)(hv:zAH 1 10 0 0 t=.error e)(hb:(e !=0)=true)(hs:t.length≤140737488355320)(h:St W0 w K L):
  Calls Tryz.prog 127 #[.string (bb (0::t))] w fun en w'=>en=.returned (.agg #[.int .i64 0,.int .i64 0,.bool false,.string ⟨#[]⟩,.bool false,.string ⟨#[]⟩,.slice none 0 0,.int .i64 0,.int .i64 e])∧St W0 w' K L:=by
 have h0:=h.allocRaw #[.int .i64 0,.int .i64 0,.bool false,.string ⟨#[]⟩,.bool false,.string ⟨#[]⟩,.slice none 0 0,.int .i64 0,.int .i64 0] 146;obtain⟨wA,hwA⟩:∃b,w.heap.size=b:=⟨_,rfl⟩;rw[hwA]at h0;have H:=hQd h0;have h1:decide (((0::t:Bs).length:Int)<1)=false:=decide_eq_false (by simp only[List.length_cons];omega);have hcn:((((0::t:Bs)[0]'(by simp)).toNat:Int) !=0)=false:=rfl;have HV:=hQd hv;have HS:=hQd (show t.length≤140737488355328 by omega);clear hv hs;clear h h0;go_enter Tryz.func127,Tryz.ntmps127
 go_wp2_with (first
  |(go_at_call 152;refine(zLj t e HV.out HS.out H.out).mono ?_;rintro e wn ⟨rfl,h⟩;replace H:=hQd h;clear h)
  |(go_at_call 126;refine(zAL _ H.out).mono ?_;rintro e wn ⟨rfl,h⟩;replace H:=hQd h;clear h;obtain⟨ac0,ac1,ac2,ac3,ac4,ac5,ac6,ac7,ac8,af0,af1,af2,af3,af4,af5,af6,af7,af8⟩:=raw9 (b:=wA) (H.out)))
 refine bodyPost_ret (v:=.agg #[.int .i64 0,.int .i64 0,.bool false,.string ⟨#[]⟩,.bool false,.string ⟨#[]⟩,.slice none 0 0,.int .i64 0,.int .i64 e]) zq32 rfl ⟨rfl,(((((((((H.out.rawSet 0 _).rawSet 1 _).rawSet 2 _).rawSet 3 _).rawSet 4 _).rawSet 5 _).rawSet 6 _).rawSet 7 _).rawSet 8 _).drop⟩
theorem zFz(s:Bs)(l:List HdrS)(m:Nat)(hr:zAE s=.ok (l,m))(hs:s.length≤140737488355328)(h:St W0 w K L):
  Calls Tryz.prog 155 #[.string (bb s)] w fun en w'=>∃v,en=.returned (.tuple #[v,.int .i64 m,.int .i64 0])∧St W0 w' (K.and (Know.flat RHdr v 3 l)) L:=
 (zFA s hs h).mono fun en w' hh=>by unfold zKq at hh;rw[hr]at hh;exact hh
theorem zJI(s:Bs)(e:Int)(hr:zAE s=.error e)(hs:s.length≤140737488355328)(h:St W0 w K L):
  Calls Tryz.prog 155 #[.string (bb s)] w fun en w'=>∃v,en=.returned (.tuple #[v,.int .i64 0,.int .i64 e])∧St W0 w' (K.and (Know.flat RHdr v 3 [])) L:=
 (zFA s hs h).mono fun en w' hh=>by unfold zKq at hh;rw[hr]at hh;exact hh
variable {W0 w:World}{K:Know}{L:List Res}
theorem zFu(s t1:Bs)(u k:Nat)(hl1:0<s.length)(hz:s[0]=0)(q1:s.drop 1=t1)(hv1:zAH 1 10 0 0 t1=.ok (u,k))(hu:u<18446744073709551616)(hs:s.length≤1000000)(s2:Bs)(hk:1+k≤s.length)(q2:s.drop (1+k)=s2)(e:Int)(hv2:zAH 15 5 0 0 s2=.error e)(hb:(e !=0)=true)(h:St W0 w K L):
  Calls Tryz.prog 127 #[.string (bb s)] w fun en w'=>en=.returned (.agg #[.int .i64 0,.int .i64 0,.bool false,.string ⟨#[]⟩,.bool false,.string ⟨#[]⟩,.slice none 0 0,.int .i64 0,.int .i64 e])∧St W0 w' K L:=by
 have h0:=h.allocRaw #[.int .i64 0,.int .i64 0,.bool false,.string ⟨#[]⟩,.bool false,.string ⟨#[]⟩,.slice none 0 0,.int .i64 0,.int .i64 0] 146;obtain⟨wA,hwA⟩:∃b,w.heap.size=b:=⟨_,rfl⟩;rw[hwA]at h0;have H:=hQd h0;have h1:decide ((s.length:Int)<1)=false:=decide_eq_false (by omega);have hcn:((s[0].toNat:Int) !=0)=false:=by rw[hz];rfl
 have hb1:(1:Int)≤(s.length:Int):=by omega
 have HV1:=hQd hv1;have HU:=hQd hu;have hlt1:t1.length+1=s.length:=by rw[←q1,List.length_drop];omega
 have HS1:=hQd (show t1.length≤140737488355328 by omega);have Q1:=hQd (show List.take (s.length - 1) (List.tail s)=t1 by rw[←q1,List.drop_one];exact List.take_of_length_le (by simp));have k1:True:=trivial;have hb2:(1:Int)+k≤(s.length:Int):=by omega
 have hl2:s2.length+k+1=s.length:=by rw[←q2,List.length_drop];omega
 have HS2:=hQd (show s2.length≤140737488355328 by omega);have Q2:=hQd (show List.take (s.length - (1+k)) (List.drop (1+k) s)=s2 by rw[←q2];exact List.take_of_length_le (by simp));have HV2:=hQd hv2;clear hz hv1 hu q1 q2 hv2 h h0;go_enter Tryz.func127,Tryz.ntmps127
 go_wp2_with (first
  |(go_at_call 152;have _t:=k1;clear _t;rw[Q1.out];(with_reducible refine(zBA t1 u k HV1.out HS1.out H.out).mono ?_);rintro e wn ⟨rfl,h⟩;replace H:=hQd h;clear h;clear k1;have k2:True:=trivial)
  |(go_at_call 152;have _t:=k2;clear _t;rw[Q2.out];(with_reducible refine(zKH s2 e HV2.out HS2.out H.out).mono ?_);rintro e wn ⟨rfl,h⟩;replace H:=hQd h;clear h;clear k2;have k3:True:=trivial)
  |(go_at_call 126;refine(zAL _ H.out).mono ?_;rintro e wn ⟨rfl,h⟩;replace H:=hQd h;clear h;(first|(obtain⟨ac0,ac1,ac2,ac3,ac4,ac5,ac6,ac7,ac8,af0,af1,af2,af3,af4,af5,af6,af7,af8⟩:=raw9 (b:=wA) (H.out))|(obtain⟨ac0,ac1,ac2,ac3,ac4,ac5,ac6,ac7,ac8,af0,af1,af2,af3,af4,af5,af6,af7,af8⟩:=raw9 (b:=wA) (H.out.p1))|(obtain⟨ac0,ac1,ac2,ac3,ac4,ac5,ac6,ac7,ac8,af0,af1,af2,af3,af4,af5,af6,af7,af8⟩:=raw9 (b:=wA) (H.out.p2))|(obtain⟨ac0,ac1,ac2,ac3,ac4,ac5,ac6,ac7,ac8,af0,af1,af2,af3,af4,af5,af6,af7,af8⟩:=raw9 (b:=wA) (H.out.p3))|(obtain⟨ac0,ac1,ac2,ac3,ac4,ac5,ac6,ac7,ac8,af0,af1,af2,af3,af4,af5,af6,af7,af8⟩:=raw9 (b:=wA) (H.out.p4)))))
 refine bodyPost_ret (v:=.agg #[.int .i64 0,.int .i64 0,.bool false,.string ⟨#[]⟩,.bool false,.string ⟨#[]⟩,.slice none 0 0,.int .i64 0,.int .i64 e]) zq32 rfl ⟨rfl,((((((((((H.out.rawSet 0 _).rawSet 1 _).rawSet 2 _).rawSet 3 _).rawSet 4 _).rawSet 5 _).rawSet 6 _).rawSet 7 _).rawSet 8 _).drop)⟩
theorem zFv(s t1:Bs)(u k:Nat)(hl1:0<s.length)(hz:s[0]=0)(q1:s.drop 1=t1)(hv1:zAH 1 10 0 0 t1=.ok (u,k))(hu:u<18446744073709551616)(hs:s.length≤1000000)(s2:Bs)(hk:1+k≤s.length)(q2:s.drop (1+k)=s2)(v m:Nat)(bt bo:Int)(hv2:zAH 15 5 0 0 s2=.ok (v,m))(hbt:zAN u=bt)(hbo:zAN v=bo)(hvv:v<18446744073709551616)(ho:bo<0)(h:St W0 w K L):
  Calls Tryz.prog 127 #[.string (bb s)] w fun en w'=>en=.returned (.agg #[.int .i64 0,.int .i64 0,.bool false,.string ⟨#[]⟩,.bool false,.string ⟨#[]⟩,.slice none 0 0,.int .i64 0,.int .i64 11])∧St W0 w' K L:=by
 have h0:=h.allocRaw #[.int .i64 0,.int .i64 0,.bool false,.string ⟨#[]⟩,.bool false,.string ⟨#[]⟩,.slice none 0 0,.int .i64 0,.int .i64 0] 146;obtain⟨wA,hwA⟩:∃b,w.heap.size=b:=⟨_,rfl⟩;rw[hwA]at h0;have H:=hQd h0;have h1:decide ((s.length:Int)<1)=false:=decide_eq_false (by omega);have hcn:((s[0].toNat:Int) !=0)=false:=by rw[hz];rfl
 have hb1:(1:Int)≤(s.length:Int):=by omega
 have HV1:=hQd hv1;have HU:=hQd hu;have hlt1:t1.length+1=s.length:=by rw[←q1,List.length_drop];omega
 have HS1:=hQd (show t1.length≤140737488355328 by omega);have Q1:=hQd (show List.take (s.length - 1) (List.tail s)=t1 by rw[←q1,List.drop_one];exact List.take_of_length_le (by simp));have k1:True:=trivial;have hb2:(1:Int)+k≤(s.length:Int):=by omega
 have hl2:s2.length+k+1=s.length:=by rw[←q2,List.length_drop];omega
 have HS2:=hQd (show s2.length≤140737488355328 by omega);have Q2:=hQd (show List.take (s.length - (1+k)) (List.drop (1+k) s)=s2 by rw[←q2];exact List.take_of_length_le (by simp));have HV2:=hQd hv2;have HBT:=hQd hbt;have HBO:=hQd hbo;have HW:=hQd hvv;clear hz hv1 hu q1 q2 hv2 hbt hbo hvv h h0;go_enter Tryz.func127,Tryz.ntmps127
 go_wp2_with (first
  |(go_at_call 152;have _t:=k1;clear _t;rw[Q1.out];(with_reducible refine(zBA t1 u k HV1.out HS1.out H.out).mono ?_);rintro e wn ⟨rfl,h⟩;replace H:=hQd h;clear h;clear k1;have k2:True:=trivial)
  |(go_at_call 152;have _t:=k2;clear _t;rw[Q2.out];(with_reducible refine(zCa s2 v m HV2.out HS2.out H.out).mono ?_);rintro e wn ⟨rfl,h⟩;replace H:=hQd h;clear h;clear k2;have k3:True:=trivial)
  |(go_at_call 154;have _t:=k3;clear _t;(with_reducible refine(zAT u bt HBT.out HU.out H.out).mono ?_);rintro e wn ⟨rfl,h⟩;replace H:=hQd h;clear h;clear k3;have k4:True:=trivial)
  |(go_at_call 154;have _t:=k4;clear _t;(with_reducible refine(zAT v bo HBO.out HW.out H.out).mono ?_);rintro e wn ⟨rfl,h⟩;obtain⟨wR,hwR⟩:∃b,wn.heap.size=b:=⟨_,rfl⟩;have h:=h.allocRaw #[.int .i64 bt,.int .i64 bo,.bool false,.string ⟨#[]⟩,.bool false,.string ⟨#[]⟩,.slice none 0 0] 54;rw[hwR]at h;replace H:=hQd h;clear h;clear k4;have k5:True:=trivial;obtain⟨rc0,rc1,rc2,rc3,rc4,rc5,rc6,rf0,rf1,rf2,rf3,rf4,rf5,rf6⟩:=raw7 (b:=wR) (H.out))
  |(go_at_call 126;refine(zAL _ H.out).mono ?_;rintro e wn ⟨rfl,h⟩;replace H:=hQd h;clear h;(first|(obtain⟨ac0,ac1,ac2,ac3,ac4,ac5,ac6,ac7,ac8,af0,af1,af2,af3,af4,af5,af6,af7,af8⟩:=raw9 (b:=wA) (H.out))|(obtain⟨ac0,ac1,ac2,ac3,ac4,ac5,ac6,ac7,ac8,af0,af1,af2,af3,af4,af5,af6,af7,af8⟩:=raw9 (b:=wA) (H.out.p1))|(obtain⟨ac0,ac1,ac2,ac3,ac4,ac5,ac6,ac7,ac8,af0,af1,af2,af3,af4,af5,af6,af7,af8⟩:=raw9 (b:=wA) (H.out.p2))|(obtain⟨ac0,ac1,ac2,ac3,ac4,ac5,ac6,ac7,ac8,af0,af1,af2,af3,af4,af5,af6,af7,af8⟩:=raw9 (b:=wA) (H.out.p3))|(obtain⟨ac0,ac1,ac2,ac3,ac4,ac5,ac6,ac7,ac8,af0,af1,af2,af3,af4,af5,af6,af7,af8⟩:=raw9 (b:=wA) (H.out.p4)))))
 refine bodyPost_ret (v:=.agg #[.int .i64 0,.int .i64 0,.bool false,.string ⟨#[]⟩,.bool false,.string ⟨#[]⟩,.slice none 0 0,.int .i64 0,.int .i64 11]) zq32 rfl ⟨rfl,((((((((((H.out.p1.rawSet 0 _).rawSet 1 _).rawSet 2 _).rawSet 3 _).rawSet 4 _).rawSet 5 _).rawSet 6 _).rawSet 7 _).rawSet 8 _).drop.drop)⟩
theorem zFw(s t1:Bs)(u k:Nat)(hl1:0<s.length)(hz:s[0]=0)(q1:s.drop 1=t1)(hv1:zAH 1 10 0 0 t1=.ok (u,k))(hu:u<18446744073709551616)(hs:s.length≤1000000)(s2:Bs)(hk:1+k≤s.length)(q2:s.drop (1+k)=s2)(v m:Nat)(bt bo:Int)(hv2:zAH 15 5 0 0 s2=.ok (v,m))(hbt:zAN u=bt)(hbo:zAN v=bo)(hvv:v<18446744073709551616)(s3:Bs)(hm:m≤s2.length)(q3:s2.drop m=s3)(ho:0≤bo)(e:Int)(hg:zAd s3=.error e)(hb:(e !=0)=true)(h:St W0 w K L):
  Calls Tryz.prog 127 #[.string (bb s)] w fun en w'=>en=.returned (.agg #[.int .i64 0,.int .i64 0,.bool false,.string ⟨#[]⟩,.bool false,.string ⟨#[]⟩,.slice none 0 0,.int .i64 0,.int .i64 e])∧St W0 w' K L:=by
 have h0:=h.allocRaw #[.int .i64 0,.int .i64 0,.bool false,.string ⟨#[]⟩,.bool false,.string ⟨#[]⟩,.slice none 0 0,.int .i64 0,.int .i64 0] 146;obtain⟨wA,hwA⟩:∃b,w.heap.size=b:=⟨_,rfl⟩;rw[hwA]at h0;have H:=hQd h0;have h1:decide ((s.length:Int)<1)=false:=decide_eq_false (by omega);have hcn:((s[0].toNat:Int) !=0)=false:=by rw[hz];rfl
 have hb1:(1:Int)≤(s.length:Int):=by omega
 have HV1:=hQd hv1;have HU:=hQd hu;have hlt1:t1.length+1=s.length:=by rw[←q1,List.length_drop];omega
 have HS1:=hQd (show t1.length≤140737488355328 by omega);have Q1:=hQd (show List.take (s.length - 1) (List.tail s)=t1 by rw[←q1,List.drop_one];exact List.take_of_length_le (by simp));have k1:True:=trivial;have hb2:(1:Int)+k≤(s.length:Int):=by omega
 have hl2:s2.length+k+1=s.length:=by rw[←q2,List.length_drop];omega
 have HS2:=hQd (show s2.length≤140737488355328 by omega);have Q2:=hQd (show List.take (s.length - (1+k)) (List.drop (1+k) s)=s2 by rw[←q2];exact List.take_of_length_le (by simp));have HV2:=hQd hv2;have HBT:=hQd hbt;have HBO:=hQd hbo;have HW:=hQd hvv;have hdo:decide (bo<0)=false:=decide_eq_false (by omega);have hb3:(m:Int)≤(s2.length:Int):=by omega
 have hl3:s3.length+m=s2.length:=by rw[←q3,List.length_drop];omega
 have HS3:=hQd (show s3.length≤140737488355328 by omega);have Q3:=hQd (show List.take (s2.length - m) (List.drop m s2)=s3 by rw[←q3];exact List.take_of_length_le (by simp));have HG1:=hQd (show gotV (zAd s3)=.agg #[.bool false,.string (bb []),.int .i64 0,.int .i64 e] by rw[hg];rfl);clear hz hv1 hu q1 q2 hv2 hbt hbo hvv q3 hg h h0;go_enter Tryz.func127,Tryz.ntmps127
 go_wp2_with (first
  |(go_at_call 152;have _t:=k1;clear _t;rw[Q1.out];(with_reducible refine(zBA t1 u k HV1.out HS1.out H.out).mono ?_);rintro e wn ⟨rfl,h⟩;replace H:=hQd h;clear h;clear k1;have k2:True:=trivial)
  |(go_at_call 152;have _t:=k2;clear _t;rw[Q2.out];(with_reducible refine(zCa s2 v m HV2.out HS2.out H.out).mono ?_);rintro e wn ⟨rfl,h⟩;replace H:=hQd h;clear h;clear k2;have k3:True:=trivial)
  |(go_at_call 154;have _t:=k3;clear _t;(with_reducible refine(zAT u bt HBT.out HU.out H.out).mono ?_);rintro e wn ⟨rfl,h⟩;replace H:=hQd h;clear h;clear k3;have k4:True:=trivial)
  |(go_at_call 154;have _t:=k4;clear _t;(with_reducible refine(zAT v bo HBO.out HW.out H.out).mono ?_);rintro e wn ⟨rfl,h⟩;obtain⟨wR,hwR⟩:∃b,wn.heap.size=b:=⟨_,rfl⟩;have h:=h.allocRaw #[.int .i64 bt,.int .i64 bo,.bool false,.string ⟨#[]⟩,.bool false,.string ⟨#[]⟩,.slice none 0 0] 54;rw[hwR]at h;replace H:=hQd h;clear h;clear k4;have k5:True:=trivial;obtain⟨rc0,rc1,rc2,rc3,rc4,rc5,rc6,rf0,rf1,rf2,rf3,rf4,rf5,rf6⟩:=raw7 (b:=wR) (H.out))
  |(go_at_call 125;have _t:=k5;clear _t;rw[Q3.out];(with_reducible refine(zAh s3 s3 _ rfl HS3.out HG1.out H.out).mono ?_);rintro e wn ⟨rfl,h⟩;obtain⟨wK,hwK⟩:∃b,wn.heap.size=b:=⟨_,rfl⟩;have h:=h.allocRaw #[.bool false,.string (bb []),.int .i64 0,.int .i64 e] 176;rw[hwK]at h;replace H:=hQd h;clear h;clear k5;have k6:True:=trivial;obtain⟨q0,q1,q2,q3⟩:=zAs (b:=wK) (H.out))
  |(go_at_call 126;refine(zAL _ H.out).mono ?_;rintro e wn ⟨rfl,h⟩;replace H:=hQd h;clear h;(first|(obtain⟨ac0,ac1,ac2,ac3,ac4,ac5,ac6,ac7,ac8,af0,af1,af2,af3,af4,af5,af6,af7,af8⟩:=raw9 (b:=wA) (H.out))|(obtain⟨ac0,ac1,ac2,ac3,ac4,ac5,ac6,ac7,ac8,af0,af1,af2,af3,af4,af5,af6,af7,af8⟩:=raw9 (b:=wA) (H.out.p1))|(obtain⟨ac0,ac1,ac2,ac3,ac4,ac5,ac6,ac7,ac8,af0,af1,af2,af3,af4,af5,af6,af7,af8⟩:=raw9 (b:=wA) (H.out.p2))|(obtain⟨ac0,ac1,ac2,ac3,ac4,ac5,ac6,ac7,ac8,af0,af1,af2,af3,af4,af5,af6,af7,af8⟩:=raw9 (b:=wA) (H.out.p3))|(obtain⟨ac0,ac1,ac2,ac3,ac4,ac5,ac6,ac7,ac8,af0,af1,af2,af3,af4,af5,af6,af7,af8⟩:=raw9 (b:=wA) (H.out.p4)))))
 refine bodyPost_ret (v:=.agg #[.int .i64 0,.int .i64 0,.bool false,.string ⟨#[]⟩,.bool false,.string ⟨#[]⟩,.slice none 0 0,.int .i64 0,.int .i64 e]) zq32 rfl ⟨rfl,((((((((((H.out.p2.rawSet 0 _).rawSet 1 _).rawSet 2 _).rawSet 3 _).rawSet 4 _).rawSet 5 _).rawSet 6 _).rawSet 7 _).rawSet 8 _).drop.drop.drop)⟩
theorem zFt(s t1:Bs)(u k:Nat)(hl1:0<s.length)(hz:s[0]=0)(q1:s.drop 1=t1)(hv1:zAH 1 10 0 0 t1=.ok (u,k))(hu:u<18446744073709551616)(hs:s.length≤1000000)(s2:Bs)(hk:1+k≤s.length)(q2:s.drop (1+k)=s2)(v m:Nat)(bt bo:Int)(hv2:zAH 15 5 0 0 s2=.ok (v,m))(hbt:zAN u=bt)(hbo:zAN v=bo)(hvv:v<18446744073709551616)(s3:Bs)(hm:m≤s2.length)(q3:s2.drop m=s3)(ho:0≤bo)(s4:Bs)(kb:BlobS)(ka:Nat)(hka:ka≤s3.length)(q4:s3.drop ka=s4)(hg1:zAd s3=.ok (kb,ka))(e:Int)(hg:zAd s4=.error e)(hb:(e !=0)=true)(h:St W0 w K L):
  Calls Tryz.prog 127 #[.string (bb s)] w fun en w'=>en=.returned (.agg #[.int .i64 0,.int .i64 0,.bool false,.string ⟨#[]⟩,.bool false,.string ⟨#[]⟩,.slice none 0 0,.int .i64 0,.int .i64 e])∧St W0 w' K L:=by
 have h0:=h.allocRaw #[.int .i64 0,.int .i64 0,.bool false,.string ⟨#[]⟩,.bool false,.string ⟨#[]⟩,.slice none 0 0,.int .i64 0,.int .i64 0] 146;obtain⟨wA,hwA⟩:∃b,w.heap.size=b:=⟨_,rfl⟩;rw[hwA]at h0;have H:=hQd h0;have h1:decide ((s.length:Int)<1)=false:=decide_eq_false (by omega);have hcn:((s[0].toNat:Int) !=0)=false:=by rw[hz];rfl
 have hb1:(1:Int)≤(s.length:Int):=by omega
 have HV1:=hQd hv1;have HU:=hQd hu;have hlt1:t1.length+1=s.length:=by rw[←q1,List.length_drop];omega
 have HS1:=hQd (show t1.length≤140737488355328 by omega);have Q1:=hQd (show List.take (s.length - 1) (List.tail s)=t1 by rw[←q1,List.drop_one];exact List.take_of_length_le (by simp));have k1:True:=trivial;have hb2:(1:Int)+k≤(s.length:Int):=by omega
 have hl2:s2.length+k+1=s.length:=by rw[←q2,List.length_drop];omega
 have HS2:=hQd (show s2.length≤140737488355328 by omega);have Q2:=hQd (show List.take (s.length - (1+k)) (List.drop (1+k) s)=s2 by rw[←q2];exact List.take_of_length_le (by simp));have HV2:=hQd hv2;have HBT:=hQd hbt;have HBO:=hQd hbo;have HW:=hQd hvv;have hdo:decide (bo<0)=false:=decide_eq_false (by omega);have hb3:(m:Int)≤(s2.length:Int):=by omega
 have hl3:s3.length+m=s2.length:=by rw[←q3,List.length_drop];omega
 have HS3:=hQd (show s3.length≤140737488355328 by omega);have Q3:=hQd (show List.take (s2.length - m) (List.drop m s2)=s3 by rw[←q3];exact List.take_of_length_le (by simp));have hb4:(ka:Int)≤(s3.length:Int):=by omega
 have hl4:s4.length+ka=s3.length:=by rw[←q4,List.length_drop];omega
 have HS4:=hQd (show s4.length≤140737488355328 by omega);have Q4:=hQd (show List.take (s3.length - ka) (List.drop ka s3)=s4 by rw[←q4];exact List.take_of_length_le (by simp));have HG1:=hQd (show gotV (zAd s3)=.agg #[.bool kb.null,.string (bb kb.data),.int .i64 ka,.int .i64 0] by rw[hg1];rfl);have HG2:=hQd (show gotV (zAd s4)=.agg #[.bool false,.string (bb []),.int .i64 0,.int .i64 e] by rw[hg];rfl);clear hz hv1 hu q1 q2 hv2 hbt hbo hvv q3 q4 hg1 hg h h0;go_enter Tryz.func127,Tryz.ntmps127
 go_wp2_with (first
  |(go_at_call 152;have _t:=k1;clear _t;rw[Q1.out];(with_reducible refine(zBA t1 u k HV1.out HS1.out H.out).mono ?_);rintro e wn ⟨rfl,h⟩;replace H:=hQd h;clear h;clear k1;have k2:True:=trivial)
  |(go_at_call 152;have _t:=k2;clear _t;rw[Q2.out];(with_reducible refine(zCa s2 v m HV2.out HS2.out H.out).mono ?_);rintro e wn ⟨rfl,h⟩;replace H:=hQd h;clear h;clear k2;have k3:True:=trivial)
  |(go_at_call 154;have _t:=k3;clear _t;(with_reducible refine(zAT u bt HBT.out HU.out H.out).mono ?_);rintro e wn ⟨rfl,h⟩;replace H:=hQd h;clear h;clear k3;have k4:True:=trivial)
  |(go_at_call 154;have _t:=k4;clear _t;(with_reducible refine(zAT v bo HBO.out HW.out H.out).mono ?_);rintro e wn ⟨rfl,h⟩;obtain⟨wR,hwR⟩:∃b,wn.heap.size=b:=⟨_,rfl⟩;have h:=h.allocRaw #[.int .i64 bt,.int .i64 bo,.bool false,.string ⟨#[]⟩,.bool false,.string ⟨#[]⟩,.slice none 0 0] 54;rw[hwR]at h;replace H:=hQd h;clear h;clear k4;have k5:True:=trivial;obtain⟨rc0,rc1,rc2,rc3,rc4,rc5,rc6,rf0,rf1,rf2,rf3,rf4,rf5,rf6⟩:=raw7 (b:=wR) (H.out))
  |(go_at_call 125;have _t:=k5;clear _t;rw[Q3.out];(with_reducible refine(zAh s3 s3 _ rfl HS3.out HG1.out H.out).mono ?_);rintro e wn ⟨rfl,h⟩;obtain⟨wK,hwK⟩:∃b,wn.heap.size=b:=⟨_,rfl⟩;have h:=h.allocRaw #[.bool kb.null,.string (bb kb.data),.int .i64 ka,.int .i64 0] 176;rw[hwK]at h;replace H:=hQd h;clear h;clear k5;have k6:True:=trivial;obtain⟨q0,q1,q2,q3⟩:=zAs (b:=wK) (H.out))
  |(go_at_call 125;have _t:=k6;clear _t;rw[Q4.out];(with_reducible refine(zAh s4 s4 _ rfl HS4.out HG2.out H.out).mono ?_);rintro e wn ⟨rfl,h⟩;obtain⟨wV,hwV⟩:∃b,wn.heap.size=b:=⟨_,rfl⟩;have h:=h.allocRaw #[.bool false,.string (bb []),.int .i64 0,.int .i64 e] 176;rw[hwV]at h;replace H:=hQd h;clear h;clear k6;have k7:True:=trivial;obtain⟨p0,p1,p2,p3⟩:=zAs (b:=wV) (H.out);obtain⟨q0,q1,q2,q3⟩:=zAs (b:=wK) (H.out.p1))
  |(go_at_call 126;refine(zAL _ H.out).mono ?_;rintro e wn ⟨rfl,h⟩;replace H:=hQd h;clear h;(first|(obtain⟨ac0,ac1,ac2,ac3,ac4,ac5,ac6,ac7,ac8,af0,af1,af2,af3,af4,af5,af6,af7,af8⟩:=raw9 (b:=wA) (H.out))|(obtain⟨ac0,ac1,ac2,ac3,ac4,ac5,ac6,ac7,ac8,af0,af1,af2,af3,af4,af5,af6,af7,af8⟩:=raw9 (b:=wA) (H.out.p1))|(obtain⟨ac0,ac1,ac2,ac3,ac4,ac5,ac6,ac7,ac8,af0,af1,af2,af3,af4,af5,af6,af7,af8⟩:=raw9 (b:=wA) (H.out.p2))|(obtain⟨ac0,ac1,ac2,ac3,ac4,ac5,ac6,ac7,ac8,af0,af1,af2,af3,af4,af5,af6,af7,af8⟩:=raw9 (b:=wA) (H.out.p3))|(obtain⟨ac0,ac1,ac2,ac3,ac4,ac5,ac6,ac7,ac8,af0,af1,af2,af3,af4,af5,af6,af7,af8⟩:=raw9 (b:=wA) (H.out.p4)))))
 refine bodyPost_ret (v:=.agg #[.int .i64 0,.int .i64 0,.bool false,.string ⟨#[]⟩,.bool false,.string ⟨#[]⟩,.slice none 0 0,.int .i64 0,.int .i64 e]) zq32 rfl ⟨rfl,((((((((((H.out.p3.rawSet 0 _).rawSet 1 _).rawSet 2 _).rawSet 3 _).rawSet 4 _).rawSet 5 _).rawSet 6 _).rawSet 7 _).rawSet 8 _).drop.drop.drop.drop)⟩
variable {W0 w:World}{K:Know}{L:List Res}
theorem zFx(s t1:Bs)(u k:Nat)(hl1:0<s.length)(hz:s[0]=0)(q1:s.drop 1=t1)(hv1:zAH 1 10 0 0 t1=.ok (u,k))(hu:u<18446744073709551616)(hs:s.length≤1000000)(s2:Bs)(hk:1+k≤s.length)(q2:s.drop (1+k)=s2)(v m:Nat)(bt bo:Int)(hv2:zAH 15 5 0 0 s2=.ok (v,m))(hbt:zAN u=bt)(hbo:zAN v=bo)(hvv:v<18446744073709551616)(s3:Bs)(hm:m≤s2.length)(q3:s2.drop m=s3)(ho:0≤bo)(s4:Bs)(kb:BlobS)(ka:Nat)(hka:ka≤s3.length)(q4:s3.drop ka=s4)(hg1:zAd s3=.ok (kb,ka))(s5:Bs)(vb:BlobS)(va:Nat)(hva:va≤s4.length)(q5:s4.drop va=s5)(hg2:zAd s4=.ok (vb,va))(e:Int)(hh:zAE s5=.error e)(hb:(e !=0)=true)(h:St W0 w K L):
  Calls Tryz.prog 127 #[.string (bb s)] w fun en w'=>en=.returned (.agg #[.int .i64 0,.int .i64 0,.bool false,.string ⟨#[]⟩,.bool false,.string ⟨#[]⟩,.slice none 0 0,.int .i64 0,.int .i64 e])∧St W0 w' K L:=by
 have h0:=h.allocRaw #[.int .i64 0,.int .i64 0,.bool false,.string ⟨#[]⟩,.bool false,.string ⟨#[]⟩,.slice none 0 0,.int .i64 0,.int .i64 0] 146;obtain⟨wA,hwA⟩:∃b,w.heap.size=b:=⟨_,rfl⟩;rw[hwA]at h0;have H:=hQd h0;have h1:decide ((s.length:Int)<1)=false:=decide_eq_false (by omega);have hcn:((s[0].toNat:Int) !=0)=false:=by rw[hz];rfl
 have hb1:(1:Int)≤(s.length:Int):=by omega
 have HV1:=hQd hv1;have HU:=hQd hu;have hlt1:t1.length+1=s.length:=by rw[←q1,List.length_drop];omega
 have HS1:=hQd (show t1.length≤140737488355328 by omega);have Q1:=hQd (show List.take (s.length - 1) (List.tail s)=t1 by rw[←q1,List.drop_one];exact List.take_of_length_le (by simp));have k1:True:=trivial;have hb2:(1:Int)+k≤(s.length:Int):=by omega
 have hl2:s2.length+k+1=s.length:=by rw[←q2,List.length_drop];omega
 have HS2:=hQd (show s2.length≤140737488355328 by omega);have Q2:=hQd (show List.take (s.length - (1+k)) (List.drop (1+k) s)=s2 by rw[←q2];exact List.take_of_length_le (by simp));have HV2:=hQd hv2;have HBT:=hQd hbt;have HBO:=hQd hbo;have HW:=hQd hvv;have hdo:decide (bo<0)=false:=decide_eq_false (by omega);have hb3:(m:Int)≤(s2.length:Int):=by omega
 have hl3:s3.length+m=s2.length:=by rw[←q3,List.length_drop];omega
 have HS3:=hQd (show s3.length≤140737488355328 by omega);have Q3:=hQd (show List.take (s2.length - m) (List.drop m s2)=s3 by rw[←q3];exact List.take_of_length_le (by simp));have hb4:(ka:Int)≤(s3.length:Int):=by omega
 have hl4:s4.length+ka=s3.length:=by rw[←q4,List.length_drop];omega
 have HS4:=hQd (show s4.length≤140737488355328 by omega);have Q4:=hQd (show List.take (s3.length - ka) (List.drop ka s3)=s4 by rw[←q4];exact List.take_of_length_le (by simp));have HG1:=hQd (show gotV (zAd s3)=.agg #[.bool kb.null,.string (bb kb.data),.int .i64 ka,.int .i64 0] by rw[hg1];rfl);have hb5:(va:Int)≤(s4.length:Int):=by omega
 have hl5:s5.length+va=s4.length:=by rw[←q5,List.length_drop];omega
 have HS5:=hQd (show s5.length≤140737488355328 by omega);have Q5:=hQd (show List.take (s4.length - va) (List.drop va s4)=s5 by rw[←q5];exact List.take_of_length_le (by simp));have HG2:=hQd (show gotV (zAd s4)=.agg #[.bool vb.null,.string (bb vb.data),.int .i64 va,.int .i64 0] by rw[hg2];rfl);have HH:=hQd hh;clear hz hv1 hu q1 q2 hv2 hbt hbo hvv q3 q4 hg1 q5 hg2 hh h h0;go_enter Tryz.func127,Tryz.ntmps127
 go_wp2_with (first
  |(go_at_call 152;have _t:=k1;clear _t;rw[Q1.out];(with_reducible refine(zBA t1 u k HV1.out HS1.out H.out).mono ?_);rintro e wn ⟨rfl,h⟩;replace H:=hQd h;clear h;clear k1;have k2:True:=trivial)
  |(go_at_call 152;have _t:=k2;clear _t;rw[Q2.out];(with_reducible refine(zCa s2 v m HV2.out HS2.out H.out).mono ?_);rintro e wn ⟨rfl,h⟩;replace H:=hQd h;clear h;clear k2;have k3:True:=trivial)
  |(go_at_call 154;have _t:=k3;clear _t;(with_reducible refine(zAT u bt HBT.out HU.out H.out).mono ?_);rintro e wn ⟨rfl,h⟩;replace H:=hQd h;clear h;clear k3;have k4:True:=trivial)
  |(go_at_call 154;have _t:=k4;clear _t;(with_reducible refine(zAT v bo HBO.out HW.out H.out).mono ?_);rintro e wn ⟨rfl,h⟩;obtain⟨wR,hwR⟩:∃b,wn.heap.size=b:=⟨_,rfl⟩;have h:=h.allocRaw #[.int .i64 bt,.int .i64 bo,.bool false,.string ⟨#[]⟩,.bool false,.string ⟨#[]⟩,.slice none 0 0] 54;rw[hwR]at h;replace H:=hQd h;clear h;clear k4;have k5:True:=trivial;obtain⟨rc0,rc1,rc2,rc3,rc4,rc5,rc6,rf0,rf1,rf2,rf3,rf4,rf5,rf6⟩:=raw7 (b:=wR) (H.out))
  |(go_at_call 125;have _t:=k5;clear _t;rw[Q3.out];(with_reducible refine(zAh s3 s3 _ rfl HS3.out HG1.out H.out).mono ?_);rintro e wn ⟨rfl,h⟩;obtain⟨wK,hwK⟩:∃b,wn.heap.size=b:=⟨_,rfl⟩;have h:=h.allocRaw #[.bool kb.null,.string (bb kb.data),.int .i64 ka,.int .i64 0] 176;rw[hwK]at h;replace H:=hQd h;clear h;clear k5;have k6:True:=trivial;obtain⟨q0,q1,q2,q3⟩:=zAs (b:=wK) (H.out))
  |(go_at_call 125;have _t:=k6;clear _t;rw[Q4.out];(with_reducible refine(zAh s4 s4 _ rfl HS4.out HG2.out H.out).mono ?_);rintro e wn ⟨rfl,h⟩;obtain⟨wV,hwV⟩:∃b,wn.heap.size=b:=⟨_,rfl⟩;have h:=h.allocRaw #[.bool vb.null,.string (bb vb.data),.int .i64 va,.int .i64 0] 176;rw[hwV]at h;replace H:=hQd h;clear h;clear k6;have k7:True:=trivial;obtain⟨p0,p1,p2,p3⟩:=zAs (b:=wV) (H.out);obtain⟨q0,q1,q2,q3⟩:=zAs (b:=wK) (H.out.p1))
  |(go_at_call 155;have _t:=k7;clear _t;rw[Q5.out];refine(zJI s5 e HH.out HS5.out H.out).mono ?_;rintro e wn ⟨vh,rfl,h⟩;obtain⟨qh,caph,hvh⟩:=zAu (Know.has_right (Know.has_refl _)) h;subst hvh;replace H:=hQd h;clear h;clear k7;have k8:True:=trivial;(first|(obtain⟨ac0,ac1,ac2,ac3,ac4,ac5,ac6,ac7,ac8,af0,af1,af2,af3,af4,af5,af6,af7,af8⟩:=raw9 (b:=wA) (H.out))|(obtain⟨ac0,ac1,ac2,ac3,ac4,ac5,ac6,ac7,ac8,af0,af1,af2,af3,af4,af5,af6,af7,af8⟩:=raw9 (b:=wA) (H.out.p1))|(obtain⟨ac0,ac1,ac2,ac3,ac4,ac5,ac6,ac7,ac8,af0,af1,af2,af3,af4,af5,af6,af7,af8⟩:=raw9 (b:=wA) (H.out.p2))|(obtain⟨ac0,ac1,ac2,ac3,ac4,ac5,ac6,ac7,ac8,af0,af1,af2,af3,af4,af5,af6,af7,af8⟩:=raw9 (b:=wA) (H.out.p3))|(obtain⟨ac0,ac1,ac2,ac3,ac4,ac5,ac6,ac7,ac8,af0,af1,af2,af3,af4,af5,af6,af7,af8⟩:=raw9 (b:=wA) (H.out.p4)));obtain⟨rc0,rc1,rc2,rc3,rc4,rc5,rc6,rf0,rf1,rf2,rf3,rf4,rf5,rf6⟩:=raw7 (b:=wR) (H.out.p2);obtain⟨p0,p1,p2,p3⟩:=zAs (b:=wV) (H.out);obtain⟨q0,q1,q2,q3⟩:=zAs (b:=wK) (H.out.p1))
  |(go_at_call 126;refine(zAL _ H.out).mono ?_;rintro e wn ⟨rfl,h⟩;replace H:=hQd h;clear h;(first|(obtain⟨ac0,ac1,ac2,ac3,ac4,ac5,ac6,ac7,ac8,af0,af1,af2,af3,af4,af5,af6,af7,af8⟩:=raw9 (b:=wA) (H.out))|(obtain⟨ac0,ac1,ac2,ac3,ac4,ac5,ac6,ac7,ac8,af0,af1,af2,af3,af4,af5,af6,af7,af8⟩:=raw9 (b:=wA) (H.out.p1))|(obtain⟨ac0,ac1,ac2,ac3,ac4,ac5,ac6,ac7,ac8,af0,af1,af2,af3,af4,af5,af6,af7,af8⟩:=raw9 (b:=wA) (H.out.p2))|(obtain⟨ac0,ac1,ac2,ac3,ac4,ac5,ac6,ac7,ac8,af0,af1,af2,af3,af4,af5,af6,af7,af8⟩:=raw9 (b:=wA) (H.out.p3))|(obtain⟨ac0,ac1,ac2,ac3,ac4,ac5,ac6,ac7,ac8,af0,af1,af2,af3,af4,af5,af6,af7,af8⟩:=raw9 (b:=wA) (H.out.p4)))))
 refine bodyPost_ret (v:=.agg #[.int .i64 0,.int .i64 0,.bool false,.string ⟨#[]⟩,.bool false,.string ⟨#[]⟩,.slice none 0 0,.int .i64 0,.int .i64 e]) zq32 rfl ⟨rfl,((((((((((H.out.p3.rawSet 0 _).rawSet 1 _).rawSet 2 _).rawSet 3 _).rawSet 4 _).rawSet 5 _).rawSet 6 _).rawSet 7 _).rawSet 8 _).drop.drop.drop.drop).know (Know.has_left (Know.has_refl _))⟩
theorem zEO(s t1:Bs)(u k:Nat)(hl1:0<s.length)(hz:s[0]=0)(q1:s.drop 1=t1)(hv1:zAH 1 10 0 0 t1=.ok (u,k))(hu:u<18446744073709551616)(hs:s.length≤1000000)(s2:Bs)(hk:1+k≤s.length)(q2:s.drop (1+k)=s2)(v m:Nat)(bt bo:Int)(hv2:zAH 15 5 0 0 s2=.ok (v,m))(hbt:zAN u=bt)(hbo:zAN v=bo)(hvv:v<18446744073709551616)(s3:Bs)(hm:m≤s2.length)(q3:s2.drop m=s3)(ho:0≤bo)(s4:Bs)(kb:BlobS)(ka:Nat)(hka:ka≤s3.length)(q4:s3.drop ka=s4)(hg1:zAd s3=.ok (kb,ka))(s5:Bs)(vb:BlobS)(va:Nat)(hva:va≤s4.length)(q5:s4.drop va=s5)(hg2:zAd s4=.ok (vb,va))(l:List HdrS)(ha:Nat)(hh:zAE s5=.ok (l,ha))(hne:ha≠s5.length)(hla:ha≤s5.length)(h:St W0 w K L):
  Calls Tryz.prog 127 #[.string (bb s)] w fun en w'=>en=.returned (.agg #[.int .i64 0,.int .i64 0,.bool false,.string ⟨#[]⟩,.bool false,.string ⟨#[]⟩,.slice none 0 0,.int .i64 0,.int .i64 2])∧St W0 w' K L:=by
 have h0:=h.allocRaw #[.int .i64 0,.int .i64 0,.bool false,.string ⟨#[]⟩,.bool false,.string ⟨#[]⟩,.slice none 0 0,.int .i64 0,.int .i64 0] 146;obtain⟨wA,hwA⟩:∃b,w.heap.size=b:=⟨_,rfl⟩;rw[hwA]at h0;have H:=hQd h0;have h1:decide ((s.length:Int)<1)=false:=decide_eq_false (by omega);have hcn:((s[0].toNat:Int) !=0)=false:=by rw[hz];rfl
 have hb1:(1:Int)≤(s.length:Int):=by omega
 have HV1:=hQd hv1;have HU:=hQd hu;have hlt1:t1.length+1=s.length:=by rw[←q1,List.length_drop];omega
 have HS1:=hQd (show t1.length≤140737488355328 by omega);have Q1:=hQd (show List.take (s.length - 1) (List.tail s)=t1 by rw[←q1,List.drop_one];exact List.take_of_length_le (by simp));have k1:True:=trivial;have hb2:(1:Int)+k≤(s.length:Int):=by omega
 have hl2:s2.length+k+1=s.length:=by rw[←q2,List.length_drop];omega
 have HS2:=hQd (show s2.length≤140737488355328 by omega);have Q2:=hQd (show List.take (s.length - (1+k)) (List.drop (1+k) s)=s2 by rw[←q2];exact List.take_of_length_le (by simp));have HV2:=hQd hv2;have HBT:=hQd hbt;have HBO:=hQd hbo;have HW:=hQd hvv;have hdo:decide (bo<0)=false:=decide_eq_false (by omega);have hb3:(m:Int)≤(s2.length:Int):=by omega
 have hl3:s3.length+m=s2.length:=by rw[←q3,List.length_drop];omega
 have HS3:=hQd (show s3.length≤140737488355328 by omega);have Q3:=hQd (show List.take (s2.length - m) (List.drop m s2)=s3 by rw[←q3];exact List.take_of_length_le (by simp));have hb4:(ka:Int)≤(s3.length:Int):=by omega
 have hl4:s4.length+ka=s3.length:=by rw[←q4,List.length_drop];omega
 have HS4:=hQd (show s4.length≤140737488355328 by omega);have Q4:=hQd (show List.take (s3.length - ka) (List.drop ka s3)=s4 by rw[←q4];exact List.take_of_length_le (by simp));have HG1:=hQd (show gotV (zAd s3)=.agg #[.bool kb.null,.string (bb kb.data),.int .i64 ka,.int .i64 0] by rw[hg1];rfl);have hb5:(va:Int)≤(s4.length:Int):=by omega
 have hl5:s5.length+va=s4.length:=by rw[←q5,List.length_drop];omega
 have HS5:=hQd (show s5.length≤140737488355328 by omega);have Q5:=hQd (show List.take (s4.length - va) (List.drop va s4)=s5 by rw[←q5];exact List.take_of_length_le (by simp));have HG2:=hQd (show gotV (zAd s4)=.agg #[.bool vb.null,.string (bb vb.data),.int .i64 va,.int .i64 0] by rw[hg2];rfl);have HH:=hQd hh;have hnb:((ha:Int) !=(s5.length:Int))=true:=bne_iff_ne.2 (by omega);clear hz hv1 hu q1 q2 hv2 hbt hbo hvv q3 q4 hg1 q5 hg2 hh hne h h0;go_enter Tryz.func127,Tryz.ntmps127
 go_wp2_with (first
  |(go_at_call 152;have _t:=k1;clear _t;rw[Q1.out];(with_reducible refine(zBA t1 u k HV1.out HS1.out H.out).mono ?_);rintro e wn ⟨rfl,h⟩;replace H:=hQd h;clear h;clear k1;have k2:True:=trivial)
  |(go_at_call 152;have _t:=k2;clear _t;rw[Q2.out];(with_reducible refine(zCa s2 v m HV2.out HS2.out H.out).mono ?_);rintro e wn ⟨rfl,h⟩;replace H:=hQd h;clear h;clear k2;have k3:True:=trivial)
  |(go_at_call 154;have _t:=k3;clear _t;(with_reducible refine(zAT u bt HBT.out HU.out H.out).mono ?_);rintro e wn ⟨rfl,h⟩;replace H:=hQd h;clear h;clear k3;have k4:True:=trivial)
  |(go_at_call 154;have _t:=k4;clear _t;(with_reducible refine(zAT v bo HBO.out HW.out H.out).mono ?_);rintro e wn ⟨rfl,h⟩;obtain⟨wR,hwR⟩:∃b,wn.heap.size=b:=⟨_,rfl⟩;have h:=h.allocRaw #[.int .i64 bt,.int .i64 bo,.bool false,.string ⟨#[]⟩,.bool false,.string ⟨#[]⟩,.slice none 0 0] 54;rw[hwR]at h;replace H:=hQd h;clear h;clear k4;have k5:True:=trivial;obtain⟨rc0,rc1,rc2,rc3,rc4,rc5,rc6,rf0,rf1,rf2,rf3,rf4,rf5,rf6⟩:=raw7 (b:=wR) (H.out))
  |(go_at_call 125;have _t:=k5;clear _t;rw[Q3.out];(with_reducible refine(zAh s3 s3 _ rfl HS3.out HG1.out H.out).mono ?_);rintro e wn ⟨rfl,h⟩;obtain⟨wK,hwK⟩:∃b,wn.heap.size=b:=⟨_,rfl⟩;have h:=h.allocRaw #[.bool kb.null,.string (bb kb.data),.int .i64 ka,.int .i64 0] 176;rw[hwK]at h;replace H:=hQd h;clear h;clear k5;have k6:True:=trivial;obtain⟨q0,q1,q2,q3⟩:=zAs (b:=wK) (H.out))
  |(go_at_call 125;have _t:=k6;clear _t;rw[Q4.out];(with_reducible refine(zAh s4 s4 _ rfl HS4.out HG2.out H.out).mono ?_);rintro e wn ⟨rfl,h⟩;obtain⟨wV,hwV⟩:∃b,wn.heap.size=b:=⟨_,rfl⟩;have h:=h.allocRaw #[.bool vb.null,.string (bb vb.data),.int .i64 va,.int .i64 0] 176;rw[hwV]at h;replace H:=hQd h;clear h;clear k6;have k7:True:=trivial;obtain⟨p0,p1,p2,p3⟩:=zAs (b:=wV) (H.out);obtain⟨q0,q1,q2,q3⟩:=zAs (b:=wK) (H.out.p1))
  |(go_at_call 155;have _t:=k7;clear _t;rw[Q5.out];refine(zFz s5 l ha HH.out HS5.out H.out).mono ?_;rintro e wn ⟨vh,rfl,h⟩;obtain⟨qh,caph,hvh⟩:=zAu (Know.has_right (Know.has_refl _)) h;subst hvh;replace H:=hQd h;clear h;clear k7;have k8:True:=trivial;(first|(obtain⟨ac0,ac1,ac2,ac3,ac4,ac5,ac6,ac7,ac8,af0,af1,af2,af3,af4,af5,af6,af7,af8⟩:=raw9 (b:=wA) (H.out))|(obtain⟨ac0,ac1,ac2,ac3,ac4,ac5,ac6,ac7,ac8,af0,af1,af2,af3,af4,af5,af6,af7,af8⟩:=raw9 (b:=wA) (H.out.p1))|(obtain⟨ac0,ac1,ac2,ac3,ac4,ac5,ac6,ac7,ac8,af0,af1,af2,af3,af4,af5,af6,af7,af8⟩:=raw9 (b:=wA) (H.out.p2))|(obtain⟨ac0,ac1,ac2,ac3,ac4,ac5,ac6,ac7,ac8,af0,af1,af2,af3,af4,af5,af6,af7,af8⟩:=raw9 (b:=wA) (H.out.p3))|(obtain⟨ac0,ac1,ac2,ac3,ac4,ac5,ac6,ac7,ac8,af0,af1,af2,af3,af4,af5,af6,af7,af8⟩:=raw9 (b:=wA) (H.out.p4)));obtain⟨rc0,rc1,rc2,rc3,rc4,rc5,rc6,rf0,rf1,rf2,rf3,rf4,rf5,rf6⟩:=raw7 (b:=wR) (H.out.p2);obtain⟨p0,p1,p2,p3⟩:=zAs (b:=wV) (H.out);obtain⟨q0,q1,q2,q3⟩:=zAs (b:=wK) (H.out.p1))
  |(go_at_call 126;refine(zAL _ H.out).mono ?_;rintro e wn ⟨rfl,h⟩;replace H:=hQd h;clear h;(first|(obtain⟨ac0,ac1,ac2,ac3,ac4,ac5,ac6,ac7,ac8,af0,af1,af2,af3,af4,af5,af6,af7,af8⟩:=raw9 (b:=wA) (H.out))|(obtain⟨ac0,ac1,ac2,ac3,ac4,ac5,ac6,ac7,ac8,af0,af1,af2,af3,af4,af5,af6,af7,af8⟩:=raw9 (b:=wA) (H.out.p1))|(obtain⟨ac0,ac1,ac2,ac3,ac4,ac5,ac6,ac7,ac8,af0,af1,af2,af3,af4,af5,af6,af7,af8⟩:=raw9 (b:=wA) (H.out.p2))|(obtain⟨ac0,ac1,ac2,ac3,ac4,ac5,ac6,ac7,ac8,af0,af1,af2,af3,af4,af5,af6,af7,af8⟩:=raw9 (b:=wA) (H.out.p3))|(obtain⟨ac0,ac1,ac2,ac3,ac4,ac5,ac6,ac7,ac8,af0,af1,af2,af3,af4,af5,af6,af7,af8⟩:=raw9 (b:=wA) (H.out.p4)))))
 refine bodyPost_ret (v:=.agg #[.int .i64 0,.int .i64 0,.bool false,.string ⟨#[]⟩,.bool false,.string ⟨#[]⟩,.slice none 0 0,.int .i64 0,.int .i64 2]) zq32 rfl ⟨rfl,((((((((((H.out.p3.rawSet 0 _).rawSet 1 _).rawSet 2 _).rawSet 3 _).rawSet 4 _).rawSet 5 _).rawSet 6 _).rawSet 7 _).rawSet 8 _).drop.drop.drop.drop).know (Know.has_left (Know.has_refl _))⟩
end Go.Proofs.YtenojajfacacoaaGreatDoor
