/- A text. -/
import Derived.Test.YtenojajfacacoaaGreatDoorGReportRawsCard8
import Derived.Test.YtenojajfacacoaaGreatDoorGReportRawsCard2
import Derived.Deep.OwnRows
import Derived.Test.YtenojajfacacoaaGreatDoorGReportRawsCard6
import Derived.Deep.RegionHeld3
import Derived.Deep.DeepCutAuto
import Derived.IntWalk
import Derived.Test.YtenojajfacacoaaGreatDoorGReportRawsCard4
/- A text. -/
namespace Go.Proofs.YtenojajfacacoaaGreatDoor
open Go.RowKit
set_option maxHeartbeats 1000000
set_option maxRecDepth 100000
variable {W0 w:World}{K:Know}{L:List Res}
theorem zJJ(n:Nat)(hn:n<32)(h:St W0 w K L):
  Calls Tryz.prog 65 #[.int .i64 n] w fun en w'=>en=.returned (.int .i64 (bitN (pw n)))∧St W0 w' K L:=by
 have H:=hQd h;clear h;go_enter Tryz.func65,Tryz.ntmps65;go_wp2;have hal:=H.out.allocRaw pwC 3;obtain⟨bP,hbP⟩:∃b,w.heap.size=b:=⟨_,rfl⟩;rw[hbP]at hal;clear H;have H:=hQd hal;clear hal;go_loopw [2,4] (fun s2 iv wr=>∃k:Nat,k≤17∧s2=.int .i64 0∧iv=.int .i64 k∧(∀j,j<k→pwL.getD j 0≠n)∧St W0 wr K (.raw bP pwC 3::L)) (fun _ iv _=>17 - (intOf iv).toNat)
 case atStart=>exact⟨0,by omega,rfl,rfl,(fun j h=>absurd h (by omega)),H.out⟩
 case round=>
  obtain⟨k,hk,rfl,rfl,hno,hst⟩:=hrel;clear H;have H:=hQd hst;have HNO:=hQd hno;clear hst hno
  by_cases hlt:k<17
  · have c0:=H.out.rawCell k;rw[zPC k hlt]at c0;obtain⟨m,hm⟩:∃m,pwL.getD k 0=m:=⟨_,rfl⟩;rw[hm]at c0;have hki:(k:Int)<17:=by omega
    by_cases he:m=n
    · subst he;have HY:=hQd (show pw m=true by rw[←hm];exact pw_yes k hlt);clear hm;go_wp2;go_ret;exact⟨by rw[HY.out];rfl,H.out.drop⟩
    · have he2:((m:Int)==(n:Int))=false:=by rw[beq_eq_false_iff_ne];omega
      have HN2:=hQd (show ∀j,j<k+1→pwL.getD j 0≠n by
       intro j hj
       by_cases hjk:j=k
       · subst hjk;rw[hm];exact he
       · exact HNO.out j (by omega))
      clear hm;go_wp2;go_roundw
      case rel=>exact⟨k+1,hlt,rfl,by go_num,HN2.out,H.out⟩
      case measure=>first|(simp[intOf];done)|(simp[intOf];omega)
  · have hkl:k=17:=by omega
    subst hkl;go_wp2;go_ret;exact⟨by rw[pw_no n HNO.out];rfl,H.out.drop⟩
theorem zMx(s:Bs)(i:Nat)(hi:i<8*s.length)(hs:s.length≤1000000)(h:St W0 w K L):
  Calls Tryz.prog 64 #[.string (bb s),.int .i64 i] w fun en w'=>en=.returned (.int .i64 (bitN ((zBh s).getD i false)))∧St W0 w' K L:=by
 have H:=hQd h;clear h;obtain⟨q,hq⟩:∃q,i / 8=q:=⟨_,rfl⟩;obtain⟨r,hr⟩:∃r,i % 8=r:=⟨_,rfl⟩;have t1:(i:Int).tdiv 8=(q:Int):=by rw[←hq];rfl
 have t2:(i:Int).tmod 8=(r:Int):=by rw[←hr];rfl
 have hqs:q<s.length:=by omega
 have hr8:r<8:=by omega
 have HB:=hQd (show(s[q].toNat / 2 ^ r) % 2=bitN ((zBh s).getD i false) by have:=zP8 s i hi (by omega);simp only[hq,hr]at this;exact this);clear hq hr;go_enter Tryz.func64,Tryz.ntmps64;go_wp2;go_loopw [5,6] (fun c iv wr=>∃k:Nat,k≤r∧c=.int .i64 ((s[q].toNat / 2 ^ k:Nat):Int)∧iv=.int .i64 k∧St W0 wr K L) (fun _ iv _=>r - (intOf iv).toNat)
 case atStart=>exact⟨0,Nat.zero_le _,by have h8:=s[q].toNat_lt;simp;unfold wrap64;omega,rfl,H.out⟩
 case round=>
  obtain⟨k,hk,rfl,rfl,hst⟩:=hrel;clear H;have H:=hQd hst;clear hst;obtain⟨c,hc⟩:∃c,s[q].toNat / 2 ^ k=c:=⟨_,rfl⟩
  have hc8:c<256:=by
    have h1:s[q].toNat / 2 ^ k≤s[q].toNat:=Nat.div_le_self _ _;have h2:=s[q].toNat_lt
    omega
  rw[hc]
  by_cases hlt:k<r
  · have hki:(k:Int)<(r:Int):=by omega
    have HC:=hQd (show s[q].toNat / 2 ^ (k+1)=c / 2 by rw[Nat.pow_succ,←Nat.div_div_eq_div_mul,hc]);have t3:(c:Int).tdiv 2=((c / 2:Nat):Int):=rfl;clear hc;go_wp2;go_roundw
    case rel=>exact⟨k+1,hlt,by rw[HC.out];rfl,by go_num,H.out⟩
    case measure=>first|(simp[intOf];done)|(simp[intOf];omega)
  · have hkl:k=r:=by omega
    subst hkl;rw[hc]at HB;have t3:(c:Int).tmod 2=((c % 2:Nat):Int):=rfl;clear hc;go_wp2;go_ret;exact⟨by rw[←HB.out];rfl,H.out⟩
def zBO (l:List Bool):Array Value:=(l.map fun b=>Value.int .i64 (bitN b)).toArray
theorem zG4(l:List Bool)(j:Nat)(h:j<l.length):(zBO l)[j]? =some (.int .i64 (bitN (l.getD j false))):=by
 unfold zBO;rw[List.getElem?_toArray,List.getElem?_map,List.getD_eq_getElem?_getD,List.getElem?_eq_getElem h]
 rfl
theorem zLR(l:List Bool)(k:Nat)(b:Bool)(x:Int)(hx:((bitN b:Nat):Int)=x):(zBO l).setIfInBounds k (.int .i64 x)=zBO (l.set k b):=by
 subst hx;unfold zBO;rw[List.setIfInBounds_toArray,List.map_set]
theorem zKd(n:Nat):madeCells #[.int .i64 0] n=zBO (List.replicate n false):=by
 refine Array.ext_getElem? fun i=> ?_
 by_cases hi:i<n
 · rw[zG4 _ _ (by simpa using hi),List.getD_eq_getElem?_getD,List.getElem?_replicate,if_pos hi];simp[madeCells,hi,Nat.mod_one,bitN]
 · rw[Array.getElem?_eq_none (by rw[size_madeCells];first|omega|(simp;omega)),Array.getElem?_eq_none (by simp[zBO];omega)]
theorem zOG{a b:List Bool}(hl:a.length=b.length)(h:∀x,x<a.length→a.getD x false=b.getD x false):a=b:=by
 refine List.ext_getElem hl fun i h1 h2=> ?_
 have:=h i h1;rw[List.getD_eq_getElem?_getD,List.getD_eq_getElem?_getD,List.getElem?_eq_getElem h1,List.getElem?_eq_getElem h2]at this;exact this
def zGt (s:Bs) (m:Nat):Nat→List Bool
  |0=>List.replicate m false
  |k+1=>(zGt s m k).set k ((zBh s).getD k false)
theorem zF4(s:Bs)(m k:Nat):(zGt s m k).length=m:=by
 induction k with
 |zero=>show(List.replicate _ _).length=_;rw[List.length_replicate]
 |succ k ih=>show(List.set _ _ _).length=_;rw[List.length_set,ih]
theorem zNm(s:Bs)(m k:Nat)(h:k≤m)(x:Nat):(zGt s m k).getD x false=if x<k then(zBh s).getD x false else false:=by
 induction k with
 |zero=>
  show(List.replicate _ _).getD x false=_
  rw[List.getD_eq_getElem?_getD,List.getElem?_replicate]
  split<;>rfl
 |succ k ih=>
  have ih:=ih (by omega)
  show((zGt s m k).set k _).getD x false=_
  rw[zHG _ _ _ _ (by rw[zF4];omega)]
  by_cases hx:x=k
  · subst hx;rw[if_pos rfl,if_pos (by omega)]
  · rw[if_neg hx,ih]
    by_cases h2:x<k
    · rw[if_pos h2,if_pos (by omega)]
    · rw[if_neg h2,if_neg (by omega)]
theorem zNl(s:Bs)(n:Nat)(h:8*s.length=n):zGt s (n+32) n=zDh s:=by
 refine zOG (by rw[zF4,zDw,h]) fun x _=> ?_
 rw[zNm _ _ _ (by omega),zIm]
 split
 · rfl
 · next hx=>
   rw[List.getD_eq_getElem?_getD,List.getElem?_eq_none (by rw[zCy];omega)]
   rfl
theorem St.bitCell{b:Nat}{l:List Bool}{T:TypeId}(h:St W0 w K (.raw b (zBO l) T::L))(k:Nat)(hk:k<l.length)(c:Bool)(hc:l.getD k false=c):w.cell? ⟨b,k,none⟩=some (.int .i64 (bitN c)):=by
 rw[h.rawCell k,zG4 l k hk,hc]
theorem St.bitSet{b:Nat}{l:List Bool}{T:TypeId}(h:St W0 w K (.raw b (zBO l) T::L))(k:Nat)(c:Bool)(x:Int)(hx:((bitN c:Nat):Int)=x):St W0 (w.setCell ⟨b,k,none⟩ (.int .i64 x)) K (.raw b (zBO (l.set k c)) T::L):=by
 rw[←zLR l k c x hx];exact h.rawSet k _
theorem zMY(n N:Nat)(h:n+32=N)(hn:N≤9000000)(w:World):(Instr.makeSlice 23 (.int .i64 (N:Int)) (.int .i64 (N:Int))).run Tryz.prog w=.ok (.slice (some ⟨w.heap.size,0,none⟩) N N) (w.alloc (.cells (zBO (List.replicate N false)) 3 (0,0))):=by
 rw[←zKd];exact run_make_row' 23 3 (.int .i64 0) 8 Tryz.underlying23 (by kernel_rfl) rfl .i64 .i64 N (by omega) (by omega) w
theorem zEB(n:Nat)(hn:n<32)(c:Bool)(hc:pw n=c)(h:St W0 w K L):
  Calls Tryz.prog 65 #[.int .i64 n] w fun en w'=>en=.returned (.int .i64 (bitN c))∧St W0 w' K L:=by
 subst hc;exact zJJ n hn h
theorem zLn(s:Bs)(i:Nat)(hi:i<8*s.length)(hs:s.length≤1000000)(c:Bool)(hc:(zBh s).getD i false=c)(h:St W0 w K L):
  Calls Tryz.prog 64 #[.string (bb s),.int .i64 i] w fun en w'=>en=.returned (.int .i64 (bitN c))∧St W0 w' K L:=by
 subst hc;exact zMx s i hi hs h
theorem zLm(s:Bs)(hs:s.length≤1000000){W0 w:World}{K:Know}{L:List Res}(h:St W0 w K L):
  Calls Tryz.prog 31 #[.string (bb s)] w fun en w'=>en=.returned (.int .u32 (zAq 0#32 s).toNat)∧St W0 w' K L:=by
 have H:=hQd h;clear h;obtain⟨n,hn⟩:∃n,8*s.length=n:=⟨_,rfl⟩;obtain⟨N,hN⟩:∃N,n+32=N:=⟨_,rfl⟩;have e8:(8:Int)*(s.length:Int)=(n:Int):=by omega
 have eN:(n:Int)+32=(N:Int):=by omega
 have hn2:n≤8000000:=by omega
 have hmk:=zMY n N hN (by omega);have HN:=hQd hn;have HN2:=hQd hN;have HS:=hQd hs;clear hn hN hs;go_enter Tryz.func31,Tryz.ntmps31;go_wp2;have hal:=H.out.allocRaw (zBO (List.replicate N false)) 3;obtain⟨bL,hbL⟩:∃b,w.heap.size=b:=⟨_,rfl⟩;rw[hbL]at hal ⊢;clear H hmk hbL;have H:=hQd hal;clear hal;go_loopw [5] (fun iv wr=>∃k:Nat,k≤n∧iv=.int .i64 k∧St W0 wr K (.raw bL (zBO (zGt s N k)) 3::L)) (fun iv _=>n - (intOf iv).toNat)
 case atStart=>exact⟨0,Nat.zero_le _,rfl,H.out⟩
 case round=>
  obtain⟨k,hk,rfl,hst⟩:=hrel;clear H;have H:=hQd hst;clear hst
  by_cases hlt:k<n
  · have hki:(k:Int)<(n:Int):=by omega
    have hkN:(k:Int)<(N:Int):=by omega
    have HI:=hQd (show k<8*s.length by rw[HN.out];exact hlt);have HI2:=hQd (show k<(zGt s N k).length by rw[zF4];omega);obtain⟨c,hc⟩:∃c,(zBh s).getD k false=c:=⟨_,rfl⟩;have HC:=hQd hc;clear hc;go_wp2_with (go_at_call 64;(with_reducible refine(zLn s k HI.out HS.out c HC.out H.out).mono ?_);rintro e wn ⟨rfl,h⟩;replace H:=hQd h;clear h;have c0:=H.out.bitCell k HI2.out _ rfl;have f0:=H.out.rawFree k);go_roundw
    case rel=>
     have e:zGt s N (k+1)=(zGt s N k).set k c:=by rw[←HC.out];rfl
     exact⟨k+1,hlt,by go_num,by rw[e];exact H.out.bitSet k c _ rfl⟩
    case measure=>first|(simp[intOf];done)|(simp[intOf];omega)
  · obtain rfl:n=k:=by omega
    have h:=H.out;have e:zGt s N n=zDh s:=by have:=zNl s n HN.out;rw[HN2.out]at this;exact this
    rw[e]at h;have HRL:=hQd (show(zDh s).length=N by rw[zDw,HN.out,HN2.out]);clear H;have H:=hQd h;clear h;clear hlt e hk;have hN2:(32:Int)≤(N:Int):=by omega
    go_wp2;go_loopw [6] (fun iv wr=>∃k:Nat,k≤32∧iv=.int .i64 k∧St W0 wr K (.raw bL (zBO (zB1 k (zDh s))) 3::L)) (fun iv _=>32 - (intOf iv).toNat)
    case atStart=>exact⟨0,Nat.zero_le _,rfl,H.out⟩
    case round=>
     obtain⟨k,hk,rfl,hst⟩:=hrel;clear H;have H:=hQd hst;clear hst
     by_cases hlt:k<32
     · have hki:(k:Int)<32:=by omega
       have hkN:(k:Int)<(N:Int):=by omega
       obtain⟨c,hc⟩:∃c,(zB1 k (zDh s)).getD k false=c:=⟨_,rfl⟩;have hkl:k<(zB1 k (zDh s)).length:=by rw[zCU,HRL.out];omega
       have c0:=H.out.bitCell k hkl c hc;have f0:=H.out.rawFree k;have HE:=hQd (show zB1 (k+1) (zDh s)=(zB1 k (zDh s)).set k (!c) by rw[←hc];rfl);clear hc hkl
       cases c
       all_goals
        simp only[bitN,Bool.false_eq_true,if_false,if_true]at c0;go_wp2;go_roundw
        case rel=>exact⟨k+1,hlt,by go_num,by rw[HE.out];exact H.out.bitSet k _ _ rfl⟩
        case measure=>first|(simp[intOf];done)|(simp[intOf];omega)
     · obtain rfl:k=32:=by omega
       obtain⟨M,hM⟩:∃M,zB1 32 (zDh s)=M:=⟨_,rfl⟩;have h:=H.out;rw[hM]at h;have HML:=hQd (show M.length=N by rw[←hM,zCU];exact HRL.out);have HM:=hQd hM;clear H hlt hk hM;have H:=hQd h;clear h;go_wp2;go_loopw [7] (fun iv wr=>∃k:Nat,k≤n∧iv=.int .i64 k∧St W0 wr K (.raw bL (zBO (zBY M k)) 3::L)) (fun iv _=>n - (intOf iv).toNat)
       case atStart=>exact⟨0,Nat.zero_le _,rfl,H.out⟩
       case round=>
        obtain⟨i,hi,rfl,hst⟩:=hrel;clear H;have H:=hQd hst;clear hst
        by_cases hlt:i<n
        · have hki:(i:Int)<(n:Int):=by omega
          have hkN:(i:Int)<(N:Int):=by omega
          obtain⟨c,hc⟩:∃c,(zBY M i).getD i false=c:=⟨_,rfl⟩;have c0:=H.out.bitCell i (by rw[zDE,HML.out];omega) c hc
          cases c
          · have HE:=hQd (show zBY M (i+1)=zBY M i by show(if (zBY M i).getD i false then _ else _:List Bool)=_;rw[hc];rfl);clear hc;simp only[bitN,Bool.false_eq_true,if_false,if_true]at c0;go_wp2;go_roundw
            case rel=>exact⟨i+1,hlt,by go_num,by rw[HE.out];exact H.out⟩
            case measure=>first|(simp[intOf];done)|(simp[intOf];omega)
          · have HE:=hQd (show zBY M (i+1)=zC8 (zBY M i) i 32 by show(if (zBY M i).getD i false then _ else _:List Bool)=_;rw[hc];rfl);clear hc;simp only[bitN,Bool.false_eq_true,if_false,if_true]at c0;obtain⟨B,hB⟩:∃B,zBY M i=B:=⟨_,rfl⟩;have h:=H.out;rw[hB]at HE h;have HBL:=hQd (show B.length=N by rw[←hB,zDE];exact HML.out);clear H hB;have H:=hQd h;clear h;go_wp2;clear c0;go_loopw [8] (fun kv wr=>∃q:Nat,q≤32∧kv=.int .i64 ((q:Int)+1)∧St W0 wr K (.raw bL (zBO (zC8 B i q)) 3::L)) (fun kv _=>33 - (intOf kv).toNat)
            case atStart=>exact⟨0,Nat.zero_le _,rfl,H.out⟩
            case round=>
             obtain⟨q,hq,rfl,hst⟩:=hrel;clear H;have H:=hQd hst;clear hst
             by_cases hlt2:q<32
             · obtain⟨p,hp⟩:∃p,31 - q=p:=⟨_,rfl⟩;obtain⟨x,hx⟩:∃x,i+(q+1)=x:=⟨_,rfl⟩;obtain⟨kk,hkk⟩:∃kk,q+1=kk:=⟨_,rfl⟩;have e1:(q:Int)+1=(kk:Int):=by omega
               rw[e1];have e2:(i:Int)+(kk:Int)=(x:Int):=by omega
               have e3:(32:Int) - (kk:Int)=(p:Int):=by omega
               have b1:(kk:Int)≤32:=by omega
               have b2:(x:Int)<(N:Int):=by omega
               have b3:(p:Int)<32:=by omega
               have HX:=hQd (show x<(zC8 B i q).length by rw[zFZ,HBL.out];omega);obtain⟨a,ha⟩:∃a,(zC8 B i q).getD x false=a:=⟨_,rfl⟩;obtain⟨d,hd⟩:∃d,pw p=d:=⟨_,rfl⟩;have HP:=hQd (show p<32 by omega);have HA:=hQd ha;have HD:=hQd hd
               have HN3:=hQd (show zC8 B i (q+1)=(zC8 B i q).set x (a ^^ d) by
                show(zC8 B i q).set (i+(q+1)) ((zC8 B i q).getD (i+(q+1)) false ^^ pw (31 - q))=_
                rw[hx,hp,ha,hd])
               have HQ:=hQd e1;have h1:(bitN a:Int)≤1:=by cases a<;>decide
               have h2:(bitN d:Int)≤1:=by cases d<;>decide
               have h3:((bitN a:Int)+(bitN d:Int)).tmod 2=(bitN (a ^^ d):Int):=by cases a<;>cases d<;>rfl
               obtain⟨va,hva⟩:∃v,bitN a=v:=⟨_,rfl⟩;obtain⟨vd,hvd⟩:∃v,bitN d=v:=⟨_,rfl⟩;obtain⟨vx,hvx⟩:∃v,bitN (a ^^ d)=v:=⟨_,rfl⟩;rw[hva]at h1 h3;rw[hvd]at h2 h3;rw[hvx]at h3;have HVA:=hQd hva;have HVD:=hQd hvd;have HVX:=hQd (show((bitN (a ^^ d):Nat):Int)=(vx:Int) by rw[hvx]);have w1:IntKind.i64.wrap (x:Int)=(x:Int):=IntWalk.i64_in _ (by omega);have w2:IntKind.i64.wrap (p:Int)=(p:Int):=IntWalk.i64_in _ (by omega);have w3:IntKind.i64.wrap ((va:Int)+(vd:Int))=(va:Int)+(vd:Int):=IntWalk.i64_in _ (by omega);have h4:((bitN (a ^^ d):Nat):Int)≤1:=by cases a<;>cases d<;>decide
               rw[HVX.out]at h4;have w4:IntKind.i64.wrap (vx:Int)=(vx:Int):=IntWalk.i64_in _ (by omega);clear hp hx hkk ha hd hva hvd hvx;go_upto_region 18 with (fail);have hs:=H.out.drew;refine wp_region_held_drew (S:=fun _=>True) (by kernel_rfl) trivial (fun hHeld=> ?_);refine tQ 0 ⟨some 54,.move (.tmp 4),23,_,_,none⟩ ?_;simp only[Act.put,sA,sB,sC];refine tQ 1 ⟨some 55,.move (.tmp 7),3,_,_,none⟩ ?_;simp only[Act.put,sA,sB,sC];refine tQ 2 ⟨some 56,.move (.tmp 8),3,_,_,none⟩ ?_;simp only[Act.put,sA,sB,sC];refine tQ 3 ⟨some 57,.binOp .add 3 (.tmp 55) (.tmp 56) 3,3,_,_,none⟩ ?_;simp only[Act.put,sA,sB,sC];refine tQ 4 ⟨some 58,.move (.tmp 4),23,_,_,none⟩ ?_;simp only[Act.put,sA,sB,sC];refine tQ 5 ⟨some 59,.move (.tmp 7),3,_,_,none⟩ ?_;simp only[Act.put,sA,sB,sC];refine tQ 6 ⟨some 60,.move (.tmp 8),3,_,_,none⟩ ?_;simp only[Act.put,sA,sB,sC];refine tQ 7 ⟨some 61,.binOp .add 3 (.tmp 59) (.tmp 60) 3,3,_,_,none⟩ ?_;simp only[Act.put,sA,sB,sC];refine tQ 8 ⟨some 62,.indexAddr 23 (.tmp 58) (.tmp 61),0,_,_,none⟩ ?_;simp only[Act.put,sA,sB,sC];refine tQ 10 ⟨some 64,.move (.tmp 8),3,_,_,none⟩ ?_;simp only[Act.put,sA,sB,sC];refine tQ 11 ⟨some 65,.binOp .sub 3 (.const (Value.int IntKind.i64 32)) (.tmp 64) 3,3,_,_,none⟩ ?_;simp only[Act.put,sA,sB,sC];refine wpAnyH_ready (rs:=[9,12]) (by kernel_rfl) (by simp) (AllReadyH.cons (o:=⟨some 63,.load 3 (.tmp 62),3,_,_,none⟩) rfl (fun KK hK=> ?_) (AllReadyH.cons (o:=⟨some 66,.call {callee:=.value (.func 65),args:= #[.tmp 65],argTypes:= #[3]},3,_,_,none⟩) rfl (fun KK hK=> ?_) AllReadyH.nil))
               focus
                have c0:=hs.bitCell x HX.out a HA.out;rw[HVA.out]at c0;go_simp;refine hK.out _ _ (trivial) (fun hHeld=> ?_);clear hK KK
                try simp only[Act.put,sA,sB,sC]
                refine wpAnyH_ready (rs:=[12]) (by kernel_rfl) (by simp) (AllReadyH.cons (o:=⟨some 66,.call {callee:=.value (.func 65),args:= #[.tmp 65],argTypes:= #[3]},3,_,_,none⟩) rfl (fun KK hK=> ?_) AllReadyH.nil);go_simp;go_at_call 65;with_reducible refine(zEB p HP.out d HD.out hs).mono ?_;rw[HVD.out];rintro e wq ⟨rfl,hs⟩
               rotate_left
               focus
                go_simp;go_at_call 65;with_reducible refine(zEB p HP.out d HD.out hs).mono ?_;rw[HVD.out];rintro e wq ⟨rfl,hs⟩;refine hK.out _ _ (trivial) (fun hHeld=> ?_);clear hK KK
                try simp only[Act.put,sA,sB,sC]
                refine wpAnyH_ready (rs:=[9]) (by kernel_rfl) (by simp) (AllReadyH.cons (o:=⟨some 63,.load 3 (.tmp 62),3,_,_,none⟩) rfl (fun KK hK=> ?_) AllReadyH.nil);have c0:=hs.bitCell x HX.out a HA.out;rw[HVA.out]at c0;go_simp
               all_goals
                refine hK.out _ _ (trivial) (fun hHeld=> ?_);clear hK KK
                try simp only[Act.put,sA,sB,sC]
                refine tQ 13 ⟨some 67,.binOp .add 3 (.tmp 63) (.tmp 66) 3,3,_,_,none⟩ ?_;simp only[Act.put,sA,sB,sC];refine tQ 14 ⟨some 68,.binOp .rem 3 (.tmp 67) (.const (Value.int IntKind.i64 2)) 3,3,_,_,none⟩ ?_;simp only[Act.put,sA,sB,sC];refine tQ 15 ⟨some 69,.indexAddr 23 (.tmp 54) (.tmp 57),0,_,_,none⟩ ?_;simp only[Act.put,sA,sB,sC];refine wpAnyH_ready (rs:=[16]) (by kernel_rfl) (by simp) (AllReadyH.cons (o:=⟨none,.store 3 (.tmp 69) (.tmp 68),0,_,_,none⟩) rfl (fun KK hK=> ?_) AllReadyH.nil);have f0:=hs.rawFree x;have c0:=hs.bitCell x HX.out a HA.out;go_simp;refine hK.out _ _ (trivial) (fun hHeld=> ?_);clear hK KK
                try simp only[Act.put,sA,sB,sC]
                have hs:=hs.bitSet x (a ^^ d) (vx:Int) HVX.out;refine wpAnyH_done (by kernel_rfl) ?_ _;rw[←HN3.out]at hs;go_wp2_with fail;go_roundw
                case rel=>
                 clear hHeld c0 f0;exact⟨_,_,_,_,_,_,_,_,_,_,_,_,_,_,_,_,_,_,_,_,_,⟨q+1,hlt2,by rw[←HQ.out];go_num,hs⟩,rfl⟩
                case measure=>first|(simp[intOf];done)|(simp[intOf];omega)
             · obtain rfl:q=32:=by omega
               have h:=H.out;rw[←HE.out]at h;clear H;have H:=hQd h;clear h;go_wp2;go_roundw
               case rel=>exact⟨i+1,hlt,by go_num,H.out⟩
               case measure=>first|(simp[intOf];done)|(simp[intOf];omega)
        · obtain rfl:n=i:=by omega
          have HF:=hQd (show zBo (fun j=> !(zBY M n).getD (n+j) false) 32=(zAq 0#32 s).toNat by
            have:=zJ7 s;unfold zHL at this;rw[HN.out,HM.out]at this
            exact this)
          obtain⟨D,hD⟩:∃D,zBY M n=D:=⟨_,rfl⟩;have h:=H.out;rw[hD]at HF h;have HDL:=hQd (show D.length=N by rw[←hD,zDE];exact HML.out);clear H hD;have H:=hQd h;clear h hlt;go_wp2;go_loopw [10,9] (fun iv ov wr=>∃j:Nat,j≤32∧iv=.int .i64 ((j:Int) - 1)∧ov=.int .u32 (zBo (fun j=> !D.getD (n+j) false) (32 - j):Nat)∧St W0 wr K (.raw bL (zBO (D)) 3::L)) (fun iv _ _=>(intOf iv+1).toNat)
          case atStart=>exact⟨32,Nat.le_refl _,rfl,rfl,H.out⟩
          case round=>
            obtain⟨j,hj,rfl,rfl,hst⟩:=hrel;clear H;have H:=hQd hst;clear hst
            match j with
            |0=>
             rw[show(((0:Nat):Int) - 1)= -1 from rfl,show 32 - 0=32 from rfl,HF.out];go_wp2;go_ret;exact⟨rfl,H.out.drop⟩
            |j+1=>
             rw[show(((j+1:Nat):Int) - 1)=(j:Int) by omega];obtain⟨x,hx⟩:∃x,n+j=x:=⟨_,rfl⟩;have e2:(n:Int)+(j:Int)=(x:Int):=by omega
             have b2:(x:Int)<(N:Int):=by omega
             have b1:(j:Int)<32:=by omega
             obtain⟨c,hc⟩:∃c,D.getD x false=c:=⟨_,rfl⟩;have c0:=H.out.bitCell x (by rw[HDL.out];have:=HN2.out;omega) c hc;obtain⟨R,hR⟩:∃R,zBo (fun j=> !D.getD (n+j) false) (32 - (j+1))=R:=⟨_,rfl⟩
             have HR:=hQd (show zBo (fun j=> !D.getD (n+j) false) (32 - j)=R*2+(if c then 0 else 1) by
               rw[show 32 - j=32 - (j+1)+1 by omega]
               show zBo _ _*2+(if !D.getD (n+(31 - (32 - (j+1)))) false then 1 else 0)=_
               rw[hR,show 31 - (32 - (j+1))=j by omega,hx,hc]
               cases c<;>rfl)
             have hb:R<2147483648:=by
               have h1:=zGJ (fun j=> !D.getD (n+j) false) (32 - (j+1));rw[hR]at h1;have h2:2 ^ (32 - (j+1))≤2 ^ 31:=Nat.pow_le_pow_right (by decide) (by omega)
               omega
             rw[hR];clear hx hc hR
             cases c
             all_goals
               simp only[bitN,Bool.false_eq_true,if_false,if_true]at c0 HR;go_wp2;go_roundw
               case rel=>exact⟨j,by omega,rfl,by rw[HR.out];go_num,H.out⟩
               case measure=>first|(simp[intOf];done)|(simp[intOf];omega)
variable {W0 w:World}{K:Know}{L:List Res}
theorem zAx(n:Int)(r:Bs)(hr:encI n=r)(hn: -9223372036854775808≤n∧n<9223372036854775808)(h:St W0 w K L):
  Calls Tryz.prog 59 #[.int .i64 n] w fun en w'=>en=.returned (.string (bb r))∧St W0 w' K L:=by
 subst hr;exact zIs n hn h
theorem zAe(v:Value)(l:List HdrS)(r:Bs)(hr:zCB l=r)(hs:hsize l≤70368744177664)(hk:K.has (Know.flat RHdr v 3 l))(h:St W0 w K L):
  Calls Tryz.prog 61 #[v] w fun en w'=>en=.returned (.string (bb r))∧St W0 w' K L:=by
 subst hr;exact zJG v l hs hk h
theorem zPA{b:Nat}{T:TypeId}{v0 v1 v2 v3 v4 v5 v6:Value}(h:St W0 w K (.raw b #[v0,v1,v2,v3,v4,v5,v6] T::L)):
  (w.cell? ⟨b,0,none⟩=some v0∧w.cell? ⟨b,1,none⟩=some v1∧w.cell? ⟨b,2,none⟩=some v2∧w.cell? ⟨b,3,none⟩=some v3∧w.cell? ⟨b,4,none⟩=some v4∧w.cell? ⟨b,5,none⟩=some v5∧w.cell? ⟨b,6,none⟩=some v6)∧St W0 w K (.raw b #[v0,v1,v2,v3,v4,v5,v6] T::L):=
 ⟨⟨h.rawCell 0,h.rawCell 1,h.rawCell 2,h.rawCell 3,h.rawCell 4,h.rawCell 5,h.rawCell 6⟩,h⟩
theorem zAa{b:Nat}{T:TypeId}(h:St W0 w K (.raw b #[.int .u8 0] T::L)):
  (convert 57 9 (.slice (some ⟨b,0,none⟩) 1 1)).run Tryz.prog w=.ok (.string ⟨#[0]⟩) w:=by
 refine run_convert_bytes_back (P:=Tryz.prog) w 57 9 5 ⟨b,0,none⟩ 1 [0] Tryz.underlying57 Tryz.underlying5 Tryz.underlying9 (fun j hj=> ?_);have hj:j=0:=by simp at hj;exact hj
 subst hj;exact h.rawCell 0
theorem zq31{p:Prop}(h:p:=by(try dsimp only);exact(zPA (show St W0 _ K (.raw wA _ _::L) by assumption))):p:=h
theorem zJD(x:RecS)(v:Value)(s:Bs)(hss:encR x=s)(hx:x.R)(hs:x.sum≤1000000)(hk:K.has (Know.flat RHdr v 3 x.hdrs))(h:St W0 w K L):
  Calls Tryz.prog 28 #[.agg #[.int .i64 x.time,.int .i64 x.off,.bool x.key.null,.string (bb x.key.data),.bool x.val.null,.string (bb x.val.data),v]] w fun en w'=>en=.returned (.string (bb s))∧St W0 w' K L:=by
 obtain⟨wA,hwA⟩:∃b,w.heap.size=b:=⟨_,rfl⟩;have h0:=h.allocRaw #[.int .i64 x.time,.int .i64 x.off,.bool x.key.null,.string (bb x.key.data),.bool x.val.null,.string (bb x.val.data),v] 54;rw[hwA]at h0;have hle:=zEg x hx hs;have hsm:=hs;unfold RecS.sum at hsm;have hsl:=zCc x.hdrs;obtain⟨f,hf⟩:∃f,recF x=f:=⟨_,rfl⟩;obtain⟨a1,e1⟩:∃a,encI x.time=a:=⟨_,rfl⟩;obtain⟨a2,e2⟩:∃a,encI x.off=a:=⟨_,rfl⟩;obtain⟨a3,e3⟩:∃a,encV ⟨x.key.null,x.key.data⟩=a:=⟨_,rfl⟩;obtain⟨a4,e4⟩:∃a,encV ⟨x.val.null,x.val.data⟩=a:=⟨_,rfl⟩;obtain⟨a5,e5⟩:∃a,zCB x.hdrs=a:=⟨_,rfl⟩
 have hfe:f=[0]++(a1++(a2++(a3++(a4++a5)))):=by
  rw[←hf,←e1,←e2,←e3,←e4,←e5];rfl
 have hl:=congrArg List.length hfe;simp only[List.length_append,List.length_cons,List.length_nil]at hl;rw[hf]at hle;have hfl:f.length≤40000000:=by omega
 obtain⟨a6,e6⟩:∃a,encI f.length=a:=⟨_,rfl⟩;have h6:a6.length≤10:=by rw[←e6];exact zDl _ (by omega)
 have hse:s=a6++f:=by
  rw[←hss];unfold encR encV;rw[hf,←e6];rfl
 have hz1:¬(9223372036854775807<1+a1.length):=by omega
 have hy1:¬(9223372036854775807<a1.length+1):=by omega
 have hz2:¬(9223372036854775807<1+a1.length+a2.length):=by omega
 have hy2:¬(9223372036854775807<a1.length+1+a2.length):=by omega
 have hz3:¬(9223372036854775807<1+a1.length+a2.length+a3.length):=by omega
 have hy3:¬(9223372036854775807<a1.length+1+a2.length+a3.length):=by omega
 have hz4:¬(9223372036854775807<1+a1.length+a2.length+a3.length+a4.length):=by omega
 have hy4:¬(9223372036854775807<a1.length+1+a2.length+a3.length+a4.length):=by omega
 have hz5:¬(9223372036854775807<1+a1.length+a2.length+a3.length+a4.length+a5.length):=by omega
 have hy5:¬(9223372036854775807<a1.length+1+a2.length+a3.length+a4.length+a5.length):=by omega
 have hz6:¬(9223372036854775807<a6.length+f.length):=by omega
 have hw3:¬(9223372036854775807<a1.length+a2.length+1+a3.length):=by omega
 have hw4:¬(9223372036854775807<a1.length+a2.length+a3.length+1+a4.length):=by omega
 have hw5:¬(9223372036854775807<a1.length+a2.length+a3.length+a4.length+1+a5.length):=by omega
 have hv4:¬(9223372036854775807<a1.length+(a2.length+a3.length)+1+a4.length):=by omega
 have hv5:¬(9223372036854775807<a1.length+(a2.length+(a3.length+a4.length))+1+a5.length):=by omega
 have E1:=hQd e1;have E2:=hQd e2;have E3:=hQd e3;have E4:=hQd e4;have E5:=hQd e5;have E6:=hQd e6;have R1:=hQd hx.1;have R2:=hQd hx.2;have R6:=hQd (show -9223372036854775808≤(f.length:Int)∧(f.length:Int)<9223372036854775808 by omega);have B3:=hQd (show x.key.data.length≤70368744177664 by omega);have B4:=hQd (show x.val.data.length≤70368744177664 by omega);have B5:=hQd (show hsize x.hdrs≤70368744177664 by omega);have HK:=hQd hk;have HF:=hQd hfe;have HSE:=hQd hse;have H:=hQd h0;have hcat:∀B:Bs,(⟨#[0]⟩:ByteArray)++bb B=bb (0::B):=fun B=>zAg [0] B
 clear h hk h0 hss hx hs hle hsm hsl hf hfl h6 hse hfe hl e1 e2 e3 e4 e5 e6;go_enter Tryz.func28,Tryz.ntmps28;go_wp2_with fail;have hst:=H.out;have ⟨⟨c0,c1,c2,c3,c4,c5,c6⟩,_⟩:=zPA H.out.drew;have hst:=H.out.drew;have hst2:=(H.out.allocRaw #[.int .u8 0] 5).drew;rw[World.size_alloc,hwA]at hst2;have cb:=zAa hst2;have hst3:=hst2.drop;go_cut [3] (fun s3 wx=>s3=.string (bb f)∧St W0 wx K (.raw wA #[.int .i64 x.time,.int .i64 x.off,.bool x.key.null,.string (bb x.key.data),.bool x.val.null,.string (bb x.val.data),v] 54::L))
 case first=>
  refine wp_region_held_drew (S:=(fun w'=>(w'.cell? ⟨wA,0,none⟩=some (.int .i64 x.time)∧w'.cell? ⟨wA,1,none⟩=some (.int .i64 x.off)∧w'.cell? ⟨wA,2,none⟩=some (.bool x.key.null)∧w'.cell? ⟨wA,3,none⟩=some (.string (bb x.key.data))∧w'.cell? ⟨wA,4,none⟩=some (.bool x.val.null)∧w'.cell? ⟨wA,5,none⟩=some (.string (bb x.val.data))∧w'.cell? ⟨wA,6,none⟩=some (v))∧St W0 w' K (.raw wA #[.int .i64 x.time,.int .i64 x.off,.bool x.key.null,.string (bb x.key.data),.bool x.val.null,.string (bb x.val.data),v] 54::L))) (by kernel_rfl) (zPA (show St W0 _ K (.raw wA _ _::L) by assumption)) (fun hHeld=> ?_);refine tQ 2 ⟨some 6,.fieldAddr 54 (.tmp 1) 0,0,_,_,none⟩ ?_;simp only[Act.put,sA,sB,sC];refine tQ 3 ⟨some 7,.load 3 (.tmp 6),3,_,_,none⟩ ?_;simp only[Act.put,sA,sB,sC];refine tQ 6 ⟨some 10,.fieldAddr 54 (.tmp 1) 1,0,_,_,none⟩ ?_;simp only[Act.put,sA,sB,sC];refine tQ 7 ⟨some 11,.load 3 (.tmp 10),3,_,_,none⟩ ?_;simp only[Act.put,sA,sB,sC];refine tQ 10 ⟨some 14,.fieldAddr 54 (.tmp 1) 2,0,_,_,none⟩ ?_;simp only[Act.put,sA,sB,sC];refine tQ 11 ⟨some 15,.load 51 (.tmp 14),51,_,_,none⟩ ?_;simp only[Act.put,sA,sB,sC];refine tQ 14 ⟨some 18,.fieldAddr 54 (.tmp 1) 3,0,_,_,none⟩ ?_;simp only[Act.put,sA,sB,sC];refine tQ 15 ⟨some 19,.load 51 (.tmp 18),51,_,_,none⟩ ?_;simp only[Act.put,sA,sB,sC];refine tQ 18 ⟨some 22,.fieldAddr 54 (.tmp 1) 4,0,_,_,none⟩ ?_;simp only[Act.put,sA,sB,sC];refine tQ 19 ⟨some 23,.load 52 (.tmp 22),52,_,_,none⟩ ?_;simp only[Act.put,sA,sB,sC];refine wpAnyH_ready (rs:=[0,4]) (by kernel_rfl) (by simp) (AllReadyH.cons (o:=⟨some 4,.buildSlice 57 1 #[(0,.const (Value.int IntKind.u8 0))],57,_,_,none⟩) rfl (fun KK hK=> ?_) (AllReadyH.cons (o:=⟨some 8,.call {callee:=.value (.func 59),args:= #[.tmp 7],argTypes:= #[3]},9,_,_,none⟩) rfl (fun KK hK=> ?_) AllReadyH.nil))
  focus
   go_simp;refine hK.out _ _ zq31 (fun hHeld=> ?_);clear hK KK
   try simp only[Act.put,sA,sB,sC]
   refine wpAnyH_ready (rs:=[1,4]) (by kernel_rfl) (by simp) (AllReadyH.cons (o:=⟨some 5,.convert 57 9 (.tmp 4),9,_,_,none⟩) rfl (fun KK hK=> ?_) (AllReadyH.cons (o:=⟨some 8,.call {callee:=.value (.func 59),args:= #[.tmp 7],argTypes:= #[3]},9,_,_,none⟩) rfl (fun KK hK=> ?_) AllReadyH.nil))
   focus
    go_simp;refine hK.out _ _ zq31 (fun hHeld=> ?_);clear hK KK
    try simp only[Act.put,sA,sB,sC]
    refine wpAnyH_ready (rs:=[4]) (by kernel_rfl) (by simp) (AllReadyH.cons (o:=⟨some 8,.call {callee:=.value (.func 59),args:= #[.tmp 7],argTypes:= #[3]},9,_,_,none⟩) rfl (fun KK hK=> ?_) AllReadyH.nil);go_simp
    (go_at_call 59;first|(with_reducible refine(zAx x.time a1 E1.out R1.out (show St W0 _ K (.raw _ #[.int .u8 0] _::.raw wA _ _::L) by assumption)).mono ?_;rintro e wn ⟨rfl,h⟩;have cb:=zAa h;have hd:=h.drop)|(with_reducible refine(zAx x.time a1 E1.out R1.out (show St W0 _ K (.raw wA _ _::L) by assumption)).mono ?_;rintro e wn ⟨rfl,h⟩;have hal:=h.allocRaw #[.int .u8 0] 5;have cb:=zAa hal;have hd:=hal.drop))
    refine hK.out _ _ zq31 (fun hHeld=> ?_);clear hK KK
    try simp only[Act.put,sA,sB,sC]
    refine tQ 5 ⟨some 9,.binOp .add 9 (.tmp 5) (.tmp 8) 9,9,_,_,none⟩ ?_;simp only[Act.put,sA,sB,sC];refine wpAnyH_ready (rs:=[8]) (by kernel_rfl) (by simp) (AllReadyH.cons (o:=⟨some 12,.call {callee:=.value (.func 59),args:= #[.tmp 11],argTypes:= #[3]},9,_,_,none⟩) rfl (fun KK hK=> ?_) AllReadyH.nil);go_simp
    (go_at_call 59;first|(with_reducible refine(zAx x.off a2 E2.out R2.out (show St W0 _ K (.raw _ #[.int .u8 0] _::.raw wA _ _::L) by assumption)).mono ?_;rintro e wn ⟨rfl,h⟩;have cb:=zAa h;have hd:=h.drop)|(with_reducible refine(zAx x.off a2 E2.out R2.out (show St W0 _ K (.raw wA _ _::L) by assumption)).mono ?_;rintro e wn ⟨rfl,h⟩;have hal:=h.allocRaw #[.int .u8 0] 5;have cb:=zAa hal;have hd:=hal.drop))
    refine hK.out _ _ zq31 (fun hHeld=> ?_);clear hK KK
    try simp only[Act.put,sA,sB,sC]
    refine tQ 9 ⟨some 13,.binOp .add 9 (.tmp 9) (.tmp 12) 9,9,_,_,none⟩ ?_;simp only[Act.put,sA,sB,sC];refine wpAnyH_ready (rs:=[12]) (by kernel_rfl) (by simp) (AllReadyH.cons (o:=⟨some 16,.call {callee:=.value (.func 60),args:= #[.tmp 15],argTypes:= #[51]},9,_,_,none⟩) rfl (fun KK hK=> ?_) AllReadyH.nil);go_simp
    (go_at_call 60;first|(with_reducible refine(zAb x.key.null x.key.data a3 E3.out B3.out (show St W0 _ K (.raw _ #[.int .u8 0] _::.raw wA _ _::L) by assumption)).mono ?_;rintro e wn ⟨rfl,h⟩;have cb:=zAa h;have hd:=h.drop)|(with_reducible refine(zAb x.key.null x.key.data a3 E3.out B3.out (show St W0 _ K (.raw wA _ _::L) by assumption)).mono ?_;rintro e wn ⟨rfl,h⟩;have hal:=h.allocRaw #[.int .u8 0] 5;have cb:=zAa hal;have hd:=hal.drop))
    refine hK.out _ _ zq31 (fun hHeld=> ?_);clear hK KK
    try simp only[Act.put,sA,sB,sC]
    refine tQ 13 ⟨some 17,.binOp .add 9 (.tmp 13) (.tmp 16) 9,9,_,_,none⟩ ?_;simp only[Act.put,sA,sB,sC];refine wpAnyH_ready (rs:=[16]) (by kernel_rfl) (by simp) (AllReadyH.cons (o:=⟨some 20,.call {callee:=.value (.func 60),args:= #[.tmp 19],argTypes:= #[51]},9,_,_,none⟩) rfl (fun KK hK=> ?_) AllReadyH.nil);go_simp
    (go_at_call 60;first|(with_reducible refine(zAb x.val.null x.val.data a4 E4.out B4.out (show St W0 _ K (.raw _ #[.int .u8 0] _::.raw wA _ _::L) by assumption)).mono ?_;rintro e wn ⟨rfl,h⟩;have cb:=zAa h;have hd:=h.drop)|(with_reducible refine(zAb x.val.null x.val.data a4 E4.out B4.out (show St W0 _ K (.raw wA _ _::L) by assumption)).mono ?_;rintro e wn ⟨rfl,h⟩;have hal:=h.allocRaw #[.int .u8 0] 5;have cb:=zAa hal;have hd:=hal.drop))
    refine hK.out _ _ zq31 (fun hHeld=> ?_);clear hK KK
    try simp only[Act.put,sA,sB,sC]
    refine tQ 17 ⟨some 21,.binOp .add 9 (.tmp 17) (.tmp 20) 9,9,_,_,none⟩ ?_;simp only[Act.put,sA,sB,sC];refine wpAnyH_ready (rs:=[20]) (by kernel_rfl) (by simp) (AllReadyH.cons (o:=⟨some 24,.call {callee:=.value (.func 61),args:= #[.tmp 23],argTypes:= #[52]},9,_,_,none⟩) rfl (fun KK hK=> ?_) AllReadyH.nil);go_simp
    (go_at_call 61;first|(with_reducible refine(zAe v x.hdrs a5 E5.out B5.out HK.out (show St W0 _ K (.raw _ #[.int .u8 0] _::.raw wA _ _::L) by assumption)).mono ?_;rintro e wn ⟨rfl,h⟩;have cb:=zAa h;have hd:=h.drop)|(with_reducible refine(zAe v x.hdrs a5 E5.out B5.out HK.out (show St W0 _ K (.raw wA _ _::L) by assumption)).mono ?_;rintro e wn ⟨rfl,h⟩;have hal:=h.allocRaw #[.int .u8 0] 5;have cb:=zAa hal;have hd:=hal.drop))
    refine hK.out _ _ zq31 (fun hHeld=> ?_);clear hK KK
    try simp only[Act.put,sA,sB,sC]
   rotate_left
   focus
    go_simp
    (go_at_call 59;first|(with_reducible refine(zAx x.time a1 E1.out R1.out (show St W0 _ K (.raw _ #[.int .u8 0] _::.raw wA _ _::L) by assumption)).mono ?_;rintro e wn ⟨rfl,h⟩;have cb:=zAa h;have hd:=h.drop)|(with_reducible refine(zAx x.time a1 E1.out R1.out (show St W0 _ K (.raw wA _ _::L) by assumption)).mono ?_;rintro e wn ⟨rfl,h⟩;have hal:=h.allocRaw #[.int .u8 0] 5;have cb:=zAa hal;have hd:=hal.drop))
    refine hK.out _ _ zq31 (fun hHeld=> ?_);clear hK KK
    try simp only[Act.put,sA,sB,sC]
    refine wpAnyH_ready (rs:=[1,8]) (by kernel_rfl) (by simp) (AllReadyH.cons (o:=⟨some 5,.convert 57 9 (.tmp 4),9,_,_,none⟩) rfl (fun KK hK=> ?_) (AllReadyH.cons (o:=⟨some 12,.call {callee:=.value (.func 59),args:= #[.tmp 11],argTypes:= #[3]},9,_,_,none⟩) rfl (fun KK hK=> ?_) AllReadyH.nil))
    focus
     go_simp;refine hK.out _ _ zq31 (fun hHeld=> ?_);clear hK KK
     try simp only[Act.put,sA,sB,sC]
     refine tQ 5 ⟨some 9,.binOp .add 9 (.tmp 5) (.tmp 8) 9,9,_,_,none⟩ ?_;simp only[Act.put,sA,sB,sC];refine wpAnyH_ready (rs:=[8]) (by kernel_rfl) (by simp) (AllReadyH.cons (o:=⟨some 12,.call {callee:=.value (.func 59),args:= #[.tmp 11],argTypes:= #[3]},9,_,_,none⟩) rfl (fun KK hK=> ?_) AllReadyH.nil);go_simp
     (go_at_call 59;first|(with_reducible refine(zAx x.off a2 E2.out R2.out (show St W0 _ K (.raw _ #[.int .u8 0] _::.raw wA _ _::L) by assumption)).mono ?_;rintro e wn ⟨rfl,h⟩;have cb:=zAa h;have hd:=h.drop)|(with_reducible refine(zAx x.off a2 E2.out R2.out (show St W0 _ K (.raw wA _ _::L) by assumption)).mono ?_;rintro e wn ⟨rfl,h⟩;have hal:=h.allocRaw #[.int .u8 0] 5;have cb:=zAa hal;have hd:=hal.drop))
     refine hK.out _ _ zq31 (fun hHeld=> ?_);clear hK KK
     try simp only[Act.put,sA,sB,sC]
     refine tQ 9 ⟨some 13,.binOp .add 9 (.tmp 9) (.tmp 12) 9,9,_,_,none⟩ ?_;simp only[Act.put,sA,sB,sC];refine wpAnyH_ready (rs:=[12]) (by kernel_rfl) (by simp) (AllReadyH.cons (o:=⟨some 16,.call {callee:=.value (.func 60),args:= #[.tmp 15],argTypes:= #[51]},9,_,_,none⟩) rfl (fun KK hK=> ?_) AllReadyH.nil);go_simp
     (go_at_call 60;first|(with_reducible refine(zAb x.key.null x.key.data a3 E3.out B3.out (show St W0 _ K (.raw _ #[.int .u8 0] _::.raw wA _ _::L) by assumption)).mono ?_;rintro e wn ⟨rfl,h⟩;have cb:=zAa h;have hd:=h.drop)|(with_reducible refine(zAb x.key.null x.key.data a3 E3.out B3.out (show St W0 _ K (.raw wA _ _::L) by assumption)).mono ?_;rintro e wn ⟨rfl,h⟩;have hal:=h.allocRaw #[.int .u8 0] 5;have cb:=zAa hal;have hd:=hal.drop))
     refine hK.out _ _ zq31 (fun hHeld=> ?_);clear hK KK
     try simp only[Act.put,sA,sB,sC]
     refine tQ 13 ⟨some 17,.binOp .add 9 (.tmp 13) (.tmp 16) 9,9,_,_,none⟩ ?_;simp only[Act.put,sA,sB,sC];refine wpAnyH_ready (rs:=[16]) (by kernel_rfl) (by simp) (AllReadyH.cons (o:=⟨some 20,.call {callee:=.value (.func 60),args:= #[.tmp 19],argTypes:= #[51]},9,_,_,none⟩) rfl (fun KK hK=> ?_) AllReadyH.nil);go_simp
     (go_at_call 60;first|(with_reducible refine(zAb x.val.null x.val.data a4 E4.out B4.out (show St W0 _ K (.raw _ #[.int .u8 0] _::.raw wA _ _::L) by assumption)).mono ?_;rintro e wn ⟨rfl,h⟩;have cb:=zAa h;have hd:=h.drop)|(with_reducible refine(zAb x.val.null x.val.data a4 E4.out B4.out (show St W0 _ K (.raw wA _ _::L) by assumption)).mono ?_;rintro e wn ⟨rfl,h⟩;have hal:=h.allocRaw #[.int .u8 0] 5;have cb:=zAa hal;have hd:=hal.drop))
     refine hK.out _ _ zq31 (fun hHeld=> ?_);clear hK KK
     try simp only[Act.put,sA,sB,sC]
     refine tQ 17 ⟨some 21,.binOp .add 9 (.tmp 17) (.tmp 20) 9,9,_,_,none⟩ ?_;simp only[Act.put,sA,sB,sC];refine wpAnyH_ready (rs:=[20]) (by kernel_rfl) (by simp) (AllReadyH.cons (o:=⟨some 24,.call {callee:=.value (.func 61),args:= #[.tmp 23],argTypes:= #[52]},9,_,_,none⟩) rfl (fun KK hK=> ?_) AllReadyH.nil);go_simp
     (go_at_call 61;first|(with_reducible refine(zAe v x.hdrs a5 E5.out B5.out HK.out (show St W0 _ K (.raw _ #[.int .u8 0] _::.raw wA _ _::L) by assumption)).mono ?_;rintro e wn ⟨rfl,h⟩;have cb:=zAa h;have hd:=h.drop)|(with_reducible refine(zAe v x.hdrs a5 E5.out B5.out HK.out (show St W0 _ K (.raw wA _ _::L) by assumption)).mono ?_;rintro e wn ⟨rfl,h⟩;have hal:=h.allocRaw #[.int .u8 0] 5;have cb:=zAa hal;have hd:=hal.drop))
     refine hK.out _ _ zq31 (fun hHeld=> ?_);clear hK KK
     try simp only[Act.put,sA,sB,sC]
    rotate_left
    focus
     go_simp
     (go_at_call 59;first|(with_reducible refine(zAx x.off a2 E2.out R2.out (show St W0 _ K (.raw _ #[.int .u8 0] _::.raw wA _ _::L) by assumption)).mono ?_;rintro e wn ⟨rfl,h⟩;have cb:=zAa h;have hd:=h.drop)|(with_reducible refine(zAx x.off a2 E2.out R2.out (show St W0 _ K (.raw wA _ _::L) by assumption)).mono ?_;rintro e wn ⟨rfl,h⟩;have hal:=h.allocRaw #[.int .u8 0] 5;have cb:=zAa hal;have hd:=hal.drop))
     refine hK.out _ _ zq31 (fun hHeld=> ?_);clear hK KK
     try simp only[Act.put,sA,sB,sC]
     refine wpAnyH_ready (rs:=[1,12]) (by kernel_rfl) (by simp) (AllReadyH.cons (o:=⟨some 5,.convert 57 9 (.tmp 4),9,_,_,none⟩) rfl (fun KK hK=> ?_) (AllReadyH.cons (o:=⟨some 16,.call {callee:=.value (.func 60),args:= #[.tmp 15],argTypes:= #[51]},9,_,_,none⟩) rfl (fun KK hK=> ?_) AllReadyH.nil))
     focus
      go_simp;refine hK.out _ _ zq31 (fun hHeld=> ?_);clear hK KK
      try simp only[Act.put,sA,sB,sC]
      refine tQ 5 ⟨some 9,.binOp .add 9 (.tmp 5) (.tmp 8) 9,9,_,_,none⟩ ?_;simp only[Act.put,sA,sB,sC];refine tQ 9 ⟨some 13,.binOp .add 9 (.tmp 9) (.tmp 12) 9,9,_,_,none⟩ ?_;simp only[Act.put,sA,sB,sC];refine wpAnyH_ready (rs:=[12]) (by kernel_rfl) (by simp) (AllReadyH.cons (o:=⟨some 16,.call {callee:=.value (.func 60),args:= #[.tmp 15],argTypes:= #[51]},9,_,_,none⟩) rfl (fun KK hK=> ?_) AllReadyH.nil);go_simp
      (go_at_call 60;first|(with_reducible refine(zAb x.key.null x.key.data a3 E3.out B3.out (show St W0 _ K (.raw _ #[.int .u8 0] _::.raw wA _ _::L) by assumption)).mono ?_;rintro e wn ⟨rfl,h⟩;have cb:=zAa h;have hd:=h.drop)|(with_reducible refine(zAb x.key.null x.key.data a3 E3.out B3.out (show St W0 _ K (.raw wA _ _::L) by assumption)).mono ?_;rintro e wn ⟨rfl,h⟩;have hal:=h.allocRaw #[.int .u8 0] 5;have cb:=zAa hal;have hd:=hal.drop))
      refine hK.out _ _ zq31 (fun hHeld=> ?_);clear hK KK
      try simp only[Act.put,sA,sB,sC]
      refine tQ 13 ⟨some 17,.binOp .add 9 (.tmp 13) (.tmp 16) 9,9,_,_,none⟩ ?_;simp only[Act.put,sA,sB,sC];refine wpAnyH_ready (rs:=[16]) (by kernel_rfl) (by simp) (AllReadyH.cons (o:=⟨some 20,.call {callee:=.value (.func 60),args:= #[.tmp 19],argTypes:= #[51]},9,_,_,none⟩) rfl (fun KK hK=> ?_) AllReadyH.nil);go_simp
      (go_at_call 60;first|(with_reducible refine(zAb x.val.null x.val.data a4 E4.out B4.out (show St W0 _ K (.raw _ #[.int .u8 0] _::.raw wA _ _::L) by assumption)).mono ?_;rintro e wn ⟨rfl,h⟩;have cb:=zAa h;have hd:=h.drop)|(with_reducible refine(zAb x.val.null x.val.data a4 E4.out B4.out (show St W0 _ K (.raw wA _ _::L) by assumption)).mono ?_;rintro e wn ⟨rfl,h⟩;have hal:=h.allocRaw #[.int .u8 0] 5;have cb:=zAa hal;have hd:=hal.drop))
      refine hK.out _ _ zq31 (fun hHeld=> ?_);clear hK KK
      try simp only[Act.put,sA,sB,sC]
      refine tQ 17 ⟨some 21,.binOp .add 9 (.tmp 17) (.tmp 20) 9,9,_,_,none⟩ ?_;simp only[Act.put,sA,sB,sC];refine wpAnyH_ready (rs:=[20]) (by kernel_rfl) (by simp) (AllReadyH.cons (o:=⟨some 24,.call {callee:=.value (.func 61),args:= #[.tmp 23],argTypes:= #[52]},9,_,_,none⟩) rfl (fun KK hK=> ?_) AllReadyH.nil);go_simp
      (go_at_call 61;first|(with_reducible refine(zAe v x.hdrs a5 E5.out B5.out HK.out (show St W0 _ K (.raw _ #[.int .u8 0] _::.raw wA _ _::L) by assumption)).mono ?_;rintro e wn ⟨rfl,h⟩;have cb:=zAa h;have hd:=h.drop)|(with_reducible refine(zAe v x.hdrs a5 E5.out B5.out HK.out (show St W0 _ K (.raw wA _ _::L) by assumption)).mono ?_;rintro e wn ⟨rfl,h⟩;have hal:=h.allocRaw #[.int .u8 0] 5;have cb:=zAa hal;have hd:=hal.drop))
      refine hK.out _ _ zq31 (fun hHeld=> ?_);clear hK KK
      try simp only[Act.put,sA,sB,sC]
     rotate_left
     focus
      go_simp
      (go_at_call 60;first|(with_reducible refine(zAb x.key.null x.key.data a3 E3.out B3.out (show St W0 _ K (.raw _ #[.int .u8 0] _::.raw wA _ _::L) by assumption)).mono ?_;rintro e wn ⟨rfl,h⟩;have cb:=zAa h;have hd:=h.drop)|(with_reducible refine(zAb x.key.null x.key.data a3 E3.out B3.out (show St W0 _ K (.raw wA _ _::L) by assumption)).mono ?_;rintro e wn ⟨rfl,h⟩;have hal:=h.allocRaw #[.int .u8 0] 5;have cb:=zAa hal;have hd:=hal.drop))
      refine hK.out _ _ zq31 (fun hHeld=> ?_);clear hK KK
      try simp only[Act.put,sA,sB,sC]
      refine wpAnyH_ready (rs:=[1,16]) (by kernel_rfl) (by simp) (AllReadyH.cons (o:=⟨some 5,.convert 57 9 (.tmp 4),9,_,_,none⟩) rfl (fun KK hK=> ?_) (AllReadyH.cons (o:=⟨some 20,.call {callee:=.value (.func 60),args:= #[.tmp 19],argTypes:= #[51]},9,_,_,none⟩) rfl (fun KK hK=> ?_) AllReadyH.nil))
      focus
       go_simp;refine hK.out _ _ zq31 (fun hHeld=> ?_);clear hK KK
       try simp only[Act.put,sA,sB,sC]
       refine tQ 5 ⟨some 9,.binOp .add 9 (.tmp 5) (.tmp 8) 9,9,_,_,none⟩ ?_;simp only[Act.put,sA,sB,sC];refine tQ 9 ⟨some 13,.binOp .add 9 (.tmp 9) (.tmp 12) 9,9,_,_,none⟩ ?_;simp only[Act.put,sA,sB,sC];refine tQ 13 ⟨some 17,.binOp .add 9 (.tmp 13) (.tmp 16) 9,9,_,_,none⟩ ?_;simp only[Act.put,sA,sB,sC];refine wpAnyH_ready (rs:=[16]) (by kernel_rfl) (by simp) (AllReadyH.cons (o:=⟨some 20,.call {callee:=.value (.func 60),args:= #[.tmp 19],argTypes:= #[51]},9,_,_,none⟩) rfl (fun KK hK=> ?_) AllReadyH.nil);go_simp
       (go_at_call 60;first|(with_reducible refine(zAb x.val.null x.val.data a4 E4.out B4.out (show St W0 _ K (.raw _ #[.int .u8 0] _::.raw wA _ _::L) by assumption)).mono ?_;rintro e wn ⟨rfl,h⟩;have cb:=zAa h;have hd:=h.drop)|(with_reducible refine(zAb x.val.null x.val.data a4 E4.out B4.out (show St W0 _ K (.raw wA _ _::L) by assumption)).mono ?_;rintro e wn ⟨rfl,h⟩;have hal:=h.allocRaw #[.int .u8 0] 5;have cb:=zAa hal;have hd:=hal.drop))
       refine hK.out _ _ zq31 (fun hHeld=> ?_);clear hK KK
       try simp only[Act.put,sA,sB,sC]
       refine tQ 17 ⟨some 21,.binOp .add 9 (.tmp 17) (.tmp 20) 9,9,_,_,none⟩ ?_;simp only[Act.put,sA,sB,sC];refine wpAnyH_ready (rs:=[20]) (by kernel_rfl) (by simp) (AllReadyH.cons (o:=⟨some 24,.call {callee:=.value (.func 61),args:= #[.tmp 23],argTypes:= #[52]},9,_,_,none⟩) rfl (fun KK hK=> ?_) AllReadyH.nil);go_simp
       (go_at_call 61;first|(with_reducible refine(zAe v x.hdrs a5 E5.out B5.out HK.out (show St W0 _ K (.raw _ #[.int .u8 0] _::.raw wA _ _::L) by assumption)).mono ?_;rintro e wn ⟨rfl,h⟩;have cb:=zAa h;have hd:=h.drop)|(with_reducible refine(zAe v x.hdrs a5 E5.out B5.out HK.out (show St W0 _ K (.raw wA _ _::L) by assumption)).mono ?_;rintro e wn ⟨rfl,h⟩;have hal:=h.allocRaw #[.int .u8 0] 5;have cb:=zAa hal;have hd:=hal.drop))
       refine hK.out _ _ zq31 (fun hHeld=> ?_);clear hK KK
       try simp only[Act.put,sA,sB,sC]
      rotate_left
      focus
       go_simp
       (go_at_call 60;first|(with_reducible refine(zAb x.val.null x.val.data a4 E4.out B4.out (show St W0 _ K (.raw _ #[.int .u8 0] _::.raw wA _ _::L) by assumption)).mono ?_;rintro e wn ⟨rfl,h⟩;have cb:=zAa h;have hd:=h.drop)|(with_reducible refine(zAb x.val.null x.val.data a4 E4.out B4.out (show St W0 _ K (.raw wA _ _::L) by assumption)).mono ?_;rintro e wn ⟨rfl,h⟩;have hal:=h.allocRaw #[.int .u8 0] 5;have cb:=zAa hal;have hd:=hal.drop))
       refine hK.out _ _ zq31 (fun hHeld=> ?_);clear hK KK
       try simp only[Act.put,sA,sB,sC]
       refine wpAnyH_ready (rs:=[1,20]) (by kernel_rfl) (by simp) (AllReadyH.cons (o:=⟨some 5,.convert 57 9 (.tmp 4),9,_,_,none⟩) rfl (fun KK hK=> ?_) (AllReadyH.cons (o:=⟨some 24,.call {callee:=.value (.func 61),args:= #[.tmp 23],argTypes:= #[52]},9,_,_,none⟩) rfl (fun KK hK=> ?_) AllReadyH.nil))
       focus
        go_simp;refine hK.out _ _ zq31 (fun hHeld=> ?_);clear hK KK
        try simp only[Act.put,sA,sB,sC]
        refine tQ 5 ⟨some 9,.binOp .add 9 (.tmp 5) (.tmp 8) 9,9,_,_,none⟩ ?_;simp only[Act.put,sA,sB,sC];refine tQ 9 ⟨some 13,.binOp .add 9 (.tmp 9) (.tmp 12) 9,9,_,_,none⟩ ?_;simp only[Act.put,sA,sB,sC];refine tQ 13 ⟨some 17,.binOp .add 9 (.tmp 13) (.tmp 16) 9,9,_,_,none⟩ ?_;simp only[Act.put,sA,sB,sC];refine tQ 17 ⟨some 21,.binOp .add 9 (.tmp 17) (.tmp 20) 9,9,_,_,none⟩ ?_;simp only[Act.put,sA,sB,sC];refine wpAnyH_ready (rs:=[20]) (by kernel_rfl) (by simp) (AllReadyH.cons (o:=⟨some 24,.call {callee:=.value (.func 61),args:= #[.tmp 23],argTypes:= #[52]},9,_,_,none⟩) rfl (fun KK hK=> ?_) AllReadyH.nil);go_simp
        (go_at_call 61;first|(with_reducible refine(zAe v x.hdrs a5 E5.out B5.out HK.out (show St W0 _ K (.raw _ #[.int .u8 0] _::.raw wA _ _::L) by assumption)).mono ?_;rintro e wn ⟨rfl,h⟩;have cb:=zAa h;have hd:=h.drop)|(with_reducible refine(zAe v x.hdrs a5 E5.out B5.out HK.out (show St W0 _ K (.raw wA _ _::L) by assumption)).mono ?_;rintro e wn ⟨rfl,h⟩;have hal:=h.allocRaw #[.int .u8 0] 5;have cb:=zAa hal;have hd:=hal.drop))
        refine hK.out _ _ zq31 (fun hHeld=> ?_);clear hK KK
        try simp only[Act.put,sA,sB,sC]
       rotate_left
       focus
        go_simp
        (go_at_call 61;first|(with_reducible refine(zAe v x.hdrs a5 E5.out B5.out HK.out (show St W0 _ K (.raw _ #[.int .u8 0] _::.raw wA _ _::L) by assumption)).mono ?_;rintro e wn ⟨rfl,h⟩;have cb:=zAa h;have hd:=h.drop)|(with_reducible refine(zAe v x.hdrs a5 E5.out B5.out HK.out (show St W0 _ K (.raw wA _ _::L) by assumption)).mono ?_;rintro e wn ⟨rfl,h⟩;have hal:=h.allocRaw #[.int .u8 0] 5;have cb:=zAa hal;have hd:=hal.drop))
        refine hK.out _ _ zq31 (fun hHeld=> ?_);clear hK KK
        try simp only[Act.put,sA,sB,sC]
        refine wpAnyH_ready (rs:=[1]) (by kernel_rfl) (by simp) (AllReadyH.cons (o:=⟨some 5,.convert 57 9 (.tmp 4),9,_,_,none⟩) rfl (fun KK hK=> ?_) AllReadyH.nil);go_simp;refine hK.out _ _ zq31 (fun hHeld=> ?_);clear hK KK
        try simp only[Act.put,sA,sB,sC]
        refine tQ 5 ⟨some 9,.binOp .add 9 (.tmp 5) (.tmp 8) 9,9,_,_,none⟩ ?_;simp only[Act.put,sA,sB,sC];refine tQ 9 ⟨some 13,.binOp .add 9 (.tmp 9) (.tmp 12) 9,9,_,_,none⟩ ?_;simp only[Act.put,sA,sB,sC];refine tQ 13 ⟨some 17,.binOp .add 9 (.tmp 13) (.tmp 16) 9,9,_,_,none⟩ ?_;simp only[Act.put,sA,sB,sC];refine tQ 17 ⟨some 21,.binOp .add 9 (.tmp 17) (.tmp 20) 9,9,_,_,none⟩ ?_;simp only[Act.put,sA,sB,sC]
  rotate_left 6
  focus
   go_simp
   (go_at_call 59;first|(with_reducible refine(zAx x.time a1 E1.out R1.out (show St W0 _ K (.raw _ #[.int .u8 0] _::.raw wA _ _::L) by assumption)).mono ?_;rintro e wn ⟨rfl,h⟩;have cb:=zAa h;have hd:=h.drop)|(with_reducible refine(zAx x.time a1 E1.out R1.out (show St W0 _ K (.raw wA _ _::L) by assumption)).mono ?_;rintro e wn ⟨rfl,h⟩;have hal:=h.allocRaw #[.int .u8 0] 5;have cb:=zAa hal;have hd:=hal.drop))
   refine hK.out _ _ zq31 (fun hHeld=> ?_);clear hK KK
   try simp only[Act.put,sA,sB,sC]
   refine wpAnyH_ready (rs:=[0,8]) (by kernel_rfl) (by simp) (AllReadyH.cons (o:=⟨some 4,.buildSlice 57 1 #[(0,.const (Value.int IntKind.u8 0))],57,_,_,none⟩) rfl (fun KK hK=> ?_) (AllReadyH.cons (o:=⟨some 12,.call {callee:=.value (.func 59),args:= #[.tmp 11],argTypes:= #[3]},9,_,_,none⟩) rfl (fun KK hK=> ?_) AllReadyH.nil))
   focus
    go_simp;refine hK.out _ _ zq31 (fun hHeld=> ?_);clear hK KK
    try simp only[Act.put,sA,sB,sC]
    refine wpAnyH_ready (rs:=[1,8]) (by kernel_rfl) (by simp) (AllReadyH.cons (o:=⟨some 5,.convert 57 9 (.tmp 4),9,_,_,none⟩) rfl (fun KK hK=> ?_) (AllReadyH.cons (o:=⟨some 12,.call {callee:=.value (.func 59),args:= #[.tmp 11],argTypes:= #[3]},9,_,_,none⟩) rfl (fun KK hK=> ?_) AllReadyH.nil))
    focus
     go_simp;refine hK.out _ _ zq31 (fun hHeld=> ?_);clear hK KK
     try simp only[Act.put,sA,sB,sC]
     refine tQ 5 ⟨some 9,.binOp .add 9 (.tmp 5) (.tmp 8) 9,9,_,_,none⟩ ?_;simp only[Act.put,sA,sB,sC];refine wpAnyH_ready (rs:=[8]) (by kernel_rfl) (by simp) (AllReadyH.cons (o:=⟨some 12,.call {callee:=.value (.func 59),args:= #[.tmp 11],argTypes:= #[3]},9,_,_,none⟩) rfl (fun KK hK=> ?_) AllReadyH.nil);go_simp
     (go_at_call 59;first|(with_reducible refine(zAx x.off a2 E2.out R2.out (show St W0 _ K (.raw _ #[.int .u8 0] _::.raw wA _ _::L) by assumption)).mono ?_;rintro e wn ⟨rfl,h⟩;have cb:=zAa h;have hd:=h.drop)|(with_reducible refine(zAx x.off a2 E2.out R2.out (show St W0 _ K (.raw wA _ _::L) by assumption)).mono ?_;rintro e wn ⟨rfl,h⟩;have hal:=h.allocRaw #[.int .u8 0] 5;have cb:=zAa hal;have hd:=hal.drop))
     refine hK.out _ _ zq31 (fun hHeld=> ?_);clear hK KK
     try simp only[Act.put,sA,sB,sC]
     refine tQ 9 ⟨some 13,.binOp .add 9 (.tmp 9) (.tmp 12) 9,9,_,_,none⟩ ?_;simp only[Act.put,sA,sB,sC];refine wpAnyH_ready (rs:=[12]) (by kernel_rfl) (by simp) (AllReadyH.cons (o:=⟨some 16,.call {callee:=.value (.func 60),args:= #[.tmp 15],argTypes:= #[51]},9,_,_,none⟩) rfl (fun KK hK=> ?_) AllReadyH.nil);go_simp
     (go_at_call 60;first|(with_reducible refine(zAb x.key.null x.key.data a3 E3.out B3.out (show St W0 _ K (.raw _ #[.int .u8 0] _::.raw wA _ _::L) by assumption)).mono ?_;rintro e wn ⟨rfl,h⟩;have cb:=zAa h;have hd:=h.drop)|(with_reducible refine(zAb x.key.null x.key.data a3 E3.out B3.out (show St W0 _ K (.raw wA _ _::L) by assumption)).mono ?_;rintro e wn ⟨rfl,h⟩;have hal:=h.allocRaw #[.int .u8 0] 5;have cb:=zAa hal;have hd:=hal.drop))
     refine hK.out _ _ zq31 (fun hHeld=> ?_);clear hK KK
     try simp only[Act.put,sA,sB,sC]
     refine tQ 13 ⟨some 17,.binOp .add 9 (.tmp 13) (.tmp 16) 9,9,_,_,none⟩ ?_;simp only[Act.put,sA,sB,sC];refine wpAnyH_ready (rs:=[16]) (by kernel_rfl) (by simp) (AllReadyH.cons (o:=⟨some 20,.call {callee:=.value (.func 60),args:= #[.tmp 19],argTypes:= #[51]},9,_,_,none⟩) rfl (fun KK hK=> ?_) AllReadyH.nil);go_simp
     (go_at_call 60;first|(with_reducible refine(zAb x.val.null x.val.data a4 E4.out B4.out (show St W0 _ K (.raw _ #[.int .u8 0] _::.raw wA _ _::L) by assumption)).mono ?_;rintro e wn ⟨rfl,h⟩;have cb:=zAa h;have hd:=h.drop)|(with_reducible refine(zAb x.val.null x.val.data a4 E4.out B4.out (show St W0 _ K (.raw wA _ _::L) by assumption)).mono ?_;rintro e wn ⟨rfl,h⟩;have hal:=h.allocRaw #[.int .u8 0] 5;have cb:=zAa hal;have hd:=hal.drop))
     refine hK.out _ _ zq31 (fun hHeld=> ?_);clear hK KK
     try simp only[Act.put,sA,sB,sC]
     refine tQ 17 ⟨some 21,.binOp .add 9 (.tmp 17) (.tmp 20) 9,9,_,_,none⟩ ?_;simp only[Act.put,sA,sB,sC];refine wpAnyH_ready (rs:=[20]) (by kernel_rfl) (by simp) (AllReadyH.cons (o:=⟨some 24,.call {callee:=.value (.func 61),args:= #[.tmp 23],argTypes:= #[52]},9,_,_,none⟩) rfl (fun KK hK=> ?_) AllReadyH.nil);go_simp
     (go_at_call 61;first|(with_reducible refine(zAe v x.hdrs a5 E5.out B5.out HK.out (show St W0 _ K (.raw _ #[.int .u8 0] _::.raw wA _ _::L) by assumption)).mono ?_;rintro e wn ⟨rfl,h⟩;have cb:=zAa h;have hd:=h.drop)|(with_reducible refine(zAe v x.hdrs a5 E5.out B5.out HK.out (show St W0 _ K (.raw wA _ _::L) by assumption)).mono ?_;rintro e wn ⟨rfl,h⟩;have hal:=h.allocRaw #[.int .u8 0] 5;have cb:=zAa hal;have hd:=hal.drop))
     refine hK.out _ _ zq31 (fun hHeld=> ?_);clear hK KK
     try simp only[Act.put,sA,sB,sC]
    rotate_left
    focus
     go_simp
     (go_at_call 59;first|(with_reducible refine(zAx x.off a2 E2.out R2.out (show St W0 _ K (.raw _ #[.int .u8 0] _::.raw wA _ _::L) by assumption)).mono ?_;rintro e wn ⟨rfl,h⟩;have cb:=zAa h;have hd:=h.drop)|(with_reducible refine(zAx x.off a2 E2.out R2.out (show St W0 _ K (.raw wA _ _::L) by assumption)).mono ?_;rintro e wn ⟨rfl,h⟩;have hal:=h.allocRaw #[.int .u8 0] 5;have cb:=zAa hal;have hd:=hal.drop))
     refine hK.out _ _ zq31 (fun hHeld=> ?_);clear hK KK
     try simp only[Act.put,sA,sB,sC]
     refine wpAnyH_ready (rs:=[1,12]) (by kernel_rfl) (by simp) (AllReadyH.cons (o:=⟨some 5,.convert 57 9 (.tmp 4),9,_,_,none⟩) rfl (fun KK hK=> ?_) (AllReadyH.cons (o:=⟨some 16,.call {callee:=.value (.func 60),args:= #[.tmp 15],argTypes:= #[51]},9,_,_,none⟩) rfl (fun KK hK=> ?_) AllReadyH.nil))
     focus
      go_simp;refine hK.out _ _ zq31 (fun hHeld=> ?_);clear hK KK
      try simp only[Act.put,sA,sB,sC]
      refine tQ 5 ⟨some 9,.binOp .add 9 (.tmp 5) (.tmp 8) 9,9,_,_,none⟩ ?_;simp only[Act.put,sA,sB,sC];refine tQ 9 ⟨some 13,.binOp .add 9 (.tmp 9) (.tmp 12) 9,9,_,_,none⟩ ?_;simp only[Act.put,sA,sB,sC];refine wpAnyH_ready (rs:=[12]) (by kernel_rfl) (by simp) (AllReadyH.cons (o:=⟨some 16,.call {callee:=.value (.func 60),args:= #[.tmp 15],argTypes:= #[51]},9,_,_,none⟩) rfl (fun KK hK=> ?_) AllReadyH.nil);go_simp
      (go_at_call 60;first|(with_reducible refine(zAb x.key.null x.key.data a3 E3.out B3.out (show St W0 _ K (.raw _ #[.int .u8 0] _::.raw wA _ _::L) by assumption)).mono ?_;rintro e wn ⟨rfl,h⟩;have cb:=zAa h;have hd:=h.drop)|(with_reducible refine(zAb x.key.null x.key.data a3 E3.out B3.out (show St W0 _ K (.raw wA _ _::L) by assumption)).mono ?_;rintro e wn ⟨rfl,h⟩;have hal:=h.allocRaw #[.int .u8 0] 5;have cb:=zAa hal;have hd:=hal.drop))
      refine hK.out _ _ zq31 (fun hHeld=> ?_);clear hK KK
      try simp only[Act.put,sA,sB,sC]
      refine tQ 13 ⟨some 17,.binOp .add 9 (.tmp 13) (.tmp 16) 9,9,_,_,none⟩ ?_;simp only[Act.put,sA,sB,sC];refine wpAnyH_ready (rs:=[16]) (by kernel_rfl) (by simp) (AllReadyH.cons (o:=⟨some 20,.call {callee:=.value (.func 60),args:= #[.tmp 19],argTypes:= #[51]},9,_,_,none⟩) rfl (fun KK hK=> ?_) AllReadyH.nil);go_simp
      (go_at_call 60;first|(with_reducible refine(zAb x.val.null x.val.data a4 E4.out B4.out (show St W0 _ K (.raw _ #[.int .u8 0] _::.raw wA _ _::L) by assumption)).mono ?_;rintro e wn ⟨rfl,h⟩;have cb:=zAa h;have hd:=h.drop)|(with_reducible refine(zAb x.val.null x.val.data a4 E4.out B4.out (show St W0 _ K (.raw wA _ _::L) by assumption)).mono ?_;rintro e wn ⟨rfl,h⟩;have hal:=h.allocRaw #[.int .u8 0] 5;have cb:=zAa hal;have hd:=hal.drop))
      refine hK.out _ _ zq31 (fun hHeld=> ?_);clear hK KK
      try simp only[Act.put,sA,sB,sC]
      refine tQ 17 ⟨some 21,.binOp .add 9 (.tmp 17) (.tmp 20) 9,9,_,_,none⟩ ?_;simp only[Act.put,sA,sB,sC];refine wpAnyH_ready (rs:=[20]) (by kernel_rfl) (by simp) (AllReadyH.cons (o:=⟨some 24,.call {callee:=.value (.func 61),args:= #[.tmp 23],argTypes:= #[52]},9,_,_,none⟩) rfl (fun KK hK=> ?_) AllReadyH.nil);go_simp
      (go_at_call 61;first|(with_reducible refine(zAe v x.hdrs a5 E5.out B5.out HK.out (show St W0 _ K (.raw _ #[.int .u8 0] _::.raw wA _ _::L) by assumption)).mono ?_;rintro e wn ⟨rfl,h⟩;have cb:=zAa h;have hd:=h.drop)|(with_reducible refine(zAe v x.hdrs a5 E5.out B5.out HK.out (show St W0 _ K (.raw wA _ _::L) by assumption)).mono ?_;rintro e wn ⟨rfl,h⟩;have hal:=h.allocRaw #[.int .u8 0] 5;have cb:=zAa hal;have hd:=hal.drop))
      refine hK.out _ _ zq31 (fun hHeld=> ?_);clear hK KK
      try simp only[Act.put,sA,sB,sC]
     rotate_left
     focus
      go_simp
      (go_at_call 60;first|(with_reducible refine(zAb x.key.null x.key.data a3 E3.out B3.out (show St W0 _ K (.raw _ #[.int .u8 0] _::.raw wA _ _::L) by assumption)).mono ?_;rintro e wn ⟨rfl,h⟩;have cb:=zAa h;have hd:=h.drop)|(with_reducible refine(zAb x.key.null x.key.data a3 E3.out B3.out (show St W0 _ K (.raw wA _ _::L) by assumption)).mono ?_;rintro e wn ⟨rfl,h⟩;have hal:=h.allocRaw #[.int .u8 0] 5;have cb:=zAa hal;have hd:=hal.drop))
      refine hK.out _ _ zq31 (fun hHeld=> ?_);clear hK KK
      try simp only[Act.put,sA,sB,sC]
      refine wpAnyH_ready (rs:=[1,16]) (by kernel_rfl) (by simp) (AllReadyH.cons (o:=⟨some 5,.convert 57 9 (.tmp 4),9,_,_,none⟩) rfl (fun KK hK=> ?_) (AllReadyH.cons (o:=⟨some 20,.call {callee:=.value (.func 60),args:= #[.tmp 19],argTypes:= #[51]},9,_,_,none⟩) rfl (fun KK hK=> ?_) AllReadyH.nil))
      focus
       go_simp;refine hK.out _ _ zq31 (fun hHeld=> ?_);clear hK KK
       try simp only[Act.put,sA,sB,sC]
       refine tQ 5 ⟨some 9,.binOp .add 9 (.tmp 5) (.tmp 8) 9,9,_,_,none⟩ ?_;simp only[Act.put,sA,sB,sC];refine tQ 9 ⟨some 13,.binOp .add 9 (.tmp 9) (.tmp 12) 9,9,_,_,none⟩ ?_;simp only[Act.put,sA,sB,sC];refine tQ 13 ⟨some 17,.binOp .add 9 (.tmp 13) (.tmp 16) 9,9,_,_,none⟩ ?_;simp only[Act.put,sA,sB,sC];refine wpAnyH_ready (rs:=[16]) (by kernel_rfl) (by simp) (AllReadyH.cons (o:=⟨some 20,.call {callee:=.value (.func 60),args:= #[.tmp 19],argTypes:= #[51]},9,_,_,none⟩) rfl (fun KK hK=> ?_) AllReadyH.nil);go_simp
       (go_at_call 60;first|(with_reducible refine(zAb x.val.null x.val.data a4 E4.out B4.out (show St W0 _ K (.raw _ #[.int .u8 0] _::.raw wA _ _::L) by assumption)).mono ?_;rintro e wn ⟨rfl,h⟩;have cb:=zAa h;have hd:=h.drop)|(with_reducible refine(zAb x.val.null x.val.data a4 E4.out B4.out (show St W0 _ K (.raw wA _ _::L) by assumption)).mono ?_;rintro e wn ⟨rfl,h⟩;have hal:=h.allocRaw #[.int .u8 0] 5;have cb:=zAa hal;have hd:=hal.drop))
       refine hK.out _ _ zq31 (fun hHeld=> ?_);clear hK KK
       try simp only[Act.put,sA,sB,sC]
       refine tQ 17 ⟨some 21,.binOp .add 9 (.tmp 17) (.tmp 20) 9,9,_,_,none⟩ ?_;simp only[Act.put,sA,sB,sC];refine wpAnyH_ready (rs:=[20]) (by kernel_rfl) (by simp) (AllReadyH.cons (o:=⟨some 24,.call {callee:=.value (.func 61),args:= #[.tmp 23],argTypes:= #[52]},9,_,_,none⟩) rfl (fun KK hK=> ?_) AllReadyH.nil);go_simp
       (go_at_call 61;first|(with_reducible refine(zAe v x.hdrs a5 E5.out B5.out HK.out (show St W0 _ K (.raw _ #[.int .u8 0] _::.raw wA _ _::L) by assumption)).mono ?_;rintro e wn ⟨rfl,h⟩;have cb:=zAa h;have hd:=h.drop)|(with_reducible refine(zAe v x.hdrs a5 E5.out B5.out HK.out (show St W0 _ K (.raw wA _ _::L) by assumption)).mono ?_;rintro e wn ⟨rfl,h⟩;have hal:=h.allocRaw #[.int .u8 0] 5;have cb:=zAa hal;have hd:=hal.drop))
       refine hK.out _ _ zq31 (fun hHeld=> ?_);clear hK KK
       try simp only[Act.put,sA,sB,sC]
      rotate_left
      focus
       go_simp
       (go_at_call 60;first|(with_reducible refine(zAb x.val.null x.val.data a4 E4.out B4.out (show St W0 _ K (.raw _ #[.int .u8 0] _::.raw wA _ _::L) by assumption)).mono ?_;rintro e wn ⟨rfl,h⟩;have cb:=zAa h;have hd:=h.drop)|(with_reducible refine(zAb x.val.null x.val.data a4 E4.out B4.out (show St W0 _ K (.raw wA _ _::L) by assumption)).mono ?_;rintro e wn ⟨rfl,h⟩;have hal:=h.allocRaw #[.int .u8 0] 5;have cb:=zAa hal;have hd:=hal.drop))
       refine hK.out _ _ zq31 (fun hHeld=> ?_);clear hK KK
       try simp only[Act.put,sA,sB,sC]
       refine wpAnyH_ready (rs:=[1,20]) (by kernel_rfl) (by simp) (AllReadyH.cons (o:=⟨some 5,.convert 57 9 (.tmp 4),9,_,_,none⟩) rfl (fun KK hK=> ?_) (AllReadyH.cons (o:=⟨some 24,.call {callee:=.value (.func 61),args:= #[.tmp 23],argTypes:= #[52]},9,_,_,none⟩) rfl (fun KK hK=> ?_) AllReadyH.nil))
       focus
        go_simp;refine hK.out _ _ zq31 (fun hHeld=> ?_);clear hK KK
        try simp only[Act.put,sA,sB,sC]
        refine tQ 5 ⟨some 9,.binOp .add 9 (.tmp 5) (.tmp 8) 9,9,_,_,none⟩ ?_;simp only[Act.put,sA,sB,sC];refine tQ 9 ⟨some 13,.binOp .add 9 (.tmp 9) (.tmp 12) 9,9,_,_,none⟩ ?_;simp only[Act.put,sA,sB,sC];refine tQ 13 ⟨some 17,.binOp .add 9 (.tmp 13) (.tmp 16) 9,9,_,_,none⟩ ?_;simp only[Act.put,sA,sB,sC];refine tQ 17 ⟨some 21,.binOp .add 9 (.tmp 17) (.tmp 20) 9,9,_,_,none⟩ ?_;simp only[Act.put,sA,sB,sC];refine wpAnyH_ready (rs:=[20]) (by kernel_rfl) (by simp) (AllReadyH.cons (o:=⟨some 24,.call {callee:=.value (.func 61),args:= #[.tmp 23],argTypes:= #[52]},9,_,_,none⟩) rfl (fun KK hK=> ?_) AllReadyH.nil);go_simp
        (go_at_call 61;first|(with_reducible refine(zAe v x.hdrs a5 E5.out B5.out HK.out (show St W0 _ K (.raw _ #[.int .u8 0] _::.raw wA _ _::L) by assumption)).mono ?_;rintro e wn ⟨rfl,h⟩;have cb:=zAa h;have hd:=h.drop)|(with_reducible refine(zAe v x.hdrs a5 E5.out B5.out HK.out (show St W0 _ K (.raw wA _ _::L) by assumption)).mono ?_;rintro e wn ⟨rfl,h⟩;have hal:=h.allocRaw #[.int .u8 0] 5;have cb:=zAa hal;have hd:=hal.drop))
        refine hK.out _ _ zq31 (fun hHeld=> ?_);clear hK KK
        try simp only[Act.put,sA,sB,sC]
       rotate_left
       focus
        go_simp
        (go_at_call 61;first|(with_reducible refine(zAe v x.hdrs a5 E5.out B5.out HK.out (show St W0 _ K (.raw _ #[.int .u8 0] _::.raw wA _ _::L) by assumption)).mono ?_;rintro e wn ⟨rfl,h⟩;have cb:=zAa h;have hd:=h.drop)|(with_reducible refine(zAe v x.hdrs a5 E5.out B5.out HK.out (show St W0 _ K (.raw wA _ _::L) by assumption)).mono ?_;rintro e wn ⟨rfl,h⟩;have hal:=h.allocRaw #[.int .u8 0] 5;have cb:=zAa hal;have hd:=hal.drop))
        refine hK.out _ _ zq31 (fun hHeld=> ?_);clear hK KK
        try simp only[Act.put,sA,sB,sC]
        refine wpAnyH_ready (rs:=[1]) (by kernel_rfl) (by simp) (AllReadyH.cons (o:=⟨some 5,.convert 57 9 (.tmp 4),9,_,_,none⟩) rfl (fun KK hK=> ?_) AllReadyH.nil);go_simp;refine hK.out _ _ zq31 (fun hHeld=> ?_);clear hK KK
        try simp only[Act.put,sA,sB,sC]
        refine tQ 5 ⟨some 9,.binOp .add 9 (.tmp 5) (.tmp 8) 9,9,_,_,none⟩ ?_;simp only[Act.put,sA,sB,sC];refine tQ 9 ⟨some 13,.binOp .add 9 (.tmp 9) (.tmp 12) 9,9,_,_,none⟩ ?_;simp only[Act.put,sA,sB,sC];refine tQ 13 ⟨some 17,.binOp .add 9 (.tmp 13) (.tmp 16) 9,9,_,_,none⟩ ?_;simp only[Act.put,sA,sB,sC];refine tQ 17 ⟨some 21,.binOp .add 9 (.tmp 17) (.tmp 20) 9,9,_,_,none⟩ ?_;simp only[Act.put,sA,sB,sC]
   rotate_left 5
   focus
    go_simp
    (go_at_call 59;first|(with_reducible refine(zAx x.off a2 E2.out R2.out (show St W0 _ K (.raw _ #[.int .u8 0] _::.raw wA _ _::L) by assumption)).mono ?_;rintro e wn ⟨rfl,h⟩;have cb:=zAa h;have hd:=h.drop)|(with_reducible refine(zAx x.off a2 E2.out R2.out (show St W0 _ K (.raw wA _ _::L) by assumption)).mono ?_;rintro e wn ⟨rfl,h⟩;have hal:=h.allocRaw #[.int .u8 0] 5;have cb:=zAa hal;have hd:=hal.drop))
    refine hK.out _ _ zq31 (fun hHeld=> ?_);clear hK KK
    try simp only[Act.put,sA,sB,sC]
    refine wpAnyH_ready (rs:=[0,12]) (by kernel_rfl) (by simp) (AllReadyH.cons (o:=⟨some 4,.buildSlice 57 1 #[(0,.const (Value.int IntKind.u8 0))],57,_,_,none⟩) rfl (fun KK hK=> ?_) (AllReadyH.cons (o:=⟨some 16,.call {callee:=.value (.func 60),args:= #[.tmp 15],argTypes:= #[51]},9,_,_,none⟩) rfl (fun KK hK=> ?_) AllReadyH.nil))
    focus
     go_simp;refine hK.out _ _ zq31 (fun hHeld=> ?_);clear hK KK
     try simp only[Act.put,sA,sB,sC]
     refine wpAnyH_ready (rs:=[1,12]) (by kernel_rfl) (by simp) (AllReadyH.cons (o:=⟨some 5,.convert 57 9 (.tmp 4),9,_,_,none⟩) rfl (fun KK hK=> ?_) (AllReadyH.cons (o:=⟨some 16,.call {callee:=.value (.func 60),args:= #[.tmp 15],argTypes:= #[51]},9,_,_,none⟩) rfl (fun KK hK=> ?_) AllReadyH.nil))
     focus
      go_simp;refine hK.out _ _ zq31 (fun hHeld=> ?_);clear hK KK
      try simp only[Act.put,sA,sB,sC]
      refine tQ 5 ⟨some 9,.binOp .add 9 (.tmp 5) (.tmp 8) 9,9,_,_,none⟩ ?_;simp only[Act.put,sA,sB,sC];refine tQ 9 ⟨some 13,.binOp .add 9 (.tmp 9) (.tmp 12) 9,9,_,_,none⟩ ?_;simp only[Act.put,sA,sB,sC];refine wpAnyH_ready (rs:=[12]) (by kernel_rfl) (by simp) (AllReadyH.cons (o:=⟨some 16,.call {callee:=.value (.func 60),args:= #[.tmp 15],argTypes:= #[51]},9,_,_,none⟩) rfl (fun KK hK=> ?_) AllReadyH.nil);go_simp
      (go_at_call 60;first|(with_reducible refine(zAb x.key.null x.key.data a3 E3.out B3.out (show St W0 _ K (.raw _ #[.int .u8 0] _::.raw wA _ _::L) by assumption)).mono ?_;rintro e wn ⟨rfl,h⟩;have cb:=zAa h;have hd:=h.drop)|(with_reducible refine(zAb x.key.null x.key.data a3 E3.out B3.out (show St W0 _ K (.raw wA _ _::L) by assumption)).mono ?_;rintro e wn ⟨rfl,h⟩;have hal:=h.allocRaw #[.int .u8 0] 5;have cb:=zAa hal;have hd:=hal.drop))
      refine hK.out _ _ zq31 (fun hHeld=> ?_);clear hK KK
      try simp only[Act.put,sA,sB,sC]
      refine tQ 13 ⟨some 17,.binOp .add 9 (.tmp 13) (.tmp 16) 9,9,_,_,none⟩ ?_;simp only[Act.put,sA,sB,sC];refine wpAnyH_ready (rs:=[16]) (by kernel_rfl) (by simp) (AllReadyH.cons (o:=⟨some 20,.call {callee:=.value (.func 60),args:= #[.tmp 19],argTypes:= #[51]},9,_,_,none⟩) rfl (fun KK hK=> ?_) AllReadyH.nil);go_simp
      (go_at_call 60;first|(with_reducible refine(zAb x.val.null x.val.data a4 E4.out B4.out (show St W0 _ K (.raw _ #[.int .u8 0] _::.raw wA _ _::L) by assumption)).mono ?_;rintro e wn ⟨rfl,h⟩;have cb:=zAa h;have hd:=h.drop)|(with_reducible refine(zAb x.val.null x.val.data a4 E4.out B4.out (show St W0 _ K (.raw wA _ _::L) by assumption)).mono ?_;rintro e wn ⟨rfl,h⟩;have hal:=h.allocRaw #[.int .u8 0] 5;have cb:=zAa hal;have hd:=hal.drop))
      refine hK.out _ _ zq31 (fun hHeld=> ?_);clear hK KK
      try simp only[Act.put,sA,sB,sC]
      refine tQ 17 ⟨some 21,.binOp .add 9 (.tmp 17) (.tmp 20) 9,9,_,_,none⟩ ?_;simp only[Act.put,sA,sB,sC];refine wpAnyH_ready (rs:=[20]) (by kernel_rfl) (by simp) (AllReadyH.cons (o:=⟨some 24,.call {callee:=.value (.func 61),args:= #[.tmp 23],argTypes:= #[52]},9,_,_,none⟩) rfl (fun KK hK=> ?_) AllReadyH.nil);go_simp
      (go_at_call 61;first|(with_reducible refine(zAe v x.hdrs a5 E5.out B5.out HK.out (show St W0 _ K (.raw _ #[.int .u8 0] _::.raw wA _ _::L) by assumption)).mono ?_;rintro e wn ⟨rfl,h⟩;have cb:=zAa h;have hd:=h.drop)|(with_reducible refine(zAe v x.hdrs a5 E5.out B5.out HK.out (show St W0 _ K (.raw wA _ _::L) by assumption)).mono ?_;rintro e wn ⟨rfl,h⟩;have hal:=h.allocRaw #[.int .u8 0] 5;have cb:=zAa hal;have hd:=hal.drop))
      refine hK.out _ _ zq31 (fun hHeld=> ?_);clear hK KK
      try simp only[Act.put,sA,sB,sC]
     rotate_left
     focus
      go_simp
      (go_at_call 60;first|(with_reducible refine(zAb x.key.null x.key.data a3 E3.out B3.out (show St W0 _ K (.raw _ #[.int .u8 0] _::.raw wA _ _::L) by assumption)).mono ?_;rintro e wn ⟨rfl,h⟩;have cb:=zAa h;have hd:=h.drop)|(with_reducible refine(zAb x.key.null x.key.data a3 E3.out B3.out (show St W0 _ K (.raw wA _ _::L) by assumption)).mono ?_;rintro e wn ⟨rfl,h⟩;have hal:=h.allocRaw #[.int .u8 0] 5;have cb:=zAa hal;have hd:=hal.drop))
      refine hK.out _ _ zq31 (fun hHeld=> ?_);clear hK KK
      try simp only[Act.put,sA,sB,sC]
      refine wpAnyH_ready (rs:=[1,16]) (by kernel_rfl) (by simp) (AllReadyH.cons (o:=⟨some 5,.convert 57 9 (.tmp 4),9,_,_,none⟩) rfl (fun KK hK=> ?_) (AllReadyH.cons (o:=⟨some 20,.call {callee:=.value (.func 60),args:= #[.tmp 19],argTypes:= #[51]},9,_,_,none⟩) rfl (fun KK hK=> ?_) AllReadyH.nil))
      focus
       go_simp;refine hK.out _ _ zq31 (fun hHeld=> ?_);clear hK KK
       try simp only[Act.put,sA,sB,sC]
       refine tQ 5 ⟨some 9,.binOp .add 9 (.tmp 5) (.tmp 8) 9,9,_,_,none⟩ ?_;simp only[Act.put,sA,sB,sC];refine tQ 9 ⟨some 13,.binOp .add 9 (.tmp 9) (.tmp 12) 9,9,_,_,none⟩ ?_;simp only[Act.put,sA,sB,sC];refine tQ 13 ⟨some 17,.binOp .add 9 (.tmp 13) (.tmp 16) 9,9,_,_,none⟩ ?_;simp only[Act.put,sA,sB,sC];refine wpAnyH_ready (rs:=[16]) (by kernel_rfl) (by simp) (AllReadyH.cons (o:=⟨some 20,.call {callee:=.value (.func 60),args:= #[.tmp 19],argTypes:= #[51]},9,_,_,none⟩) rfl (fun KK hK=> ?_) AllReadyH.nil);go_simp
       (go_at_call 60;first|(with_reducible refine(zAb x.val.null x.val.data a4 E4.out B4.out (show St W0 _ K (.raw _ #[.int .u8 0] _::.raw wA _ _::L) by assumption)).mono ?_;rintro e wn ⟨rfl,h⟩;have cb:=zAa h;have hd:=h.drop)|(with_reducible refine(zAb x.val.null x.val.data a4 E4.out B4.out (show St W0 _ K (.raw wA _ _::L) by assumption)).mono ?_;rintro e wn ⟨rfl,h⟩;have hal:=h.allocRaw #[.int .u8 0] 5;have cb:=zAa hal;have hd:=hal.drop))
       refine hK.out _ _ zq31 (fun hHeld=> ?_);clear hK KK
       try simp only[Act.put,sA,sB,sC]
       refine tQ 17 ⟨some 21,.binOp .add 9 (.tmp 17) (.tmp 20) 9,9,_,_,none⟩ ?_;simp only[Act.put,sA,sB,sC];refine wpAnyH_ready (rs:=[20]) (by kernel_rfl) (by simp) (AllReadyH.cons (o:=⟨some 24,.call {callee:=.value (.func 61),args:= #[.tmp 23],argTypes:= #[52]},9,_,_,none⟩) rfl (fun KK hK=> ?_) AllReadyH.nil);go_simp
       (go_at_call 61;first|(with_reducible refine(zAe v x.hdrs a5 E5.out B5.out HK.out (show St W0 _ K (.raw _ #[.int .u8 0] _::.raw wA _ _::L) by assumption)).mono ?_;rintro e wn ⟨rfl,h⟩;have cb:=zAa h;have hd:=h.drop)|(with_reducible refine(zAe v x.hdrs a5 E5.out B5.out HK.out (show St W0 _ K (.raw wA _ _::L) by assumption)).mono ?_;rintro e wn ⟨rfl,h⟩;have hal:=h.allocRaw #[.int .u8 0] 5;have cb:=zAa hal;have hd:=hal.drop))
       refine hK.out _ _ zq31 (fun hHeld=> ?_);clear hK KK
       try simp only[Act.put,sA,sB,sC]
      rotate_left
      focus
       go_simp
       (go_at_call 60;first|(with_reducible refine(zAb x.val.null x.val.data a4 E4.out B4.out (show St W0 _ K (.raw _ #[.int .u8 0] _::.raw wA _ _::L) by assumption)).mono ?_;rintro e wn ⟨rfl,h⟩;have cb:=zAa h;have hd:=h.drop)|(with_reducible refine(zAb x.val.null x.val.data a4 E4.out B4.out (show St W0 _ K (.raw wA _ _::L) by assumption)).mono ?_;rintro e wn ⟨rfl,h⟩;have hal:=h.allocRaw #[.int .u8 0] 5;have cb:=zAa hal;have hd:=hal.drop))
       refine hK.out _ _ zq31 (fun hHeld=> ?_);clear hK KK
       try simp only[Act.put,sA,sB,sC]
       refine wpAnyH_ready (rs:=[1,20]) (by kernel_rfl) (by simp) (AllReadyH.cons (o:=⟨some 5,.convert 57 9 (.tmp 4),9,_,_,none⟩) rfl (fun KK hK=> ?_) (AllReadyH.cons (o:=⟨some 24,.call {callee:=.value (.func 61),args:= #[.tmp 23],argTypes:= #[52]},9,_,_,none⟩) rfl (fun KK hK=> ?_) AllReadyH.nil))
       focus
        go_simp;refine hK.out _ _ zq31 (fun hHeld=> ?_);clear hK KK
        try simp only[Act.put,sA,sB,sC]
        refine tQ 5 ⟨some 9,.binOp .add 9 (.tmp 5) (.tmp 8) 9,9,_,_,none⟩ ?_;simp only[Act.put,sA,sB,sC];refine tQ 9 ⟨some 13,.binOp .add 9 (.tmp 9) (.tmp 12) 9,9,_,_,none⟩ ?_;simp only[Act.put,sA,sB,sC];refine tQ 13 ⟨some 17,.binOp .add 9 (.tmp 13) (.tmp 16) 9,9,_,_,none⟩ ?_;simp only[Act.put,sA,sB,sC];refine tQ 17 ⟨some 21,.binOp .add 9 (.tmp 17) (.tmp 20) 9,9,_,_,none⟩ ?_;simp only[Act.put,sA,sB,sC];refine wpAnyH_ready (rs:=[20]) (by kernel_rfl) (by simp) (AllReadyH.cons (o:=⟨some 24,.call {callee:=.value (.func 61),args:= #[.tmp 23],argTypes:= #[52]},9,_,_,none⟩) rfl (fun KK hK=> ?_) AllReadyH.nil);go_simp
        (go_at_call 61;first|(with_reducible refine(zAe v x.hdrs a5 E5.out B5.out HK.out (show St W0 _ K (.raw _ #[.int .u8 0] _::.raw wA _ _::L) by assumption)).mono ?_;rintro e wn ⟨rfl,h⟩;have cb:=zAa h;have hd:=h.drop)|(with_reducible refine(zAe v x.hdrs a5 E5.out B5.out HK.out (show St W0 _ K (.raw wA _ _::L) by assumption)).mono ?_;rintro e wn ⟨rfl,h⟩;have hal:=h.allocRaw #[.int .u8 0] 5;have cb:=zAa hal;have hd:=hal.drop))
        refine hK.out _ _ zq31 (fun hHeld=> ?_);clear hK KK
        try simp only[Act.put,sA,sB,sC]
       rotate_left
       focus
        go_simp
        (go_at_call 61;first|(with_reducible refine(zAe v x.hdrs a5 E5.out B5.out HK.out (show St W0 _ K (.raw _ #[.int .u8 0] _::.raw wA _ _::L) by assumption)).mono ?_;rintro e wn ⟨rfl,h⟩;have cb:=zAa h;have hd:=h.drop)|(with_reducible refine(zAe v x.hdrs a5 E5.out B5.out HK.out (show St W0 _ K (.raw wA _ _::L) by assumption)).mono ?_;rintro e wn ⟨rfl,h⟩;have hal:=h.allocRaw #[.int .u8 0] 5;have cb:=zAa hal;have hd:=hal.drop))
        refine hK.out _ _ zq31 (fun hHeld=> ?_);clear hK KK
        try simp only[Act.put,sA,sB,sC]
        refine wpAnyH_ready (rs:=[1]) (by kernel_rfl) (by simp) (AllReadyH.cons (o:=⟨some 5,.convert 57 9 (.tmp 4),9,_,_,none⟩) rfl (fun KK hK=> ?_) AllReadyH.nil);go_simp;refine hK.out _ _ zq31 (fun hHeld=> ?_);clear hK KK
        try simp only[Act.put,sA,sB,sC]
        refine tQ 5 ⟨some 9,.binOp .add 9 (.tmp 5) (.tmp 8) 9,9,_,_,none⟩ ?_;simp only[Act.put,sA,sB,sC];refine tQ 9 ⟨some 13,.binOp .add 9 (.tmp 9) (.tmp 12) 9,9,_,_,none⟩ ?_;simp only[Act.put,sA,sB,sC];refine tQ 13 ⟨some 17,.binOp .add 9 (.tmp 13) (.tmp 16) 9,9,_,_,none⟩ ?_;simp only[Act.put,sA,sB,sC];refine tQ 17 ⟨some 21,.binOp .add 9 (.tmp 17) (.tmp 20) 9,9,_,_,none⟩ ?_;simp only[Act.put,sA,sB,sC]
    rotate_left 4
    focus
     go_simp
     (go_at_call 60;first|(with_reducible refine(zAb x.key.null x.key.data a3 E3.out B3.out (show St W0 _ K (.raw _ #[.int .u8 0] _::.raw wA _ _::L) by assumption)).mono ?_;rintro e wn ⟨rfl,h⟩;have cb:=zAa h;have hd:=h.drop)|(with_reducible refine(zAb x.key.null x.key.data a3 E3.out B3.out (show St W0 _ K (.raw wA _ _::L) by assumption)).mono ?_;rintro e wn ⟨rfl,h⟩;have hal:=h.allocRaw #[.int .u8 0] 5;have cb:=zAa hal;have hd:=hal.drop))
     refine hK.out _ _ zq31 (fun hHeld=> ?_);clear hK KK
     try simp only[Act.put,sA,sB,sC]
     refine wpAnyH_ready (rs:=[0,16]) (by kernel_rfl) (by simp) (AllReadyH.cons (o:=⟨some 4,.buildSlice 57 1 #[(0,.const (Value.int IntKind.u8 0))],57,_,_,none⟩) rfl (fun KK hK=> ?_) (AllReadyH.cons (o:=⟨some 20,.call {callee:=.value (.func 60),args:= #[.tmp 19],argTypes:= #[51]},9,_,_,none⟩) rfl (fun KK hK=> ?_) AllReadyH.nil))
     focus
      go_simp;refine hK.out _ _ zq31 (fun hHeld=> ?_);clear hK KK
      try simp only[Act.put,sA,sB,sC]
      refine wpAnyH_ready (rs:=[1,16]) (by kernel_rfl) (by simp) (AllReadyH.cons (o:=⟨some 5,.convert 57 9 (.tmp 4),9,_,_,none⟩) rfl (fun KK hK=> ?_) (AllReadyH.cons (o:=⟨some 20,.call {callee:=.value (.func 60),args:= #[.tmp 19],argTypes:= #[51]},9,_,_,none⟩) rfl (fun KK hK=> ?_) AllReadyH.nil))
      focus
       go_simp;refine hK.out _ _ zq31 (fun hHeld=> ?_);clear hK KK
       try simp only[Act.put,sA,sB,sC]
       refine tQ 5 ⟨some 9,.binOp .add 9 (.tmp 5) (.tmp 8) 9,9,_,_,none⟩ ?_;simp only[Act.put,sA,sB,sC];refine tQ 9 ⟨some 13,.binOp .add 9 (.tmp 9) (.tmp 12) 9,9,_,_,none⟩ ?_;simp only[Act.put,sA,sB,sC];refine tQ 13 ⟨some 17,.binOp .add 9 (.tmp 13) (.tmp 16) 9,9,_,_,none⟩ ?_;simp only[Act.put,sA,sB,sC];refine wpAnyH_ready (rs:=[16]) (by kernel_rfl) (by simp) (AllReadyH.cons (o:=⟨some 20,.call {callee:=.value (.func 60),args:= #[.tmp 19],argTypes:= #[51]},9,_,_,none⟩) rfl (fun KK hK=> ?_) AllReadyH.nil);go_simp
       (go_at_call 60;first|(with_reducible refine(zAb x.val.null x.val.data a4 E4.out B4.out (show St W0 _ K (.raw _ #[.int .u8 0] _::.raw wA _ _::L) by assumption)).mono ?_;rintro e wn ⟨rfl,h⟩;have cb:=zAa h;have hd:=h.drop)|(with_reducible refine(zAb x.val.null x.val.data a4 E4.out B4.out (show St W0 _ K (.raw wA _ _::L) by assumption)).mono ?_;rintro e wn ⟨rfl,h⟩;have hal:=h.allocRaw #[.int .u8 0] 5;have cb:=zAa hal;have hd:=hal.drop))
       refine hK.out _ _ zq31 (fun hHeld=> ?_);clear hK KK
       try simp only[Act.put,sA,sB,sC]
       refine tQ 17 ⟨some 21,.binOp .add 9 (.tmp 17) (.tmp 20) 9,9,_,_,none⟩ ?_;simp only[Act.put,sA,sB,sC];refine wpAnyH_ready (rs:=[20]) (by kernel_rfl) (by simp) (AllReadyH.cons (o:=⟨some 24,.call {callee:=.value (.func 61),args:= #[.tmp 23],argTypes:= #[52]},9,_,_,none⟩) rfl (fun KK hK=> ?_) AllReadyH.nil);go_simp
       (go_at_call 61;first|(with_reducible refine(zAe v x.hdrs a5 E5.out B5.out HK.out (show St W0 _ K (.raw _ #[.int .u8 0] _::.raw wA _ _::L) by assumption)).mono ?_;rintro e wn ⟨rfl,h⟩;have cb:=zAa h;have hd:=h.drop)|(with_reducible refine(zAe v x.hdrs a5 E5.out B5.out HK.out (show St W0 _ K (.raw wA _ _::L) by assumption)).mono ?_;rintro e wn ⟨rfl,h⟩;have hal:=h.allocRaw #[.int .u8 0] 5;have cb:=zAa hal;have hd:=hal.drop))
       refine hK.out _ _ zq31 (fun hHeld=> ?_);clear hK KK
       try simp only[Act.put,sA,sB,sC]
      rotate_left
      focus
       go_simp
       (go_at_call 60;first|(with_reducible refine(zAb x.val.null x.val.data a4 E4.out B4.out (show St W0 _ K (.raw _ #[.int .u8 0] _::.raw wA _ _::L) by assumption)).mono ?_;rintro e wn ⟨rfl,h⟩;have cb:=zAa h;have hd:=h.drop)|(with_reducible refine(zAb x.val.null x.val.data a4 E4.out B4.out (show St W0 _ K (.raw wA _ _::L) by assumption)).mono ?_;rintro e wn ⟨rfl,h⟩;have hal:=h.allocRaw #[.int .u8 0] 5;have cb:=zAa hal;have hd:=hal.drop))
       refine hK.out _ _ zq31 (fun hHeld=> ?_);clear hK KK
       try simp only[Act.put,sA,sB,sC]
       refine wpAnyH_ready (rs:=[1,20]) (by kernel_rfl) (by simp) (AllReadyH.cons (o:=⟨some 5,.convert 57 9 (.tmp 4),9,_,_,none⟩) rfl (fun KK hK=> ?_) (AllReadyH.cons (o:=⟨some 24,.call {callee:=.value (.func 61),args:= #[.tmp 23],argTypes:= #[52]},9,_,_,none⟩) rfl (fun KK hK=> ?_) AllReadyH.nil))
       focus
        go_simp;refine hK.out _ _ zq31 (fun hHeld=> ?_);clear hK KK
        try simp only[Act.put,sA,sB,sC]
        refine tQ 5 ⟨some 9,.binOp .add 9 (.tmp 5) (.tmp 8) 9,9,_,_,none⟩ ?_;simp only[Act.put,sA,sB,sC];refine tQ 9 ⟨some 13,.binOp .add 9 (.tmp 9) (.tmp 12) 9,9,_,_,none⟩ ?_;simp only[Act.put,sA,sB,sC];refine tQ 13 ⟨some 17,.binOp .add 9 (.tmp 13) (.tmp 16) 9,9,_,_,none⟩ ?_;simp only[Act.put,sA,sB,sC];refine tQ 17 ⟨some 21,.binOp .add 9 (.tmp 17) (.tmp 20) 9,9,_,_,none⟩ ?_;simp only[Act.put,sA,sB,sC];refine wpAnyH_ready (rs:=[20]) (by kernel_rfl) (by simp) (AllReadyH.cons (o:=⟨some 24,.call {callee:=.value (.func 61),args:= #[.tmp 23],argTypes:= #[52]},9,_,_,none⟩) rfl (fun KK hK=> ?_) AllReadyH.nil);go_simp
        (go_at_call 61;first|(with_reducible refine(zAe v x.hdrs a5 E5.out B5.out HK.out (show St W0 _ K (.raw _ #[.int .u8 0] _::.raw wA _ _::L) by assumption)).mono ?_;rintro e wn ⟨rfl,h⟩;have cb:=zAa h;have hd:=h.drop)|(with_reducible refine(zAe v x.hdrs a5 E5.out B5.out HK.out (show St W0 _ K (.raw wA _ _::L) by assumption)).mono ?_;rintro e wn ⟨rfl,h⟩;have hal:=h.allocRaw #[.int .u8 0] 5;have cb:=zAa hal;have hd:=hal.drop))
        refine hK.out _ _ zq31 (fun hHeld=> ?_);clear hK KK
        try simp only[Act.put,sA,sB,sC]
       rotate_left
       focus
        go_simp
        (go_at_call 61;first|(with_reducible refine(zAe v x.hdrs a5 E5.out B5.out HK.out (show St W0 _ K (.raw _ #[.int .u8 0] _::.raw wA _ _::L) by assumption)).mono ?_;rintro e wn ⟨rfl,h⟩;have cb:=zAa h;have hd:=h.drop)|(with_reducible refine(zAe v x.hdrs a5 E5.out B5.out HK.out (show St W0 _ K (.raw wA _ _::L) by assumption)).mono ?_;rintro e wn ⟨rfl,h⟩;have hal:=h.allocRaw #[.int .u8 0] 5;have cb:=zAa hal;have hd:=hal.drop))
        refine hK.out _ _ zq31 (fun hHeld=> ?_);clear hK KK
        try simp only[Act.put,sA,sB,sC]
        refine wpAnyH_ready (rs:=[1]) (by kernel_rfl) (by simp) (AllReadyH.cons (o:=⟨some 5,.convert 57 9 (.tmp 4),9,_,_,none⟩) rfl (fun KK hK=> ?_) AllReadyH.nil);go_simp;refine hK.out _ _ zq31 (fun hHeld=> ?_);clear hK KK
        try simp only[Act.put,sA,sB,sC]
        refine tQ 5 ⟨some 9,.binOp .add 9 (.tmp 5) (.tmp 8) 9,9,_,_,none⟩ ?_;simp only[Act.put,sA,sB,sC];refine tQ 9 ⟨some 13,.binOp .add 9 (.tmp 9) (.tmp 12) 9,9,_,_,none⟩ ?_;simp only[Act.put,sA,sB,sC];refine tQ 13 ⟨some 17,.binOp .add 9 (.tmp 13) (.tmp 16) 9,9,_,_,none⟩ ?_;simp only[Act.put,sA,sB,sC];refine tQ 17 ⟨some 21,.binOp .add 9 (.tmp 17) (.tmp 20) 9,9,_,_,none⟩ ?_;simp only[Act.put,sA,sB,sC]
     rotate_left 3
     focus
      go_simp
      (go_at_call 60;first|(with_reducible refine(zAb x.val.null x.val.data a4 E4.out B4.out (show St W0 _ K (.raw _ #[.int .u8 0] _::.raw wA _ _::L) by assumption)).mono ?_;rintro e wn ⟨rfl,h⟩;have cb:=zAa h;have hd:=h.drop)|(with_reducible refine(zAb x.val.null x.val.data a4 E4.out B4.out (show St W0 _ K (.raw wA _ _::L) by assumption)).mono ?_;rintro e wn ⟨rfl,h⟩;have hal:=h.allocRaw #[.int .u8 0] 5;have cb:=zAa hal;have hd:=hal.drop))
      refine hK.out _ _ zq31 (fun hHeld=> ?_);clear hK KK
      try simp only[Act.put,sA,sB,sC]
      refine wpAnyH_ready (rs:=[0,20]) (by kernel_rfl) (by simp) (AllReadyH.cons (o:=⟨some 4,.buildSlice 57 1 #[(0,.const (Value.int IntKind.u8 0))],57,_,_,none⟩) rfl (fun KK hK=> ?_) (AllReadyH.cons (o:=⟨some 24,.call {callee:=.value (.func 61),args:= #[.tmp 23],argTypes:= #[52]},9,_,_,none⟩) rfl (fun KK hK=> ?_) AllReadyH.nil))
      focus
       go_simp;refine hK.out _ _ zq31 (fun hHeld=> ?_);clear hK KK
       try simp only[Act.put,sA,sB,sC]
       refine wpAnyH_ready (rs:=[1,20]) (by kernel_rfl) (by simp) (AllReadyH.cons (o:=⟨some 5,.convert 57 9 (.tmp 4),9,_,_,none⟩) rfl (fun KK hK=> ?_) (AllReadyH.cons (o:=⟨some 24,.call {callee:=.value (.func 61),args:= #[.tmp 23],argTypes:= #[52]},9,_,_,none⟩) rfl (fun KK hK=> ?_) AllReadyH.nil))
       focus
        go_simp;refine hK.out _ _ zq31 (fun hHeld=> ?_);clear hK KK
        try simp only[Act.put,sA,sB,sC]
        refine tQ 5 ⟨some 9,.binOp .add 9 (.tmp 5) (.tmp 8) 9,9,_,_,none⟩ ?_;simp only[Act.put,sA,sB,sC];refine tQ 9 ⟨some 13,.binOp .add 9 (.tmp 9) (.tmp 12) 9,9,_,_,none⟩ ?_;simp only[Act.put,sA,sB,sC];refine tQ 13 ⟨some 17,.binOp .add 9 (.tmp 13) (.tmp 16) 9,9,_,_,none⟩ ?_;simp only[Act.put,sA,sB,sC];refine tQ 17 ⟨some 21,.binOp .add 9 (.tmp 17) (.tmp 20) 9,9,_,_,none⟩ ?_;simp only[Act.put,sA,sB,sC];refine wpAnyH_ready (rs:=[20]) (by kernel_rfl) (by simp) (AllReadyH.cons (o:=⟨some 24,.call {callee:=.value (.func 61),args:= #[.tmp 23],argTypes:= #[52]},9,_,_,none⟩) rfl (fun KK hK=> ?_) AllReadyH.nil);go_simp
        (go_at_call 61;first|(with_reducible refine(zAe v x.hdrs a5 E5.out B5.out HK.out (show St W0 _ K (.raw _ #[.int .u8 0] _::.raw wA _ _::L) by assumption)).mono ?_;rintro e wn ⟨rfl,h⟩;have cb:=zAa h;have hd:=h.drop)|(with_reducible refine(zAe v x.hdrs a5 E5.out B5.out HK.out (show St W0 _ K (.raw wA _ _::L) by assumption)).mono ?_;rintro e wn ⟨rfl,h⟩;have hal:=h.allocRaw #[.int .u8 0] 5;have cb:=zAa hal;have hd:=hal.drop))
        refine hK.out _ _ zq31 (fun hHeld=> ?_);clear hK KK
        try simp only[Act.put,sA,sB,sC]
       rotate_left
       focus
        go_simp
        (go_at_call 61;first|(with_reducible refine(zAe v x.hdrs a5 E5.out B5.out HK.out (show St W0 _ K (.raw _ #[.int .u8 0] _::.raw wA _ _::L) by assumption)).mono ?_;rintro e wn ⟨rfl,h⟩;have cb:=zAa h;have hd:=h.drop)|(with_reducible refine(zAe v x.hdrs a5 E5.out B5.out HK.out (show St W0 _ K (.raw wA _ _::L) by assumption)).mono ?_;rintro e wn ⟨rfl,h⟩;have hal:=h.allocRaw #[.int .u8 0] 5;have cb:=zAa hal;have hd:=hal.drop))
        refine hK.out _ _ zq31 (fun hHeld=> ?_);clear hK KK
        try simp only[Act.put,sA,sB,sC]
        refine wpAnyH_ready (rs:=[1]) (by kernel_rfl) (by simp) (AllReadyH.cons (o:=⟨some 5,.convert 57 9 (.tmp 4),9,_,_,none⟩) rfl (fun KK hK=> ?_) AllReadyH.nil);go_simp;refine hK.out _ _ zq31 (fun hHeld=> ?_);clear hK KK
        try simp only[Act.put,sA,sB,sC]
        refine tQ 5 ⟨some 9,.binOp .add 9 (.tmp 5) (.tmp 8) 9,9,_,_,none⟩ ?_;simp only[Act.put,sA,sB,sC];refine tQ 9 ⟨some 13,.binOp .add 9 (.tmp 9) (.tmp 12) 9,9,_,_,none⟩ ?_;simp only[Act.put,sA,sB,sC];refine tQ 13 ⟨some 17,.binOp .add 9 (.tmp 13) (.tmp 16) 9,9,_,_,none⟩ ?_;simp only[Act.put,sA,sB,sC];refine tQ 17 ⟨some 21,.binOp .add 9 (.tmp 17) (.tmp 20) 9,9,_,_,none⟩ ?_;simp only[Act.put,sA,sB,sC]
      rotate_left 2
      focus
       go_simp
       (go_at_call 61;first|(with_reducible refine(zAe v x.hdrs a5 E5.out B5.out HK.out (show St W0 _ K (.raw _ #[.int .u8 0] _::.raw wA _ _::L) by assumption)).mono ?_;rintro e wn ⟨rfl,h⟩;have cb:=zAa h;have hd:=h.drop)|(with_reducible refine(zAe v x.hdrs a5 E5.out B5.out HK.out (show St W0 _ K (.raw wA _ _::L) by assumption)).mono ?_;rintro e wn ⟨rfl,h⟩;have hal:=h.allocRaw #[.int .u8 0] 5;have cb:=zAa hal;have hd:=hal.drop))
       refine hK.out _ _ zq31 (fun hHeld=> ?_);clear hK KK
       try simp only[Act.put,sA,sB,sC]
       refine wpAnyH_ready (rs:=[0]) (by kernel_rfl) (by simp) (AllReadyH.cons (o:=⟨some 4,.buildSlice 57 1 #[(0,.const (Value.int IntKind.u8 0))],57,_,_,none⟩) rfl (fun KK hK=> ?_) AllReadyH.nil);go_simp;refine hK.out _ _ zq31 (fun hHeld=> ?_);clear hK KK
       try simp only[Act.put,sA,sB,sC]
       refine wpAnyH_ready (rs:=[1]) (by kernel_rfl) (by simp) (AllReadyH.cons (o:=⟨some 5,.convert 57 9 (.tmp 4),9,_,_,none⟩) rfl (fun KK hK=> ?_) AllReadyH.nil);go_simp;refine hK.out _ _ zq31 (fun hHeld=> ?_);clear hK KK
       try simp only[Act.put,sA,sB,sC]
       refine tQ 5 ⟨some 9,.binOp .add 9 (.tmp 5) (.tmp 8) 9,9,_,_,none⟩ ?_;simp only[Act.put,sA,sB,sC];refine tQ 9 ⟨some 13,.binOp .add 9 (.tmp 9) (.tmp 12) 9,9,_,_,none⟩ ?_;simp only[Act.put,sA,sB,sC];refine tQ 13 ⟨some 17,.binOp .add 9 (.tmp 13) (.tmp 16) 9,9,_,_,none⟩ ?_;simp only[Act.put,sA,sB,sC];refine tQ 17 ⟨some 21,.binOp .add 9 (.tmp 17) (.tmp 20) 9,9,_,_,none⟩ ?_;simp only[Act.put,sA,sB,sC]
  all_goals
   refine tQ 21 ⟨some 25,.binOp .add 9 (.tmp 21) (.tmp 24) 9,9,_,_,none⟩ ?_;simp only[Act.put,sA,sB,sC];refine tQ 22 ⟨some 3,.assign (.tmp 25),9,_,_,none⟩ ?_;simp only[Act.put,sA,sB,sC];refine wpAnyH_done (by kernel_rfl) ?_ _;have h2:=(show St W0 _ K (.raw wA _ _::L) by assumption);go_wp2_with fail;go_meet;exact⟨by rw[HF.out];rfl,h2⟩
 case rest=>
  obtain⟨hu,h⟩:=hcut;subst hu;have H:=hQd h;clear h hst hst2 hst3 cb c0 c1 c2 c3 c4 c5 c6;go_wp2_with (go_at_call 59;refine(zAx _ a6 E6.out R6.out H.out).mono ?_;rintro e wn ⟨rfl,h⟩;replace H:=hQd h;clear h);go_ret;exact⟨by rw[HSE.out];first|rfl|simp,H.out.drop⟩
end Go.Proofs.YtenojajfacacoaaGreatDoor
