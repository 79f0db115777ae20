/- What is told of a log, as a text, is what is told of its bytes, in the same chunks, and in one: proved of every script, the library's own variables as the program lays them. -/
import Derived.Test.YtenojajfacacoaaGreatDoorGWholePlayedCard9
import Derived.Test.YtenojajfacacoaaGreatDoorGWholePlayedCard6
import Derived.RegionTactic
import Derived.WalkMore
import Derived.Deep.RegionHeld3
import Derived.Deep.DeepCutAuto
import Derived.Test.YtenojajfacacoaaGreatDoorGWholePlayedCard14
import Derived.Test.YtenojajfacacoaaGreatDoorGWholePlayedCard3
import Derived.Test.YtenojajfacacoaaGreatDoorGWholePlayedCard13
import Derived.Lib.SmallJoins
import Derived.Test.YtenojajfacacoaaGreatDoorGWholePlayedCard1
import Derived.Test.YtenojajfacacoaaGreatDoorGWholePlayedCard4
import Derived.Test.YtenojajfacacoaaGreatDoorGWholePlayedCard7
import Derived.Test.YtenojajfacacoaaGreatDoorGWholePlayedCard8
import Derived.Test.YtenojajfacacoaaGreatDoorGWholePlayedCard10
import Derived.Test.YtenojajfacacoaaGreatDoorCards
import Derived.OpenShut
import Derived.MakeChecks
import Derived.LaidMore
import Derived.Lib.LaidTab
import Derived.Stop.LaidErr
import Derived.Test.YtenojajfacacoaaGreatDoorTie
import Derived.Deep.DeepHandedRow
import Derived.SevenTiedAt
/- A text. -/
namespace Go.Proofs.YtenojajfacacoaaGreatDoor
open Go.RowKit
variable {W0 w:World}{K:Know}{L:List Res}
def sm11 (x:BtR):Bool:=zAN (x.l.map (·.1))
theorem zMS(l:List BtR)(ch:List Int)(h1:¬8<l.length)(h2:¬200<ch.length):zBe l ch=l.all sm11:=by
 unfold zBe;rw[decide_eq_true (by omega),decide_eq_true (by omega),Bool.true_and,Bool.true_and]
 rfl
theorem zLu(l:List BtR)(ch:List Int)(h1:8<l.length):zBe l ch=false:=by
 unfold zBe;rw[decide_eq_false (by omega),Bool.false_and]
theorem zLt(l:List BtR)(ch:List Int)(h1:200<ch.length):zBe l ch=false:=by
 unfold zBe;rw[show decide (ch.length≤200)=false from decide_eq_false (by omega),Bool.false_and,Bool.and_false]
theorem zL9(base leader:Int)(app txn ctl:Bool)(last first maxt prod epoch sq:Int)(l:List (RecS×Value))(q:Option Addr)(cap:Nat)(hr:zAN (l.map (·.1))=false)(hfit:FitW l)(hk:K.has (Know.recs (.slice q l.length cap) l))(h:St W0 w K L):
 Calls Tryz.prog 22 #[.agg #[.int .i64 base,.int .i64 leader,.bool app,.bool txn,.bool ctl,.int .i64 last,.int .i64 first,.int .i64 maxt,.int .i64 prod,.int .i64 epoch,.int .i64 sq,.slice q l.length cap]] w fun en w'=>en=.returned (.int .i64 0)∧St W0 w' K L:=zI4 base leader app txn ctl last first maxt prod epoch sq l q cap false hr hfit hk h
theorem zL8(base leader:Int)(app txn ctl:Bool)(last first maxt prod epoch sq:Int)(l:List (RecS×Value))(q:Option Addr)(cap:Nat)(hr:zAN (l.map (·.1))=true)(hfit:FitW l)(hk:K.has (Know.recs (.slice q l.length cap) l))(h:St W0 w K L):
 Calls Tryz.prog 22 #[.agg #[.int .i64 base,.int .i64 leader,.bool app,.bool txn,.bool ctl,.int .i64 last,.int .i64 first,.int .i64 maxt,.int .i64 prod,.int .i64 epoch,.int .i64 sq,.slice q l.length cap]] w fun en w'=>en=.returned (.int .i64 1)∧St W0 w' K L:=zI4 base leader app txn ctl last first maxt prod epoch sq l q cap true hr hfit hk h
set_option maxHeartbeats 4000000
set_option maxRecDepth 100000
variable {W0 w:World}{K:Know}{L:List Res}
theorem zKS(qb:Option Addr)(bcap:Nat)(c:Int)(q:Option Addr)(cap:Nat)(ch:List Int)(l:List BtR)(r:Bool)(hr:zBe l ch=r)(hfit:∀x∈l,FitW x.l)(hkb:K.has (Know.btrs (.slice qb l.length bcap) l))(h:St W0 w K L):
   Calls Tryz.prog 7 #[.agg #[.slice qb l.length bcap,.int .i64 c,.slice q ch.length cap]] w fun en w'=>en=.returned (.int .i64 (if r then 1 else 0))∧St W0 w' K L:=by
 obtain⟨rb,hrb⟩:∃b,w.heap.size=b:=⟨_,rfl⟩;have g1:=h.allocRaw #[.slice qb l.length bcap,.int .i64 c,.slice q ch.length cap] 25;rw[hrb]at g1;have z0:=(g1).rawCell 0;have z1:=(g1).rawCell 1;have z2:=(g1).rawCell 2;simp at z0 z1 z2;have H:=hQd g1;have HKB:=hQd hkb;have HFT:=hQd hfit;clear h g1 hkb hfit
 by_cases h8:8<l.length
 · obtain rfl:false=r:=by rw[←hr,zLu l ch h8]
   have d1:(8:Int)<(l.length:Int):=by omega
   have d2:decide ((8:Int)<(l.length:Int))=true:=decide_eq_true d1;clear hr h8;go_enter Tryz.func7,Tryz.ntmps7;go_wp2_with fail;go_ret;exact⟨rfl,H.out.drop⟩
 have d1:¬(8:Int)<(l.length:Int):=by omega
 have d2:decide ((8:Int)<(l.length:Int))=false:=decide_eq_false d1
 by_cases h2:200<ch.length
 · obtain rfl:false=r:=by rw[←hr,zLt l ch h2]
   have d3:(200:Int)<(ch.length:Int):=by omega
   have d4:decide ((200:Int)<(ch.length:Int))=true:=decide_eq_true d3;clear hr h8 h2;go_enter Tryz.func7,Tryz.ntmps7;go_wp2_with fail;go_ret;exact⟨rfl,H.out.drop⟩
 have d3:¬(200:Int)<(ch.length:Int):=by omega
 have d4:decide ((200:Int)<(ch.length:Int))=false:=decide_eq_false d3;have HR:=hQd (show(l.drop 0).all sm11=r by rw[←hr,zMS l ch h8 h2];rfl);have HLI:=hQd (show(l.length:Int)≤8 by omega);clear hr h8 h2;go_enter Tryz.func7,Tryz.ntmps7;go_wp2_with fail;clear z0 z1 z2 d1 d2 d3 d4;go_loopw [18] (fun iv wr=>∃k:Nat,k≤l.length∧iv=.int .i64 k∧Hid ((l.drop k).all sm11=r)∧St W0 wr K (.raw rb #[.slice qb l.length bcap,.int .i64 c,.slice q ch.length cap] 25::L)) (fun iv _=>l.length - (intOf iv).toNat)
 case atStart=>exact⟨0,Nat.zero_le _,rfl,HR,H.out⟩
 case round=>
   obtain⟨k,hkl,rfl,HC,hst⟩:=hrel;clear H;have H:=hQd hst;clear hst;have hli:(l.length:Int)≤8:=HLI.out
   by_cases hk:k<l.length
   · obtain⟨bk,off,hqq⟩:=zKl (zB6 HKB.out) H.out (by omega);subst hqq;obtain⟨x,hx⟩:∃x,l[k]=x:=⟨_,rfl⟩;have hmem:x∈l:=hx ▸ List.getElem_mem hk;have hXK:=zDY HKB.out hmem;obtain⟨xq,xcap,hxv⟩:=zBZ hXK H.out;have cc:=zGb HKB.out H.out k hk _ hx;rw[hxv]at hXK cc;obtain⟨c0,c1,c2,c3,c4,c5,c6,c7,c8,c9,c10,c11⟩:=cc;have HXK:=hQd hXK;have HFX:=hQd (HFT.out x hmem)
     have hd:(sm11 x && (l.drop (k+1)).all sm11)=r:=by
      have h9:=HC.out;rw[List.drop_eq_getElem_cons hk,hx]at h9;exact h9
     obtain⟨tb,htb⟩:∃b,wr.heap.size=b:=⟨_,rfl⟩;have g1:=H.out.allocRaw #[.int .i64 x.b.base,.int .i64 x.b.leader,.bool x.b.app,.bool x.b.txn,.bool x.b.ctl,.int .i64 x.b.last,.int .i64 x.b.first,.int .i64 x.b.maxt,.int .i64 x.b.prod,.int .i64 x.b.epoch,.int .i64 x.b.seq,.slice xq x.l.length xcap] 30;rw[htb]at g1;have y0:=g1.rawCell 0;have y1:=g1.rawCell 1;have y2:=g1.rawCell 2;have y3:=g1.rawCell 3;have y4:=g1.rawCell 4;have y5:=g1.rawCell 5;have y6:=g1.rawCell 6;have y7:=g1.rawCell 7;have y8:=g1.rawCell 8;have y9:=g1.rawCell 9;have y10:=g1.rawCell 10;have y11:=g1.rawCell 11;simp at y0 y1 y2 y3 y4 y5 y6 y7 y8 y9 y10 y11;have hki:(k:Int)<(l.length:Int):=by omega
     clear H hXK hxv hmem hx;have H:=hQd g1;clear g1
     cases hsm:sm11 x with
     |false=>
      have HSM:=hQd (show zAN (x.l.map (·.1))=false from hsm);obtain rfl:false=r:=by rw[←hd,hsm];rfl
      clear hd hsm;go_wp2_with (go_at_call 22;(with_reducible refine(zL9 x.b.base x.b.leader x.b.app x.b.txn x.b.ctl x.b.last x.b.first x.b.maxt x.b.prod x.b.epoch x.b.seq x.l xq xcap HSM.out HFX.out HXK.out H.out).mono ?_);rintro e_ wn ⟨rfl,h⟩;replace H:=hQd h;clear h);go_ret;exact⟨rfl,H.out.drop.drop⟩
     |true=>
      have HSM:=hQd (show zAN (x.l.map (·.1))=true from hsm);have HD:=hQd (show(l.drop (k+1)).all sm11=r by rw[←hd,hsm];rfl);clear hd hsm;go_wp2_with (go_at_call 22;(with_reducible refine(zL8 x.b.base x.b.leader x.b.app x.b.txn x.b.ctl x.b.last x.b.first x.b.maxt x.b.prod x.b.epoch x.b.seq x.l xq xcap HSM.out HFX.out HXK.out H.out).mono ?_);rintro e_ wn ⟨rfl,h⟩;replace H:=hQd h;clear h);go_roundw
      case rel=>exact⟨k+1,hk,by go_num,HD,H.out.drop⟩
      case measure=>first|(simp[intOf];done)|(simp[intOf];omega)
   · have hki:¬(k:Int)<(l.length:Int):=by omega
     obtain rfl:true=r:=by rw[←HC.out,List.drop_eq_nil_of_le (by omega)];rfl
     go_wp2_with fail;go_ret;exact⟨rfl,H.out.drop⟩
theorem zMY(qb:Option Addr)(bcap:Nat)(c:Int)(q:Option Addr)(cap:Nat)(ch:List Int)(l:List BtR)(hr:zBe l ch=false)(hfit:∀x∈l,FitW x.l)(hkb:K.has (Know.btrs (.slice qb l.length bcap) l))(h:St W0 w K L):
 Calls Tryz.prog 7 #[.agg #[.slice qb l.length bcap,.int .i64 c,.slice q ch.length cap]] w fun en w'=>en=.returned (.int .i64 0)∧St W0 w' K L:=zKS qb bcap c q cap ch l false hr hfit hkb h
theorem zDC(qb:Option Addr)(bcap:Nat)(c:Int)(q:Option Addr)(cap:Nat)(ch:List Int)(l:List BtR)(hr:zBe l ch=true)(hfit:∀x∈l,FitW x.l)(hkb:K.has (Know.btrs (.slice qb l.length bcap) l))(h:St W0 w K L):
 Calls Tryz.prog 7 #[.agg #[.slice qb l.length bcap,.int .i64 c,.slice q ch.length cap]] w fun en w'=>en=.returned (.int .i64 1)∧St W0 w' K L:=zKS qb bcap c q cap ch l true hr hfit hkb h
set_option maxHeartbeats 8000000
theorem wp_big(l:List BtR)(c:Int)(ch:List Int)(qb q:Option Addr)(bcap cap:Nat)(hfit:∀x∈l,FitW x.l)(hs:zBe l ch=false){W0 w:World}{K:Know}(hlib:K.has Know.lib)(hkb:K.has (Know.btrs (.slice qb l.length bcap) l))(hkc:K.has (Know.flat RInt (.slice q ch.length cap) 1 ch))(h:St W0 w K []):
  Calls Tryz.prog 5 #[.agg #[.slice qb l.length bcap,.int .i64 c,.slice q ch.length cap]] w fun en w'=>en=.returned (.bool true)∧Below W0.heap.size W0 w':=by
 obtain⟨rb,hrb⟩:∃b,w.heap.size=b:=⟨_,rfl⟩;have g1:=h.allocRaw #[.slice qb l.length bcap,.int .i64 c,.slice q ch.length cap] 25;rw[hrb]at g1;have x0:=(g1).rawCell 0;have x1:=(g1).rawCell 1;have x2:=(g1).rawCell 2;simp at x0 x1 x2;have H:=hQd g1;have HLIB:=hQd hlib;have HKB:=hQd hkb;have HKC:=hQd hkc;have HFT:=hQd hfit;have t9:True:=trivial;have HSM:=hQd hs;clear h g1 hlib hkb hkc hfit hs;go_enter Tryz.func5,Tryz.ntmps5
 go_wp2_with (first
  |(go_at_call 14;have _t:=t9;clear _t;(with_reducible refine(zIw HLIB.out H.out).mono ?_);rintro e_ wn ⟨rfl,h⟩;have x0:=(h).rawCell 0;have x1:=(h).rawCell 1;have x2:=(h).rawCell 2;simp at x0 x1 x2;replace H:=hQd h;clear h;clear t9)
  |(go_at_call 7;(with_reducible refine(zMY qb bcap c q cap ch l HSM.out HFT.out HKB.out H.out).mono ?_);rintro e_ wn ⟨rfl,h⟩;have x0:=(h).rawCell 0;have x1:=(h).rawCell 1;have x2:=(h).rawCell 2;simp at x0 x1 x2;replace H:=hQd h;clear h))
 go_ret;exact⟨rfl,H.out.below⟩
theorem wp_not(l:List BtR)(c:Int)(ch:List Int)(qb q:Option Addr)(bcap cap:Nat)(hfit:∀x∈l,FitW x.l)(hs:zBe l ch=true)(hm:¬mayP l c){W0 w:World}{K:Know}(hlib:K.has Know.lib)(hkb:K.has (Know.btrs (.slice qb l.length bcap) l))(hkc:K.has (Know.flat RInt (.slice q ch.length cap) 1 ch))(h:St W0 w K []):
  Calls Tryz.prog 5 #[.agg #[.slice qb l.length bcap,.int .i64 c,.slice q ch.length cap]] w fun en w'=>en=.returned (.bool true)∧Below W0.heap.size W0 w':=by
 obtain⟨rb,hrb⟩:∃b,w.heap.size=b:=⟨_,rfl⟩;have g1:=h.allocRaw #[.slice qb l.length bcap,.int .i64 c,.slice q ch.length cap] 25;rw[hrb]at g1;have x0:=(g1).rawCell 0;have x1:=(g1).rawCell 1;have x2:=(g1).rawCell 2;simp at x0 x1 x2;have H:=hQd g1;have HLIB:=hQd hlib;have HKB:=hQd hkb;have HKC:=hQd hkc;have HFT:=hQd hfit;have t9:True:=trivial;obtain⟨hl8,hc200,hx12⟩:=zBx hs;have HSM:=hQd hs;have HLL:=hQd (show(l.length:Int)≤1000000 by omega);have HRL:=hQd (show ∀x∈l,(x.l.length:Int)≤1000000 from fun x hx=>by have:=(hx12 x hx).1;omega);have HHL:=hQd (show ∀x∈l,∀y∈x.l,(y.1.hdrs.length:Int)≤1000000 from fun x hx y hy=>by have:=(hx12 x hx).2 y hy;omega);have HMB:=hQd hm;clear h g1 hlib hkb hkc hfit hs hl8 hc200 hx12 hm;go_enter Tryz.func5,Tryz.ntmps5
 go_wp2_with (first
  |(go_at_call 14;have _t:=t9;clear _t;(with_reducible refine(zIw HLIB.out H.out).mono ?_);rintro e_ wn ⟨rfl,h⟩;have x0:=(h).rawCell 0;have x1:=(h).rawCell 1;have x2:=(h).rawCell 2;simp at x0 x1 x2;replace H:=hQd h;clear h;clear t9)
  |(go_at_call 7;(with_reducible refine(zDC qb bcap c q cap ch l HSM.out HFT.out HKB.out H.out).mono ?_);rintro e_ wn ⟨rfl,h⟩;have x0:=(h).rawCell 0;have x1:=(h).rawCell 1;have x2:=(h).rawCell 2;simp at x0 x1 x2;replace H:=hQd h;clear h)
  |(go_at_call 13;(with_reducible refine(zPZ _ c q cap ch l HMB.out HLL.out HRL.out HHL.out HKB.out H.out).mono ?_);rintro e_ wn ⟨rfl,h⟩;have x0:=(h).rawCell 0;have x1:=(h).rawCell 1;have x2:=(h).rawCell 2;simp at x0 x1 x2;replace H:=hQd h;clear h))
 go_ret;exact⟨rfl,H.out.below⟩
theorem wp_err(l:List BtR)(c:Int)(ch:List Int)(qb q:Option Addr)(bcap cap:Nat)(hfit:∀x∈l,FitW x.l)(hs:zBe l ch=true)(hm:mayP l c)(vs:List BatS)(hvs:l.map BtR.val=vs)(hv:∀b∈vs,OkV b)(s:Bs)(e:Int)(hab:allB (l.map zA4)=(s,e))(he0:¬e=0){W0 w:World}{K:Know}(hlib:K.has Know.lib)(hkb:K.has (Know.btrs (.slice qb l.length bcap) l))(hkc:K.has (Know.flat RInt (.slice q ch.length cap) 1 ch))(h:St W0 w K []):
  Calls Tryz.prog 5 #[.agg #[.slice qb l.length bcap,.int .i64 c,.slice q ch.length cap]] w fun en w'=>en=.returned (.bool true)∧Below W0.heap.size W0 w':=by
 obtain⟨rb,hrb⟩:∃b,w.heap.size=b:=⟨_,rfl⟩;have g1:=h.allocRaw #[.slice qb l.length bcap,.int .i64 c,.slice q ch.length cap] 25;rw[hrb]at g1;have x0:=(g1).rawCell 0;have x1:=(g1).rawCell 1;have x2:=(g1).rawCell 2;simp at x0 x1 x2;have H:=hQd g1;have HLIB:=hQd hlib;have HKB:=hQd hkb;have HKC:=hQd hkc;have HFT:=hQd hfit;have t9:True:=trivial;obtain⟨hl8,hc200,hx12⟩:=zBx hs;have HSM:=hQd hs;have HLL:=hQd (show(l.length:Int)≤1000000 by omega);have HRL:=hQd (show ∀x∈l,(x.l.length:Int)≤1000000 from fun x hx=>by have:=(hx12 x hx).1;omega);have HHL:=hQd (show ∀x∈l,∀y∈x.l,(y.1.hdrs.length:Int)≤1000000 from fun x hx y hy=>by have:=(hx12 x hx).2 y hy;omega);have HMB:=hQd hm;have HVS:=hQd hvs;have HV:=hQd hv;have HL8:=hQd (show vs.length≤8 by have h9:=congrArg List.length hvs;rw[List.length_map]at h9;omega);have HAB:=hQd hab;have q1:(e==0)=false:=by rw[beq_eq_false_iff_ne];exact he0
 have q2:(e !=0)=true:=by simp[bne,q1]
 clear h g1 hlib hkb hkc hfit hs hl8 hc200 hx12 hm hvs hv hab he0;go_enter Tryz.func5,Tryz.ntmps5
 go_wp2_with (first
  |(go_at_call 14;have _t:=t9;clear _t;(with_reducible refine(zIw HLIB.out H.out).mono ?_);rintro e_ wn ⟨rfl,h⟩;have x0:=(h).rawCell 0;have x1:=(h).rawCell 1;have x2:=(h).rawCell 2;simp at x0 x1 x2;replace H:=hQd h;clear h;clear t9)
  |(go_at_call 7;(with_reducible refine(zDC qb bcap c q cap ch l HSM.out HFT.out HKB.out H.out).mono ?_);rintro e_ wn ⟨rfl,h⟩;have x0:=(h).rawCell 0;have x1:=(h).rawCell 1;have x2:=(h).rawCell 2;simp at x0 x1 x2;replace H:=hQd h;clear h)
  |(go_at_call 13;(with_reducible refine(zJZ _ c q cap ch l HMB.out HLL.out HRL.out HHL.out HKB.out H.out).mono ?_);rintro e_ wn ⟨rfl,h⟩;have x0:=(h).rawCell 0;have x1:=(h).rawCell 1;have x2:=(h).rawCell 2;simp at x0 x1 x2;replace H:=hQd h;clear h)
  |(go_at_call 19;(with_reducible refine(zOo vs HV.out HL8.out l HVS.out s e HAB.out qb bcap HKB.out H.out).mono ?_);rintro e_ wn ⟨rfl,h⟩;have x0:=(h).rawCell 0;have x1:=(h).rawCell 1;have x2:=(h).rawCell 2;simp at x0 x1 x2;replace H:=hQd h;clear h))
 go_ret;exact⟨rfl,H.out.below⟩
theorem zIx(vs:List BatS)(hv:∀b∈vs,OkV b)(he:∀b∈vs,zAc b=0)(hl8:vs.length≤8)(A0:Bs)(hA0:vs.flatMap BatS.enc=A0)(l:List BtR)(hvs:l.map BtR.val=vs)(c:Int)(hcr:Rn c)(ch:List Int)(hchr:∀v∈ch,Rn v)(hcl:ch.length≤1000){A T:Bs}{bs:List BatS}{pv:Nat}{rest:Bs}{pe ps:Int}(hA:cutA c A0=A)(tk:ToldOk A T bs pv rest pe ps)(S:Bs)(hS:l.flatMap btT++(cutT c++chT ch)=S)(hSl:S.length≤900000)(hcm: -1≤c)(hfine:∀x∈l,zBG x){W0 w:World}{K:Know}{L:List Res}(hlib:K.has Know.lib)(hAl0:A0.length≤1000000)(h:St W0 w K L):
  Calls Tryz.prog 14 #[.string (bb S)] w fun en w'=>en=.returned (.string (bb T))∧St W0 w' K L:=by
 have H:=hQd h;have HV:=hQd hv;have HE:=hQd he;have HL8:=hQd hl8;have HA0:=hQd hA0;have HVS:=hQd hvs;have HCR:=hQd hcr;have HCHR:=hQd hchr;have HCL:=hQd hcl;have HA:=hQd hA;have HTK:=hQd tk;have HS:=hQd hS;have HSL:=hQd hSl;have HCM:=hQd hcm;have HFN:=hQd hfine;have HLIB:=hQd hlib;have HAL0:=hQd hAl0;clear h hv he hl8 hA0 hvs hcr hchr hcl hA tk hS hSl hcm hfine hlib hAl0;go_enter Tryz.func14,Tryz.ntmps14
 go_wp2_with (first
  |(go_at_call 41;(with_reducible refine(zL5 l c ch S HS.out HSL.out HCM.out HCR.out HCHR.out HFN.out HLIB.out H.out).mono ?_);rintro e_ wn ⟨K2,l2,q2,q3,b2,cap3,rfl,hkk,hkb2,hkc2,hval2,h⟩;have HKK:=hQd hkk;have HKB2:=hQd hkb2;have HKC2:=hQd hkc2;have HV2:=hQd (hval2.trans HVS.out);have HLIB2:=hQd (Know.has_trans hkk HLIB.out);clear hkk hkb2 hkc2 hval2;obtain⟨xb,hxb⟩:∃y,wn.heap.size=y:=⟨_,rfl⟩;have h:=h.allocRaw #[.slice q2 l2.length b2,.int .i64 c,.slice q3 ch.length cap3] 25;rw[hxb]at h;have x0:=(h).rawCell 0;have x1:=(h).rawCell 1;have x2:=(h).rawCell 2;simp at x0 x1 x2;replace H:=hQd h;clear h)
  |(go_at_call 12;(with_reducible refine(zOL vs HV.out HE.out HL8.out A0 HA0.out l2 HV2.out c HCR.out ch HCHR.out HCL.out HA.out HTK.out q2 q3 b2 cap3 HLIB2.out HKB2.out HKC2.out HAL0.out H.out).mono ?_);rintro e_ wn ⟨rfl,h⟩;replace H:=hQd h;clear h))
 go_ret;exact⟨rfl,H.out.drop.know HKK.out⟩
open Go.ChangeShapes Go.WideShapes Go.ChangeAt Go.Deep
theorem zJv:Tryz.prog.cellsOf 73=3:=by kernel_rfl
theorem zC5:Tryz.prog.cellsOf 51=2:=by kernel_rfl
theorem zC4:Tryz.prog.cellsOf 4=1:=by kernel_rfl
section
variable {H:Type}{enc:TypeId×Value→H}{w:World}{spare:Nat→Bool}{held:Bool}
end
end Go.Proofs.YtenojajfacacoaaGreatDoor
namespace Go.Proofs.YtenojajfacacoaaGreatDoor
open Go.RowKit
set_option maxRecDepth 100000
open Go.ChangeShapes Go.WideShapes Go.ChangeAt Go.Deep
section
variable {H:Type}{enc:TypeId×Value→H}{w:World}{spare:Nat→Bool}{held:Bool}
theorem zEz{N:Nat}:∀n cs y,DataW.trod enc Tryz.prog w 0 spare held n 51 cs=some y→zC9 51 y.1→(∀x∈y.2,x.block<N)→∃x:BlobS,cs=[.bool x.null,.string (bb x.data)]∧x.data.length≤140737488351232:=by
 intro n cs y h hl hN;obtain⟨hc,m,hf⟩:=zBP Tryz.underlying51 h hl hN;rw[zC5]at hc;obtain⟨a,b,rfl⟩:=len2 hc;obtain⟨z0,g0,l0,_⟩:=hf 0 _ rfl;obtain⟨z1,g1,l1,_⟩:=hf 1 _ rfl;have g0:DataW.trod enc Tryz.prog w 0 spare held m 4 (List.take (Tryz.prog.cellsOf 4) (List.drop 0 [a,b]))=some z0:=g0;have g1:DataW.trod enc Tryz.prog w 0 spare held m 9 (List.take (Tryz.prog.cellsOf 9) (List.drop 1 [a,b]))=some z1:=g1;rw[zC4]at g0;rw[zJr]at g1;obtain⟨x,e0⟩:=zCX Tryz.underlying4 g0;obtain⟨s,e1,hs⟩:=zIY Tryz.underlying9 g1 l1;simp at e0 e1;subst e0 e1;exact⟨⟨x,s⟩,rfl,hs⟩
theorem zLM{N:Nat}:∀n cs y,DataW.trod enc Tryz.prog w 0 spare held n 73 cs=some y→zC9 73 y.1→(∀x∈y.2,x.block<N)→∃x:HdrS,RHdr cs x∧(x.key.length≤140737488351232∧x.val.data.length≤140737488351232):=by
 intro n cs y h hl hN;obtain⟨hc,m,hf⟩:=zBP Tryz.underlying73 h hl hN;rw[zJv]at hc;obtain⟨a,b,c,rfl⟩:=len3 hc;obtain⟨z0,g0,l0,n0⟩:=hf 0 _ rfl;obtain⟨z1,g1,l1,n1⟩:=hf 1 _ rfl;have g0:DataW.trod enc Tryz.prog w 0 spare held m 9 (List.take (Tryz.prog.cellsOf 9) (List.drop 0 [a,b,c]))=some z0:=g0;have g1:DataW.trod enc Tryz.prog w 0 spare held m 51 (List.take (Tryz.prog.cellsOf 51) (List.drop 1 [a,b,c]))=some z1:=g1;rw[zJr]at g0;rw[zC5]at g1;obtain⟨s,e0,hs⟩:=zIY Tryz.underlying9 g0 l0;obtain⟨x,e1,hx⟩:=zEz _ _ _ g1 l1 n1;simp at e0 e1;obtain⟨e1,e2⟩:=e1;subst e0 e1 e2;exact⟨⟨s,x⟩,rfl,hs,hx⟩
end
end Go.Proofs.YtenojajfacacoaaGreatDoor
namespace Go.Proofs.YtenojajfacacoaaGreatDoor
open Go.RowKit
end Go.Proofs.YtenojajfacacoaaGreatDoor
namespace Go.Proofs.YtenojajfacacoaaGreatDoor
open Go.Joins Go.RowKit
open Go.ChangeShapes Go.WideShapes Go.ChangeAt Go.Deep
theorem zJt:Tryz.prog.cellsOf 54=7:=by kernel_rfl
theorem zMt:Tryz.prog.cellsOf 52=1:=by kernel_rfl
section
variable {H:Type}{enc:TypeId×Value→H}{w:World}{spare:Nat→Bool}{held:Bool}
end
end Go.Proofs.YtenojajfacacoaaGreatDoor
namespace Go.Proofs.YtenojajfacacoaaGreatDoor
open Go.RowKit
def GoodR (l:List (RecS×Value)):Prop:=∀x∈l,smallR x.1=1∧zAV x.1=0
theorem GoodR.nil:GoodR []:=fun _ h=>by cases h
def FitR (l:List (RecS×Value)):Prop:=∀x∈l,x.1.R∧x.1.hdrs.length≤9223372036854775807∧HFit x.1.hdrs∧x.1.key.data.length≤140737488351232∧x.1.val.data.length≤140737488351232
end Go.Proofs.YtenojajfacacoaaGreatDoor
namespace Go.Proofs.YtenojajfacacoaaGreatDoor
open Go.Joins Go.RowKit
set_option maxHeartbeats 1000000
set_option maxRecDepth 100000
open Go.ChangeShapes Go.WideShapes Go.ChangeAt Go.Deep
def QRec (W:World) (x:RecS×Value):Prop:=RowsOf (fun _ cs x=>RHdr cs x) (· <W.heap.size) W x.2 3 x.1.hdrs∧x.1.R∧x.1.hdrs.length≤9223372036854775807∧HFit x.1.hdrs∧x.1.key.data.length≤140737488351232∧x.1.val.data.length≤140737488351232
theorem QRec.fit{W:World}{l:List (RecS×Value)}(h:∀x∈l,QRec W x):FitR l:=fun x hx=>(h x hx).2
theorem QRec.start{W:World}{v:Value}{l:List (RecS×Value)}(hr:RowsOf (fun _ cs x=>RRec cs x) (· <W.heap.size) W v 7 l)(h:∀x∈l,QRec W x):St W W (Know.recs v l) []:=St.start ⟨hr,fun x hx=>(h x hx).1⟩
section
variable {H:Type}{enc:TypeId×Value→H}{w:World}{spare:Nat→Bool}{held:Bool}
theorem zLJ:∀n cs y,DataW.trod enc Tryz.prog w 0 spare held n 54 cs=some y→zC9 54 y.1→(∀x∈y.2,x.block<w.heap.size)→∃x:RecS×Value,RRec cs x∧QRec w x:=by
 intro n cs y hf hl hN;have hNw:w.heap.size≤w.heap.size:=Nat.le_refl _;obtain⟨hc,m,hg⟩:=zBP Tryz.underlying54 hf hl hN;rw[zJt]at hc
 match cs,hc with
 |[c0,c1,c2,c3,c4,c5,c6],_=>
  obtain⟨z0,g0,l0,n0⟩:=hg 0 _ rfl;have g0:DataW.trod enc Tryz.prog w 0 spare held m 3 (List.take (Tryz.prog.cellsOf 3) (List.drop 0 [c0,c1,c2,c3,c4,c5,c6]))=some z0:=g0;rw[zBc]at g0;obtain⟨z1,g1,l1,n1⟩:=hg 1 _ rfl;have g1:DataW.trod enc Tryz.prog w 0 spare held m 3 (List.take (Tryz.prog.cellsOf 3) (List.drop 1 [c0,c1,c2,c3,c4,c5,c6]))=some z1:=g1;rw[zBc]at g1;obtain⟨z2,g2,l2,n2⟩:=hg 2 _ rfl;have g2:DataW.trod enc Tryz.prog w 0 spare held m 51 (List.take (Tryz.prog.cellsOf 51) (List.drop 2 [c0,c1,c2,c3,c4,c5,c6]))=some z2:=g2;rw[zC5]at g2;obtain⟨z3,g3,l3,n3⟩:=hg 3 _ rfl;have g3:DataW.trod enc Tryz.prog w 0 spare held m 51 (List.take (Tryz.prog.cellsOf 51) (List.drop 4 [c0,c1,c2,c3,c4,c5,c6]))=some z3:=g3;rw[zC5]at g3;obtain⟨z4,g4,l4,n4⟩:=hg 4 _ rfl;have g4:DataW.trod enc Tryz.prog w 0 spare held m 52 (List.take (Tryz.prog.cellsOf 52) (List.drop 6 [c0,c1,c2,c3,c4,c5,c6]))=some z4:=g4;rw[zMt]at g4;obtain⟨x0,e0,r0⟩:=zAS Tryz.underlying3 g0;obtain⟨x1,e1,r1⟩:=zAS Tryz.underlying3 g1;obtain⟨x2,e2,s2⟩:=zEz _ _ _ g2 l2 n2;obtain⟨x3,e3,s3⟩:=zEz _ _ _ g3 l3 n3;obtain⟨v6,x4,e4,hr,_,hm⟩:=zCW (R:=fun w cs x=>(fun _ cs x=>RHdr cs x) w cs x∧(fun x:HdrS=>x.key.length≤140737488351232∧x.val.data.length≤140737488351232) x) (N:=w.heap.size) Tryz.underlying52 zJv (by decide) zLM g4 l4 n4 hNw;obtain⟨hr1,hq⟩:=hr.part;simp at e0 e1 e2 e3 e4;obtain⟨e2a,e2b⟩:=e2;obtain⟨e3a,e3b⟩:=e3;subst e0 e1 e2a e2b e3a e3b e4;have hm2:x4.length≤9223372036854775807:=hm;exact⟨(⟨x0,x1,x2,x3,x4⟩,_),rfl,hr1,⟨r0,r1⟩,hm2,hq,s2,s3⟩
end
end Go.Proofs.YtenojajfacacoaaGreatDoor
namespace Go.Proofs.YtenojajfacacoaaGreatDoor
open Go.Joins Go.RowKit
set_option maxHeartbeats 2000000
set_option maxRecDepth 100000
open Go.ChangeShapes Go.WideShapes Go.ChangeAt Go.Deep
theorem zOh:Tryz.prog.cellsOf 30=12:=by kernel_rfl
theorem zMs:Tryz.prog.cellsOf 28=1:=by kernel_rfl
section
variable {H:Type}{enc:TypeId×Value→H}{w:World}{spare:Nat→Bool}{held:Bool}
theorem zOn:∀n cs y,DataW.trod enc Tryz.prog w 0 spare held n 30 cs=some y→zC9 30 y.1→(∀x∈y.2,x.block<w.heap.size)→
    ∃(base leader:Int) (app txn ctl:Bool) (last first maxt prod epoch sq:Int) (l:List (RecS×Value)) (rv:Value),cs=[.int .i64 base,.int .i64 leader,.bool app,.bool txn,.bool ctl,.int .i64 last,.int .i64 first,.int .i64 maxt,.int .i64 prod,.int .i64 epoch,.int .i64 sq,rv]∧
      BatS.R ⟨base,leader,app,txn,ctl,last,first,maxt,prod,epoch,sq,l.map (·.1)⟩∧RowsOf (fun _ cs x=>RRec cs x) (· <w.heap.size) w rv 7 l∧(∀x∈l,QRec w x):=by
  intro n cs y hf hl hN;obtain⟨hc,m,hg⟩:=zBP Tryz.underlying30 hf hl hN;rw[zOh]at hc
  match cs,hc with
  |[c0,c1,c2,c3,c4,c5,c6,c7,c8,c9,c10,c11],_=>
    obtain⟨z0,g0,l0,n0⟩:=hg 0 _ rfl;have g0:DataW.trod enc Tryz.prog w 0 spare held m 3 (List.take (Tryz.prog.cellsOf 3) (List.drop 0 [c0,c1,c2,c3,c4,c5,c6,c7,c8,c9,c10,c11]))=some z0:=g0;rw[zBc]at g0;obtain⟨z1,g1,l1,n1⟩:=hg 1 _ rfl;have g1:DataW.trod enc Tryz.prog w 0 spare held m 3 (List.take (Tryz.prog.cellsOf 3) (List.drop 1 [c0,c1,c2,c3,c4,c5,c6,c7,c8,c9,c10,c11]))=some z1:=g1;rw[zBc]at g1;obtain⟨z2,g2,l2,n2⟩:=hg 2 _ rfl;have g2:DataW.trod enc Tryz.prog w 0 spare held m 4 (List.take (Tryz.prog.cellsOf 4) (List.drop 2 [c0,c1,c2,c3,c4,c5,c6,c7,c8,c9,c10,c11]))=some z2:=g2;rw[zC4]at g2;obtain⟨z3,g3,l3,n3⟩:=hg 3 _ rfl;have g3:DataW.trod enc Tryz.prog w 0 spare held m 4 (List.take (Tryz.prog.cellsOf 4) (List.drop 3 [c0,c1,c2,c3,c4,c5,c6,c7,c8,c9,c10,c11]))=some z3:=g3;rw[zC4]at g3;obtain⟨z4,g4,l4,n4⟩:=hg 4 _ rfl;have g4:DataW.trod enc Tryz.prog w 0 spare held m 4 (List.take (Tryz.prog.cellsOf 4) (List.drop 4 [c0,c1,c2,c3,c4,c5,c6,c7,c8,c9,c10,c11]))=some z4:=g4;rw[zC4]at g4;obtain⟨z5,g5,l5,n5⟩:=hg 5 _ rfl;have g5:DataW.trod enc Tryz.prog w 0 spare held m 3 (List.take (Tryz.prog.cellsOf 3) (List.drop 5 [c0,c1,c2,c3,c4,c5,c6,c7,c8,c9,c10,c11]))=some z5:=g5;rw[zBc]at g5;obtain⟨z6,g6,l6,n6⟩:=hg 6 _ rfl;have g6:DataW.trod enc Tryz.prog w 0 spare held m 3 (List.take (Tryz.prog.cellsOf 3) (List.drop 6 [c0,c1,c2,c3,c4,c5,c6,c7,c8,c9,c10,c11]))=some z6:=g6;rw[zBc]at g6;obtain⟨z7,g7,l7,n7⟩:=hg 7 _ rfl;have g7:DataW.trod enc Tryz.prog w 0 spare held m 3 (List.take (Tryz.prog.cellsOf 3) (List.drop 7 [c0,c1,c2,c3,c4,c5,c6,c7,c8,c9,c10,c11]))=some z7:=g7;rw[zBc]at g7;obtain⟨z8,g8,l8,n8⟩:=hg 8 _ rfl;have g8:DataW.trod enc Tryz.prog w 0 spare held m 3 (List.take (Tryz.prog.cellsOf 3) (List.drop 8 [c0,c1,c2,c3,c4,c5,c6,c7,c8,c9,c10,c11]))=some z8:=g8;rw[zBc]at g8;obtain⟨z9,g9,l9,n9⟩:=hg 9 _ rfl;have g9:DataW.trod enc Tryz.prog w 0 spare held m 3 (List.take (Tryz.prog.cellsOf 3) (List.drop 9 [c0,c1,c2,c3,c4,c5,c6,c7,c8,c9,c10,c11]))=some z9:=g9;rw[zBc]at g9;obtain⟨z10,g10,l10,n10⟩:=hg 10 _ rfl;have g10:DataW.trod enc Tryz.prog w 0 spare held m 3 (List.take (Tryz.prog.cellsOf 3) (List.drop 10 [c0,c1,c2,c3,c4,c5,c6,c7,c8,c9,c10,c11]))=some z10:=g10;rw[zBc]at g10;obtain⟨z11,g11,l11,n11⟩:=hg 11 _ rfl;have g11:DataW.trod enc Tryz.prog w 0 spare held m 28 (List.take (Tryz.prog.cellsOf 28) (List.drop 11 [c0,c1,c2,c3,c4,c5,c6,c7,c8,c9,c10,c11]))=some z11:=g11;rw[zMs]at g11;obtain⟨x0,e0,r0⟩:=zAS Tryz.underlying3 g0;obtain⟨x1,e1,r1⟩:=zAS Tryz.underlying3 g1;obtain⟨x2,e2⟩:=zCX Tryz.underlying4 g2;obtain⟨x3,e3⟩:=zCX Tryz.underlying4 g3;obtain⟨x4,e4⟩:=zCX Tryz.underlying4 g4;obtain⟨x5,e5,r5⟩:=zAS Tryz.underlying3 g5;obtain⟨x6,e6,r6⟩:=zAS Tryz.underlying3 g6;obtain⟨x7,e7,r7⟩:=zAS Tryz.underlying3 g7;obtain⟨x8,e8,r8⟩:=zAS Tryz.underlying3 g8;obtain⟨x9,e9,r9⟩:=zAS Tryz.underlying3 g9;obtain⟨x10,e10,r10⟩:=zAS Tryz.underlying3 g10;obtain⟨v11,x11,e11,hrq,_,_⟩:=zCW (R:=fun w' cs x=>(fun _ cs x=>RRec cs x) w' cs x∧QRec w x) (N:=w.heap.size) Tryz.underlying28 zJt (by decide) zLJ g11 l11 n11 (Nat.le_refl _);obtain⟨hr,hq⟩:=hrq.part;simp at e0 e1 e2 e3 e4 e5 e6 e7 e8 e9 e10 e11;subst e0 e1 e2 e3 e4 e5 e6 e7 e8 e9 e10 e11;exact⟨x0,x1,x2,x3,x4,x5,x6,x7,x8,x9,x10,x11,_,rfl,⟨r0,r1,r5,r6,r7,r8,r9,r10⟩,hr,hq⟩
end
end Go.Proofs.YtenojajfacacoaaGreatDoor
namespace Go.Proofs.YtenojajfacacoaaGreatDoor
open Go.RowKit
set_option maxHeartbeats 2000000
set_option maxRecDepth 100000
open Go.ChangeShapes Go.WideShapes Go.ChangeAt Go.Deep
theorem zOd:Tryz.prog.cellsOf 25=3:=by kernel_rfl
theorem zOg:Tryz.prog.cellsOf 22=1:=by kernel_rfl
theorem zJs:Tryz.prog.cellsOf 3=1:=by kernel_rfl
theorem zOf:Tryz.prog.cellsOf 23=1:=by kernel_rfl
theorem zOe:Tryz.prog.cellsOf 30=12:=by kernel_rfl
def QBt (W:World) (x:BtR):Prop:=(RowsOf (fun _ cs x=>RRec cs x) (· <W.heap.size) W x.v 7 x.l∧∀y∈x.l,QRec W y)∧batR x.b∧x.b.recs=x.l.map (·.1)
section
variable {H:Type}{enc:TypeId×Value→H}{w:World}{spare:Nat→Bool}{held:Bool}
theorem zNn:∀n cs y,DataW.trod enc Tryz.prog w 0 spare held n 30 cs=some y→zC9 30 y.1→(∀x∈y.2,x.block<w.heap.size)→∃x:BtR,RBt cs x∧QBt w x:=by
 intro n cs y hf hl hN;obtain⟨base,leader,app,txn,ctl,last,first,maxt,prod,epoch,sq,l,rv,e,hR,hr,hq⟩:=zOn n cs y hf hl hN;refine⟨⟨⟨base,leader,app,txn,ctl,last,first,maxt,prod,epoch,sq,l.map (·.1)⟩,l,rv⟩,e,⟨hr,hq⟩,?_,rfl⟩;obtain⟨a1,a2,a3,a4,a5,a6,a7,a8⟩:=hR;intro n hn;simp only[batN,List.mem_cons,List.not_mem_nil,or_false]at hn
 rcases hn with rfl|rfl|rfl|rfl|rfl|rfl|rfl|rfl<;>assumption
theorem zLL:∀n cs y,DataW.trod enc Tryz.prog w 0 spare held n 3 cs=some y→zC9 3 y.1→(∀x∈y.2,x.block<w.heap.size)→∃x:Int,RInt cs x∧Rn x:=fun _ _ _ h _ _=>zAS Tryz.underlying3 h
theorem zMU:∀n cs y,DataW.trod enc Tryz.prog w 0 spare held n 25 cs=some y→zC9 25 y.1→(∀x∈y.2,x.block<w.heap.size)→
    ∃(l:List BtR) (c:Int) (ch:List Int) (vB vC:Value),cs=[vB,.int .i64 c,vC]∧Rn c∧RowsOf (fun _ cs x=>RBt cs x) (· <w.heap.size) w vB 12 l∧(∀x∈l,QBt w x)∧RowsOf (fun _ cs x=>RInt cs x) (· <w.heap.size) w vC 1 ch∧(∀v∈ch,Rn v):=by
  intro n cs y hf hl hN;obtain⟨hc,m,hg⟩:=zBP Tryz.underlying25 hf hl hN;rw[zOd]at hc
  match cs,hc with
  |[c0,c1,c2],_=>
    obtain⟨z0,g0,l0,n0⟩:=hg 0 _ rfl;have g0:DataW.trod enc Tryz.prog w 0 spare held m 22 (List.take (Tryz.prog.cellsOf 22) (List.drop 0 [c0,c1,c2]))=some z0:=g0;rw[zOg]at g0;obtain⟨z1,g1,l1,n1⟩:=hg 1 _ rfl;have g1:DataW.trod enc Tryz.prog w 0 spare held m 3 (List.take (Tryz.prog.cellsOf 3) (List.drop 1 [c0,c1,c2]))=some z1:=g1;rw[zJs]at g1;obtain⟨z2,g2,l2,n2⟩:=hg 2 _ rfl;have g2:DataW.trod enc Tryz.prog w 0 spare held m 23 (List.take (Tryz.prog.cellsOf 23) (List.drop 2 [c0,c1,c2]))=some z2:=g2;rw[zOf]at g2;obtain⟨v0,x0,e0,hrq,_,_⟩:=zCW (R:=fun w' cs x=>(fun _ cs x=>RBt cs x) w' cs x∧QBt w x) (N:=w.heap.size) Tryz.underlying22 zOe (by decide) zNn g0 l0 n0 (Nat.le_refl _);obtain⟨hr0,hq0⟩:=hrq.part;obtain⟨x1,e1,r1⟩:=zAS Tryz.underlying3 g1;obtain⟨v2,x2,e2,hrq2,_,_⟩:=zCW (R:=fun w' cs x=>(fun _ cs x=>RInt cs x) w' cs x∧Rn x) (N:=w.heap.size) Tryz.underlying23 zJs (by decide) zLL g2 l2 n2 (Nat.le_refl _);obtain⟨hr2,hq2⟩:=hrq2.part;simp at e0 e1 e2;subst e0 e1 e2;exact⟨x0,x1,x2,_,_,rfl,r1,hr0,hq0,hr2,hq2⟩
theorem zOF{r:Reach}{b0:Nat}{v:Value}{d:DataW H}{p:List MemPlace}(hv:Value.okWide Tryz.prog w r b0 25 v)(h:DataW.Trod enc Tryz.prog w 0 spare held 25 v d p)(hl:zC9 25 d)(hN:∀x∈p,x.block<w.heap.size)(hlib:Know.lib.p w (· <w.heap.size)):
  ∃(l:List BtR) (c:Int) (ch:List Int) (qB q:Option Addr) (capB cap:Nat) (K:Know),v=.agg #[.slice qB l.length capB,.int .i64 c,.slice q ch.length cap]∧Rn c∧(∀v∈ch,Rn v)∧(∀x∈l,QBt w x)∧K.has Know.lib∧K.has (Know.btrs (.slice qB l.length capB) l)∧K.has (Know.flat RInt (.slice q ch.length cap) 1 ch)∧St w w K []:=by
 obtain⟨cs,rfl,hsz⟩:=okWide_struct Tryz.underlying25 hv;obtain⟨fuel,hf⟩:=h;obtain⟨l,c,ch,vB,vC,ec,rc,hr,hq,hri,hqi⟩:=zMU _ _ _ hf hl hN;obtain⟨c'⟩:=cs;have ec:c'=_:=ec;subst ec;obtain⟨qB,capB,hvB⟩:∃q cap,vB=.slice q l.length cap:=by obtain⟨p,cap,hv,_⟩:=hr;exact⟨p,cap,hv⟩
 obtain⟨q,cap,hvC⟩:∃q cap,vC=.slice q ch.length cap:=by obtain⟨p,cap,hv,_⟩:=hri;exact⟨p,cap,hv⟩
 subst hvB hvC;refine⟨l,c,ch,qB,q,capB,cap,Know.lib.and ((Know.btrs (.slice qB l.length capB) l).and (Know.flat RInt (.slice q ch.length cap) 1 ch)),rfl,rc,hqi,hq,Know.has_left (Know.has_refl _),Know.has_right (Know.has_left (Know.has_refl _)),Know.has_right (Know.has_right (Know.has_refl _)),St.start ⟨hlib,⟨hr,fun x hx=>⟨(hq x hx).1.1,fun y hy=>((hq x hx).1.2 y hy).1⟩⟩,hri⟩⟩
end
end Go.Proofs.YtenojajfacacoaaGreatDoor
namespace Go.Proofs.YtenojajfacacoaaGreatDoor
open Go.RowKit
set_option maxHeartbeats 8000000
set_option maxRecDepth 100000
theorem wp_cut(l:List BtR)(c:Int)(ch:List Int)(qb q:Option Addr)(bcap cap:Nat)(hfit:∀x∈l,FitW x.l)(hs:zBe l ch=true)(hm:mayP l c)(vs:List BatS)(hvs:l.map BtR.val=vs)(hv:∀b∈vs,OkV b)(A0:Bs)(hab:allB (l.map zA4)=(A0,0))(he:∀b∈vs,zAc b=0)(hA0:vs.flatMap BatS.enc=A0)(hAl0:A0.length≤100000){A T:Bs}{bs:List BatS}{pv:Nat}{rest:Bs}{pe ps:Int}(hA:cutA c A0=A)(tk:ToldOk A T bs pv rest pe ps)(S:Bs)(hS:l.flatMap btT++(cutT c++chT ch)=S)(hSl:S.length≤300000)(hcr:Rn c)(hchr:∀v∈ch,Rn v)(hfine:∀x∈l,zBG x)(hc0:0≤c){W0 w:World}{K:Know}(hlib:K.has Know.lib)(hkb:K.has (Know.btrs (.slice qb l.length bcap) l))(hkc:K.has (Know.flat RInt (.slice q ch.length cap) 1 ch))(h:St W0 w K []):
  Calls Tryz.prog 5 #[.agg #[.slice qb l.length bcap,.int .i64 c,.slice q ch.length cap]] w fun en w'=>en=.returned (.bool true)∧Below W0.heap.size W0 w':=by
 obtain⟨rb,hrb⟩:∃b,w.heap.size=b:=⟨_,rfl⟩;have g1:=h.allocRaw #[.slice qb l.length bcap,.int .i64 c,.slice q ch.length cap] 25;rw[hrb]at g1;have x0:=(g1).rawCell 0;have x1:=(g1).rawCell 1;have x2:=(g1).rawCell 2;simp at x0 x1 x2;have H:=hQd g1;have HLIB:=hQd hlib;have HKB:=hQd hkb;have HKC:=hQd hkc;have HFT:=hQd hfit;have t9:True:=trivial;obtain⟨hl8,hc200,hx12⟩:=zBx hs;have HSM:=hQd hs;have HLL:=hQd (show(l.length:Int)≤1000000 by omega);have HRL:=hQd (show ∀x∈l,(x.l.length:Int)≤1000000 from fun x hx=>by have:=(hx12 x hx).1;omega);have HHL:=hQd (show ∀x∈l,∀y∈x.l,(y.1.hdrs.length:Int)≤1000000 from fun x hx y hy=>by have:=(hx12 x hx).2 y hy;omega);have HMB:=hQd hm;have HVS:=hQd hvs;have HV:=hQd hv;have HL8:=hQd (show vs.length≤8 by have h9:=congrArg List.length hvs;rw[List.length_map]at h9;omega);have HAB:=hQd hab;have HE:=hQd he;have HA0:=hQd hA0;have HA:=hQd hA;have HTK:=hQd tk;have HS:=hQd hS;have HSL1:=hQd (show S.length≤1000000 by omega);have HSL9:=hQd (show S.length≤900000 by omega);have HCM:=hQd hm.1;have HCR:=hQd hcr;have HCHR:=hQd hchr;have HFN:=hQd hfine;have HCL:=hQd (show ch.length≤1000 by omega);have HAL0:=hQd (show A0.length≤1000000 by omega);have hA0i:(A0.length:Int)≤1000000:=by omega
 have HALL:=hQd (show A.length≤1000000 by have:=tk.len;omega);obtain⟨w1,hw1⟩:∃w,hexW A=w:=⟨_,rfl⟩;have HW1:=hQd hw1;have HV1:=hQd (show hexV w1=(A,true) by rw[←hw1];exact zDO A);have HWL:=hQd (show w1.length≤1000000 by have h9:=zHN A;rw[hw1]at h9;have:=tk.len;omega);have e1:(T==T)=true:=by simp
 have hcr2:=hcr;unfold Rn at hcr2;obtain⟨hcr3,hcr4⟩:=hcr2;have KPW:=hQd (show ∀w',St W0 w' K (.raw rb #[.slice qb l.length bcap,.int .i64 c,.slice q ch.length cap] 25::[])→(w'.cell? ⟨rb,2,none⟩=some (.slice q ch.length cap))from fun w' h'=>h'.rawCell 2);have d1:decide (0≤c)=true:=decide_eq_true hc0;have HMIN:=hQd (show A0.take (min c (A0.length:Int)).toNat=A from(zPk hc0).trans hA);have hm0:0≤min c (A0.length:Int):=by omega
 have hm1:min c (A0.length:Int)≤(A0.length:Int):=by omega
 have hm2:(min c (A0.length:Int)).toNat≤A0.length:=by omega
 clear h g1 hlib hkb hkc hfit hs hl8 hc200 hx12 hm hvs hv hab he hA0 hAl0 hA tk hS hSl hcr hchr hfine hw1;go_enter Tryz.func5,Tryz.ntmps5
 go_upto_region 11 with (first
  |(go_at_call 14;have _t:=t9;clear _t;(with_reducible refine(zIw HLIB.out H.out).mono ?_);rintro e_ wn ⟨rfl,h⟩;have x0:=(h).rawCell 0;have x1:=(h).rawCell 1;have x2:=(h).rawCell 2;simp at x0 x1 x2;replace H:=hQd h;clear h;clear t9)
  |(go_at_call 7;(with_reducible refine(zDC qb bcap c q cap ch l HSM.out HFT.out HKB.out H.out).mono ?_);rintro e_ wn ⟨rfl,h⟩;have x0:=(h).rawCell 0;have x1:=(h).rawCell 1;have x2:=(h).rawCell 2;simp at x0 x1 x2;replace H:=hQd h;clear h)
  |(go_at_call 13;(with_reducible refine(zJZ _ c q cap ch l HMB.out HLL.out HRL.out HHL.out HKB.out H.out).mono ?_);rintro e_ wn ⟨rfl,h⟩;have x0:=(h).rawCell 0;have x1:=(h).rawCell 1;have x2:=(h).rawCell 2;simp at x0 x1 x2;replace H:=hQd h;clear h)
  |(go_at_call 19;(with_reducible refine(zOo vs HV.out HL8.out l HVS.out A0 0 HAB.out qb bcap HKB.out H.out).mono ?_);rintro e_ wn ⟨rfl,h⟩;have x0:=(h).rawCell 0;have x1:=(h).rawCell 1;have x2:=(h).rawCell 2;simp at x0 x1 x2;replace H:=hQd h;clear h)
  |(go_at_call 20;(with_reducible refine(zKT c qb q bcap cap ch l S HS.out HSL1.out HCM.out HCR.out HCHR.out HFN.out HLIB.out HKB.out HKC.out H.out).mono ?_);rintro e_ wn ⟨rfl,h⟩;have x0:=(h).rawCell 0;have x1:=(h).rawCell 1;have x2:=(h).rawCell 2;simp at x0 x1 x2;replace H:=hQd h;clear h)
  |(go_at_call 14;(with_reducible refine(zIx vs HV.out HE.out HL8.out A0 HA0.out l HVS.out c HCR.out ch HCHR.out HCL.out HA.out HTK.out S HS.out HSL9.out HCM.out HFN.out HLIB.out HAL0.out H.out).mono ?_);rintro e_ wn ⟨rfl,h⟩;have x0:=(h).rawCell 0;have x1:=(h).rawCell 1;have x2:=(h).rawCell 2;simp at x0 x1 x2;replace H:=hQd h;clear h))
 rw[HMIN.out];have hs:=H.out.drew;clear H x0 x1 x2;refine wp_region_held_drew (S:=fun w'=>w'.cell? ⟨rb,2,none⟩=some (.slice q ch.length cap)) (by kernel_rfl) (KPW.out _ hs) (fun hHeld=> ?_);refine tQ 0 ⟨some 37,.move (.tmp 5),9,_,_,none⟩ ?_;simp only[Act.put,sA,sB,sC];refine tQ 1 ⟨some 38,.move (.tmp 3),9,_,_,none⟩ ?_;simp only[Act.put,sA,sB,sC];refine tQ 3 ⟨some 40,.fieldAddr 25 (.tmp 1) 2,0,_,_,none⟩ ?_;simp only[Act.put,sA,sB,sC];refine tQ 4 ⟨some 41,.load 23 (.tmp 40),23,_,_,none⟩ ?_;simp only[Act.put,sA,sB,sC];refine wpAnyH_ready (rs:=[2]) (by kernel_rfl) (by simp) (AllReadyH.cons (o:=⟨some 39,.call {callee:=.value (.func 21),args:= #[.tmp 38],argTypes:= #[9]},9,_,_,none⟩) rfl (fun KK hK=> ?_) AllReadyH.nil);go_simp;go_at_call 21;with_reducible refine(zFo A w1 HW1.out HALL.out hs).mono ?_;rintro e wq ⟨rfl,hs⟩;refine hK.out _ _ (KPW.out _ hs) (fun hHeld=> ?_);clear hK KK
 try simp only[Act.put,sA,sB,sC]
 refine wpAnyH_ready (rs:=[5]) (by kernel_rfl) (by simp) (AllReadyH.cons (o:=⟨some 42,.call {callee:=.value (.func 16),args:= #[.tmp 39,.tmp 41],argTypes:= #[9,23]},9,_,_,none⟩) rfl (fun KK hK=> ?_) AllReadyH.nil);go_simp;go_at_call 16;with_reducible refine(zFr HTK.out w1 HV1.out HWL.out ch HCHR.out HCL.out q cap HLIB.out HKC.out hs).mono ?_;rintro e wq ⟨rfl,hs⟩;refine hK.out _ _ (KPW.out _ hs) (fun hHeld=> ?_);clear hK KK
 try simp only[Act.put,sA,sB,sC]
 refine tQ 6 ⟨some 43,.binOp .eql 9 (.tmp 37) (.tmp 42) 9,4,_,_,none⟩ ?_;simp only[Act.put,sA,sB,sC];refine tQ 7 ⟨some 44,.move (.tmp 43),4,_,_,none⟩ ?_;simp only[Act.put,sA,sB,sC];refine tQ 8 ⟨some 45,.move (.tmp 5),9,_,_,some (7,true)⟩ ?_;simp only[Act.put,sA,sB,sC];refine tQ 9 ⟨some 46,.move (.tmp 3),9,_,_,some (7,true)⟩ ?_;simp only[Act.put,sA,sB,sC];refine wpAnyH_ready (rs:=[10]) (by kernel_rfl) (by simp) (AllReadyH.cons (o:=⟨some 47,.call {callee:=.value (.func 21),args:= #[.tmp 46],argTypes:= #[9]},9,_,_,some (7,true)⟩) rfl (fun KK hK=> ?_) AllReadyH.nil);go_simp;go_at_call 21;with_reducible refine(zFo A w1 HW1.out HALL.out hs).mono ?_;rintro e wq ⟨rfl,hs⟩;refine hK.out _ _ (KPW.out _ hs) (fun hHeld=> ?_);clear hK KK
 try simp only[Act.put,sA,sB,sC]
 refine wpAnyH_ready (rs:=[11]) (by kernel_rfl) (by simp) (AllReadyH.cons (o:=⟨some 48,.call {callee:=.value (.func 16),args:= #[.tmp 47,.const (Value.slice none 0 0)],argTypes:= #[9,23]},9,_,_,some (7,true)⟩) rfl (fun KK hK=> ?_) AllReadyH.nil);go_simp;go_at_call 16;with_reducible refine(zNo HTK.out w1 HV1.out HWL.out HLIB.out hs).mono ?_;rintro e wq ⟨rfl,hs⟩;refine hK.out _ _ (KPW.out _ hs) (fun hHeld=> ?_);clear hK KK
 try simp only[Act.put,sA,sB,sC]
 refine tQ 12 ⟨some 49,.binOp .eql 9 (.tmp 45) (.tmp 48) 9,4,_,_,some (7,true)⟩ ?_;simp only[Act.put,sA,sB,sC];refine tQ 13 ⟨some 50,.pick (.tmp 44) (.tmp 49) (.const (Value.bool false)),4,_,_,none⟩ ?_;simp only[Act.put,sA,sB,sC];refine tQ 14 ⟨some 2,.assign (.tmp 50),4,_,_,none⟩ ?_;simp only[Act.put,sA,sB,sC];refine wpAnyH_done (by kernel_rfl) ?_ _;clear hHeld;have H:=hQd hs;clear hs;go_wp2_with fail;go_ret;exact⟨rfl,H.out.below⟩
theorem zOv(l:List BtR)(c:Int)(ch:List Int)(qb q:Option Addr)(bcap cap:Nat)(hfit:∀x∈l,FitW x.l)(hs:zBe l ch=true)(hm:mayP l c)(vs:List BatS)(hvs:l.map BtR.val=vs)(hv:∀b∈vs,OkV b)(A0:Bs)(hab:allB (l.map zA4)=(A0,0))(he:∀b∈vs,zAc b=0)(hA0:vs.flatMap BatS.enc=A0)(hAl0:A0.length≤100000){A T:Bs}{bs:List BatS}{pv:Nat}{rest:Bs}{pe ps:Int}(hA:cutA c A0=A)(tk:ToldOk A T bs pv rest pe ps)(S:Bs)(hS:l.flatMap btT++(cutT c++chT ch)=S)(hSl:S.length≤300000)(hcr:Rn c)(hchr:∀v∈ch,Rn v)(hfine:∀x∈l,zBG x)(hc0:¬0≤c){W0 w:World}{K:Know}(hlib:K.has Know.lib)(hkb:K.has (Know.btrs (.slice qb l.length bcap) l))(hkc:K.has (Know.flat RInt (.slice q ch.length cap) 1 ch))(h:St W0 w K []):
  Calls Tryz.prog 5 #[.agg #[.slice qb l.length bcap,.int .i64 c,.slice q ch.length cap]] w fun en w'=>en=.returned (.bool true)∧Below W0.heap.size W0 w':=by
 obtain⟨rb,hrb⟩:∃b,w.heap.size=b:=⟨_,rfl⟩;have g1:=h.allocRaw #[.slice qb l.length bcap,.int .i64 c,.slice q ch.length cap] 25;rw[hrb]at g1;have x0:=(g1).rawCell 0;have x1:=(g1).rawCell 1;have x2:=(g1).rawCell 2;simp at x0 x1 x2;have H:=hQd g1;have HLIB:=hQd hlib;have HKB:=hQd hkb;have HKC:=hQd hkc;have HFT:=hQd hfit;have t9:True:=trivial;obtain⟨hl8,hc200,hx12⟩:=zBx hs;have HSM:=hQd hs;have HLL:=hQd (show(l.length:Int)≤1000000 by omega);have HRL:=hQd (show ∀x∈l,(x.l.length:Int)≤1000000 from fun x hx=>by have:=(hx12 x hx).1;omega);have HHL:=hQd (show ∀x∈l,∀y∈x.l,(y.1.hdrs.length:Int)≤1000000 from fun x hx y hy=>by have:=(hx12 x hx).2 y hy;omega);have HMB:=hQd hm;have HVS:=hQd hvs;have HV:=hQd hv;have HL8:=hQd (show vs.length≤8 by have h9:=congrArg List.length hvs;rw[List.length_map]at h9;omega);have HAB:=hQd hab;have HE:=hQd he;have HA0:=hQd hA0;have HA:=hQd hA;have HTK:=hQd tk;have HS:=hQd hS;have HSL1:=hQd (show S.length≤1000000 by omega);have HSL9:=hQd (show S.length≤900000 by omega);have HCM:=hQd hm.1;have HCR:=hQd hcr;have HCHR:=hQd hchr;have HFN:=hQd hfine;have HCL:=hQd (show ch.length≤1000 by omega);have HAL0:=hQd (show A0.length≤1000000 by omega);have hA0i:(A0.length:Int)≤1000000:=by omega
 have HALL:=hQd (show A.length≤1000000 by have:=tk.len;omega);obtain⟨w1,hw1⟩:∃w,hexW A=w:=⟨_,rfl⟩;have HW1:=hQd hw1;have HV1:=hQd (show hexV w1=(A,true) by rw[←hw1];exact zDO A);have HWL:=hQd (show w1.length≤1000000 by have h9:=zHN A;rw[hw1]at h9;have:=tk.len;omega);have e1:(T==T)=true:=by simp
 have hcr2:=hcr;unfold Rn at hcr2;obtain⟨hcr3,hcr4⟩:=hcr2;have KPW:=hQd (show ∀w',St W0 w' K (.raw rb #[.slice qb l.length bcap,.int .i64 c,.slice q ch.length cap] 25::[])→(w'.cell? ⟨rb,2,none⟩=some (.slice q ch.length cap))from fun w' h'=>h'.rawCell 2);have d1:decide (0≤c)=false:=decide_eq_false hc0;obtain rfl:A0=A:=(zPj hc0).trans hA;clear h g1 hlib hkb hkc hfit hs hl8 hc200 hx12 hm hvs hv hab he hA0 hAl0 hA tk hS hSl hcr hchr hfine hw1;go_enter Tryz.func5,Tryz.ntmps5
 go_upto_region 11 with (first
  |(go_at_call 14;have _t:=t9;clear _t;(with_reducible refine(zIw HLIB.out H.out).mono ?_);rintro e_ wn ⟨rfl,h⟩;have x0:=(h).rawCell 0;have x1:=(h).rawCell 1;have x2:=(h).rawCell 2;simp at x0 x1 x2;replace H:=hQd h;clear h;clear t9)
  |(go_at_call 7;(with_reducible refine(zDC qb bcap c q cap ch l HSM.out HFT.out HKB.out H.out).mono ?_);rintro e_ wn ⟨rfl,h⟩;have x0:=(h).rawCell 0;have x1:=(h).rawCell 1;have x2:=(h).rawCell 2;simp at x0 x1 x2;replace H:=hQd h;clear h)
  |(go_at_call 13;(with_reducible refine(zJZ _ c q cap ch l HMB.out HLL.out HRL.out HHL.out HKB.out H.out).mono ?_);rintro e_ wn ⟨rfl,h⟩;have x0:=(h).rawCell 0;have x1:=(h).rawCell 1;have x2:=(h).rawCell 2;simp at x0 x1 x2;replace H:=hQd h;clear h)
  |(go_at_call 19;(with_reducible refine(zOo vs HV.out HL8.out l HVS.out A0 0 HAB.out qb bcap HKB.out H.out).mono ?_);rintro e_ wn ⟨rfl,h⟩;have x0:=(h).rawCell 0;have x1:=(h).rawCell 1;have x2:=(h).rawCell 2;simp at x0 x1 x2;replace H:=hQd h;clear h)
  |(go_at_call 20;(with_reducible refine(zKT c qb q bcap cap ch l S HS.out HSL1.out HCM.out HCR.out HCHR.out HFN.out HLIB.out HKB.out HKC.out H.out).mono ?_);rintro e_ wn ⟨rfl,h⟩;have x0:=(h).rawCell 0;have x1:=(h).rawCell 1;have x2:=(h).rawCell 2;simp at x0 x1 x2;replace H:=hQd h;clear h)
  |(go_at_call 14;(with_reducible refine(zIx vs HV.out HE.out HL8.out A0 HA0.out l HVS.out c HCR.out ch HCHR.out HCL.out HA.out HTK.out S HS.out HSL9.out HCM.out HFN.out HLIB.out HAL0.out H.out).mono ?_);rintro e_ wn ⟨rfl,h⟩;have x0:=(h).rawCell 0;have x1:=(h).rawCell 1;have x2:=(h).rawCell 2;simp at x0 x1 x2;replace H:=hQd h;clear h))
 have hs:=H.out.drew;clear H x0 x1 x2;refine wp_region_held_drew (S:=fun w'=>w'.cell? ⟨rb,2,none⟩=some (.slice q ch.length cap)) (by kernel_rfl) (KPW.out _ hs) (fun hHeld=> ?_);refine tQ 0 ⟨some 37,.move (.tmp 5),9,_,_,none⟩ ?_;simp only[Act.put,sA,sB,sC];refine tQ 1 ⟨some 38,.move (.tmp 3),9,_,_,none⟩ ?_;simp only[Act.put,sA,sB,sC];refine tQ 3 ⟨some 40,.fieldAddr 25 (.tmp 1) 2,0,_,_,none⟩ ?_;simp only[Act.put,sA,sB,sC];refine tQ 4 ⟨some 41,.load 23 (.tmp 40),23,_,_,none⟩ ?_;simp only[Act.put,sA,sB,sC];refine wpAnyH_ready (rs:=[2]) (by kernel_rfl) (by simp) (AllReadyH.cons (o:=⟨some 39,.call {callee:=.value (.func 21),args:= #[.tmp 38],argTypes:= #[9]},9,_,_,none⟩) rfl (fun KK hK=> ?_) AllReadyH.nil);go_simp;go_at_call 21;with_reducible refine(zFo A0 w1 HW1.out HALL.out hs).mono ?_;rintro e wq ⟨rfl,hs⟩;refine hK.out _ _ (KPW.out _ hs) (fun hHeld=> ?_);clear hK KK
 try simp only[Act.put,sA,sB,sC]
 refine wpAnyH_ready (rs:=[5]) (by kernel_rfl) (by simp) (AllReadyH.cons (o:=⟨some 42,.call {callee:=.value (.func 16),args:= #[.tmp 39,.tmp 41],argTypes:= #[9,23]},9,_,_,none⟩) rfl (fun KK hK=> ?_) AllReadyH.nil);go_simp;go_at_call 16;with_reducible refine(zFr HTK.out w1 HV1.out HWL.out ch HCHR.out HCL.out q cap HLIB.out HKC.out hs).mono ?_;rintro e wq ⟨rfl,hs⟩;refine hK.out _ _ (KPW.out _ hs) (fun hHeld=> ?_);clear hK KK
 try simp only[Act.put,sA,sB,sC]
 refine tQ 6 ⟨some 43,.binOp .eql 9 (.tmp 37) (.tmp 42) 9,4,_,_,none⟩ ?_;simp only[Act.put,sA,sB,sC];refine tQ 7 ⟨some 44,.move (.tmp 43),4,_,_,none⟩ ?_;simp only[Act.put,sA,sB,sC];refine tQ 8 ⟨some 45,.move (.tmp 5),9,_,_,some (7,true)⟩ ?_;simp only[Act.put,sA,sB,sC];refine tQ 9 ⟨some 46,.move (.tmp 3),9,_,_,some (7,true)⟩ ?_;simp only[Act.put,sA,sB,sC];refine wpAnyH_ready (rs:=[10]) (by kernel_rfl) (by simp) (AllReadyH.cons (o:=⟨some 47,.call {callee:=.value (.func 21),args:= #[.tmp 46],argTypes:= #[9]},9,_,_,some (7,true)⟩) rfl (fun KK hK=> ?_) AllReadyH.nil);go_simp;go_at_call 21;with_reducible refine(zFo A0 w1 HW1.out HALL.out hs).mono ?_;rintro e wq ⟨rfl,hs⟩;refine hK.out _ _ (KPW.out _ hs) (fun hHeld=> ?_);clear hK KK
 try simp only[Act.put,sA,sB,sC]
 refine wpAnyH_ready (rs:=[11]) (by kernel_rfl) (by simp) (AllReadyH.cons (o:=⟨some 48,.call {callee:=.value (.func 16),args:= #[.tmp 47,.const (Value.slice none 0 0)],argTypes:= #[9,23]},9,_,_,some (7,true)⟩) rfl (fun KK hK=> ?_) AllReadyH.nil);go_simp;go_at_call 16;with_reducible refine(zNo HTK.out w1 HV1.out HWL.out HLIB.out hs).mono ?_;rintro e wq ⟨rfl,hs⟩;refine hK.out _ _ (KPW.out _ hs) (fun hHeld=> ?_);clear hK KK
 try simp only[Act.put,sA,sB,sC]
 refine tQ 12 ⟨some 49,.binOp .eql 9 (.tmp 45) (.tmp 48) 9,4,_,_,some (7,true)⟩ ?_;simp only[Act.put,sA,sB,sC];refine tQ 13 ⟨some 50,.pick (.tmp 44) (.tmp 49) (.const (Value.bool false)),4,_,_,none⟩ ?_;simp only[Act.put,sA,sB,sC];refine tQ 14 ⟨some 2,.assign (.tmp 50),4,_,_,none⟩ ?_;simp only[Act.put,sA,sB,sC];refine wpAnyH_done (by kernel_rfl) ?_ _;clear hHeld;have H:=hQd hs;clear hs;go_wp2_with fail;go_ret;exact⟨rfl,H.out.below⟩
theorem zFa(l:List BtR)(c:Int)(ch:List Int)(qb q:Option Addr)(bcap cap:Nat)(rc:Rn c)(rch:∀v∈ch,Rn v){W:World}(hq:∀x∈l,QBt W x){W0 w:World}{K:Know}(hlib:K.has Know.lib)(hkb:K.has (Know.btrs (.slice qb l.length bcap) l))(hkc:K.has (Know.flat RInt (.slice q ch.length cap) 1 ch))(h:St W0 w K []):
  Calls Tryz.prog 5 #[.agg #[.slice qb l.length bcap,.int .i64 c,.slice q ch.length cap]] w fun en w'=>en=.returned (.bool true)∧Below W0.heap.size W0 w':=by
 have hfit:∀x∈l,FitW x.l:=fun x hx y hy=>((hq x hx).1.2 y hy).2
 cases hs:zBe l ch with
 |false=>exact wp_big l c ch qb q bcap cap hfit hs hlib hkb hkc h
 |true=>
  have hrn:∀x∈l,∀y∈x.l,Rn y.1.time∧Rn y.1.off:=fun x hx y hy=>((hq x hx).1.2 y hy).2.1
  by_cases hm:mayP l c
  · have hsm:∀x∈l,zAN (x.l.map (·.1))=true:=by
      have h9:=hs;unfold zBe at h9;simp only[Bool.and_eq_true,List.all_eq_true]at h9;exact h9.2.2
    obtain⟨vs,hvs⟩:∃vs,l.map BtR.val=vs:=⟨_,rfl⟩
    have hv:∀b∈vs,OkV b:=by
      intro b hb;rw[←hvs]at hb;obtain⟨x,hx,rfl⟩:=List.mem_map.1 hb;have hbr:=(hq x hx).2.1;have hm9:∀n∈batN x.b,Rn n:=hbr;refine⟨?_,?_,hsm x hx⟩
      · unfold batN at hm9;simp only[List.mem_cons,List.not_mem_nil,or_false,forall_eq_or_imp,forall_eq]at hm9;exact hm9
      · intro r hr;obtain⟨y,hy,rfl⟩:=List.mem_map.1 hr;exact hfit x hx y hy
    have hsb:=zKE hvs hv;have hl8:l.length≤8:=(zBx hs).1;obtain⟨⟨A0,e⟩,hab⟩:∃y,allB (l.map zA4)=y:=⟨_,rfl⟩
    by_cases he0:e=0
    · subst he0
      have herr:errB (l.map zA4)=0:=by
        unfold allB at hab
        split at hab
        · assumption
        · exact congrArg (fun z=>z.2) hab
      have hez:=zJd herr
      have hA0:encB (l.map zA4)=A0:=by
        unfold allB at hab;rw[if_pos herr]at hab;exact congrArg (fun z=>z.1) hab
      have hvb:∀y∈l.map zA4,OkV y.b:=fun y hy=>by
        obtain⟨x,hx,rfl⟩:=List.mem_map.1 hy;rw[zDd];exact hv x.val (by rw[←hvs];exact List.mem_map.2 ⟨x,hx,rfl⟩)
      have hlt:=zEu (l.map zA4) hvb;rw[List.length_map]at hlt;obtain⟨T,bs,pv,rest,pe,ps,tk⟩:=zOx (l.map zA4) (by rw[List.length_map];exact hl8) hvb hsb hez c;rw[hA0]at tk hlt;have hvs0:vs.flatMap BatS.enc=A0:=by rw[←hA0];exact(zLi hvs).symm
      have he:∀b∈vs,zAc b=0:=fun b hb=>by
        rw[←hvs]at hb;obtain⟨x,hx,rfl⟩:=List.mem_map.1 hb;rw[←zDd];exact hez (zA4 x) (List.mem_map.2 ⟨x,hx,rfl⟩)
      have hbr:∀x∈l,batR x.b:=fun x hx=>(hq x hx).2.1
      by_cases hc0:0≤c
      · exact wp_cut l c ch qb q bcap cap hfit hs hm vs hvs hv A0 hab he hvs0 (by omega) rfl tk _ rfl (zIs l c ch hs rc rch hbr hrn) rc rch (zK5 hm hbr hrn) hc0 hlib hkb hkc h
      · exact zOv l c ch qb q bcap cap hfit hs hm vs hvs hv A0 hab he hvs0 (by omega) rfl tk _ rfl (zIs l c ch hs rc rch hbr hrn) rc rch (zK5 hm hbr hrn) hc0 hlib hkb hkc h
    · exact wp_err l c ch qb q bcap cap hfit hs hm vs hvs hv A0 e hab he0 hlib hkb hkc h
  · exact wp_not l c ch qb q bcap cap hfit hs hm hlib hkb hkc h
end Go.Proofs.YtenojajfacacoaaGreatDoor
namespace Go.Proofs.YtenojajfacacoaaGreatDoor
open Go.ChangeShapes Go.WideShapes Go.ChangeAt Go.RowKit
theorem var?_block{P:Program}{W:World}{n:String}{cs:Array Value}{g:Nat}(h:W.var? P n=some cs)(hg:P.globalNamed n=some g):∃T fz,W.heap[g]? =some (.cells cs T fz):=by
 unfold World.var? at h;rw[hg,Option.bind_some]at h
 split at h
 · rename_i c T fz hb
   injection h with h;subst h;exact⟨T,fz,hb⟩
 · cases h
theorem gPow:Tryz.prog.globalNamed "internal/strconv.uint64pow10" =some 1:=by kernel_rfl
theorem gPowT:(Tryz.prog.globals[1]?).map (·.type)=some 219:=by kernel_rfl
theorem gSyn:Tryz.prog.globalNamed "strconv.ErrSyntax" =some 6:=by kernel_rfl
theorem gSynT:(Tryz.prog.globals[6]?).map (·.type)=some 83:=by kernel_rfl
theorem gRng:Tryz.prog.globalNamed "strconv.ErrRange" =some 7:=by kernel_rfl
theorem gRngT:(Tryz.prog.globals[7]?).map (·.type)=some 83:=by kernel_rfl
theorem cES:Tryz.prog.cellsOf 272=1:=by kernel_rfl
theorem cStr:Tryz.prog.cellsOf 9=1:=by kernel_rfl
theorem starE: "*" ++ "errors.errorString" = "*errors.errorString" :=by decide
theorem rowE(u:TypeId)(h:Tryz.prog.typeName? 3 u=some "*errors.errorString"):u=270:=
 typeName_ptr_named (nm:= "errors.errorString") (by rw[starE];kernel_rfl) (by kernel_rfl) (by decide) u (by rw[starE];exact h)
theorem zOW:Rows.laid_internal_strconv_uint64pow10 (H:=Unit)=Lib.tabData .u64 Lib.pow10Tab:=by kernel_rfl
theorem zKi{W:World}(h:laidMetH Tryz.prog [("math/bits.deBruijn32tab",Rows.laid_math_bits_deBruijn32tab),("math/bits.deBruijn64tab",Rows.laid_math_bits_deBruijn64tab),("internal/strconv.uint64pow10",Rows.laid_internal_strconv_uint64pow10),("unicode/utf8.acceptRanges",Rows.laid_unicode_utf8_acceptRanges),("strconv.ErrRange",Rows.laid_strconv_ErrRange),("strconv.ErrSyntax",Rows.laid_strconv_ErrSyntax),("unicode/utf8.first",Rows.laid_unicode_utf8_first)] W)(hsh:W.ShapedOpen Tryz.prog):Know.lib.p W (· <W.heap.size):=by
 rw[MakeChecks.laidMetH_plain _ _ _ (by as_aux_lemma=>kernel_rfl)]at h;have lt:∀{g:Nat}{o:Obj},W.heap[g]? =some o→g<W.heap.size:=fun h=>zAy h
 refine⟨⟨?_,?_⟩,?_,?_⟩
 · obtain⟨m,hm⟩:∃m,W.cell? ⟨0,0,none⟩=some (.int .i64 m):=Go.Proofs.cell_of_shapedOpen_int (zero:= #[.int .i64 0]) (t:=3) hsh (of_decide_eq_true (by kernel_rfl)) (by kernel_rfl) rfl (by kernel_rfl) (by kernel_rfl) Tryz.underlying3;unfold World.cell? at hm
   split at hm
   · rename_i c T fz hb
     exact⟨lt hb,_,hb,m,c,T,fz,rfl,hm⟩
   · cases hm
 · have h2:=h.tail.tail;rw[zOW]at h2;have h3:=Lib.tabIs_of_head gPow gPowT Tryz.underlying219 Tryz.underlying140 (by kernel_rfl) (by kernel_rfl) h2;obtain⟨T,fz,hb⟩:=var?_block h3 gPow;exact⟨lt hb,_,hb,T,fz,rfl⟩
 · obtain⟨a,s,hv,_⟩:=laid_sentinel h.tail.tail.tail.tail.tail gSyn gSynT Tryz.underlying83 rowE Tryz.underlying270 Tryz.underlying272 rfl rfl Tryz.underlying9 cES cStr;obtain⟨T,fz,hb⟩:=var?_block hv gSyn;exact⟨lt hb,_,hb,_,_,T,fz,rfl⟩
 · obtain⟨a,s,hv,_⟩:=laid_sentinel h.tail.tail.tail.tail gRng gRngT Tryz.underlying83 rowE Tryz.underlying270 Tryz.underlying272 rfl rfl Tryz.underlying9 cES cStr;obtain⟨T,fz,hb⟩:=var?_block hv gRng;exact⟨lt hb,_,hb,_,_,T,fz,rfl⟩
noncomputable def lowS:Nat:=(World.holding Tryz.prog default ⟨#[],#[],[]⟩).heap.size
noncomputable def putG (w:World) (g:Nat) (cs:Array Value):World:={w with heap:=w.heap.modify g fun
      | .cells _ t frozen=> .cells cs t frozen
      |o=>o}
noncomputable def scWorld (os:Os):World:=
  putG (putG (putG (putG (putG (putG (putG (World.holding Tryz.prog os ⟨#[.cells #[.string ⟨#[118,97,108,117,101,32,111,117,116,32,111,102,32,114,97,110,103,101]⟩] 272,.cells #[.string ⟨#[105,110,118,97,108,105,100,32,115,121,110,116,97,120]⟩] 272],#[],[]⟩)
    1 #[.int .u64 1,.int .u64 10,.int .u64 100,.int .u64 1000,.int .u64 10000,.int .u64 100000,.int .u64 1000000,.int .u64 10000000,.int .u64 100000000,.int .u64 1000000000,.int .u64 10000000000,.int .u64 100000000000,.int .u64 1000000000000,.int .u64 10000000000000,.int .u64 100000000000000,.int .u64 1000000000000000,.int .u64 10000000000000000,.int .u64 100000000000000000,.int .u64 1000000000000000000,.int .u64 10000000000000000000])
    2 #[.int .u8 0,.int .u8 1,.int .u8 28,.int .u8 2,.int .u8 29,.int .u8 14,.int .u8 24,.int .u8 3,.int .u8 30,.int .u8 22,.int .u8 20,.int .u8 15,.int .u8 25,.int .u8 17,.int .u8 4,.int .u8 8,.int .u8 31,.int .u8 27,.int .u8 13,.int .u8 23,.int .u8 21,.int .u8 19,.int .u8 16,.int .u8 7,.int .u8 26,.int .u8 12,.int .u8 18,.int .u8 6,.int .u8 11,.int .u8 5,.int .u8 10,.int .u8 9])
    3 #[.int .u8 0,.int .u8 1,.int .u8 56,.int .u8 2,.int .u8 57,.int .u8 49,.int .u8 28,.int .u8 3,.int .u8 61,.int .u8 58,.int .u8 42,.int .u8 50,.int .u8 38,.int .u8 29,.int .u8 17,.int .u8 4,.int .u8 62,.int .u8 47,.int .u8 59,.int .u8 36,.int .u8 45,.int .u8 43,.int .u8 51,.int .u8 22,.int .u8 53,.int .u8 39,.int .u8 33,.int .u8 30,.int .u8 24,.int .u8 18,.int .u8 12,.int .u8 5,.int .u8 63,.int .u8 55,.int .u8 48,.int .u8 27,.int .u8 60,.int .u8 41,.int .u8 37,.int .u8 16,.int .u8 46,.int .u8 35,.int .u8 44,.int .u8 21,.int .u8 52,.int .u8 32,.int .u8 23,.int .u8 11,.int .u8 54,.int .u8 26,.int .u8 40,.int .u8 15,.int .u8 34,.int .u8 20,.int .u8 31,.int .u8 10,.int .u8 25,.int .u8 14,.int .u8 19,.int .u8 9,.int .u8 13,.int .u8 8,.int .u8 7,.int .u8 6])
    5 #[.int .u8 128,.int .u8 191,.int .u8 160,.int .u8 191,.int .u8 128,.int .u8 159,.int .u8 144,.int .u8 191,.int .u8 128,.int .u8 143,.int .u8 0,.int .u8 0,.int .u8 0,.int .u8 0,.int .u8 0,.int .u8 0,.int .u8 0,.int .u8 0,.int .u8 0,.int .u8 0,.int .u8 0,.int .u8 0,.int .u8 0,.int .u8 0,.int .u8 0,.int .u8 0,.int .u8 0,.int .u8 0,.int .u8 0,.int .u8 0,.int .u8 0,.int .u8 0])
    7 #[.iface 270 (.pointer (some ⟨lowS,0,none⟩))])
    6 #[.iface 270 (.pointer (some ⟨lowS+1,0,none⟩))])
    4 #[.int .u8 240,.int .u8 240,.int .u8 240,.int .u8 240,.int .u8 240,.int .u8 240,.int .u8 240,.int .u8 240,.int .u8 240,.int .u8 240,.int .u8 240,.int .u8 240,.int .u8 240,.int .u8 240,.int .u8 240,.int .u8 240,.int .u8 240,.int .u8 240,.int .u8 240,.int .u8 240,.int .u8 240,.int .u8 240,.int .u8 240,.int .u8 240,.int .u8 240,.int .u8 240,.int .u8 240,.int .u8 240,.int .u8 240,.int .u8 240,.int .u8 240,.int .u8 240,.int .u8 240,.int .u8 240,.int .u8 240,.int .u8 240,.int .u8 240,.int .u8 240,.int .u8 240,.int .u8 240,.int .u8 240,.int .u8 240,.int .u8 240,.int .u8 240,.int .u8 240,.int .u8 240,.int .u8 240,.int .u8 240,.int .u8 240,.int .u8 240,.int .u8 240,.int .u8 240,.int .u8 240,.int .u8 240,.int .u8 240,.int .u8 240,.int .u8 240,.int .u8 240,.int .u8 240,.int .u8 240,.int .u8 240,.int .u8 240,.int .u8 240,.int .u8 240,.int .u8 240,.int .u8 240,.int .u8 240,.int .u8 240,.int .u8 240,.int .u8 240,.int .u8 240,.int .u8 240,.int .u8 240,.int .u8 240,.int .u8 240,.int .u8 240,.int .u8 240,.int .u8 240,.int .u8 240,.int .u8 240,.int .u8 240,.int .u8 240,.int .u8 240,.int .u8 240,.int .u8 240,.int .u8 240,.int .u8 240,.int .u8 240,.int .u8 240,.int .u8 240,.int .u8 240,.int .u8 240,.int .u8 240,.int .u8 240,.int .u8 240,.int .u8 240,.int .u8 240,.int .u8 240,.int .u8 240,.int .u8 240,.int .u8 240,.int .u8 240,.int .u8 240,.int .u8 240,.int .u8 240,.int .u8 240,.int .u8 240,.int .u8 240,.int .u8 240,.int .u8 240,.int .u8 240,.int .u8 240,.int .u8 240,.int .u8 240,.int .u8 240,.int .u8 240,.int .u8 240,.int .u8 240,.int .u8 240,.int .u8 240,.int .u8 240,.int .u8 240,.int .u8 240,.int .u8 240,.int .u8 240,.int .u8 240,.int .u8 240,.int .u8 240,.int .u8 241,.int .u8 241,.int .u8 241,.int .u8 241,.int .u8 241,.int .u8 241,.int .u8 241,.int .u8 241,.int .u8 241,.int .u8 241,.int .u8 241,.int .u8 241,.int .u8 241,.int .u8 241,.int .u8 241,.int .u8 241,.int .u8 241,.int .u8 241,.int .u8 241,.int .u8 241,.int .u8 241,.int .u8 241,.int .u8 241,.int .u8 241,.int .u8 241,.int .u8 241,.int .u8 241,.int .u8 241,.int .u8 241,.int .u8 241,.int .u8 241,.int .u8 241,.int .u8 241,.int .u8 241,.int .u8 241,.int .u8 241,.int .u8 241,.int .u8 241,.int .u8 241,.int .u8 241,.int .u8 241,.int .u8 241,.int .u8 241,.int .u8 241,.int .u8 241,.int .u8 241,.int .u8 241,.int .u8 241,.int .u8 241,.int .u8 241,.int .u8 241,.int .u8 241,.int .u8 241,.int .u8 241,.int .u8 241,.int .u8 241,.int .u8 241,.int .u8 241,.int .u8 241,.int .u8 241,.int .u8 241,.int .u8 241,.int .u8 241,.int .u8 241,.int .u8 241,.int .u8 241,.int .u8 2,.int .u8 2,.int .u8 2,.int .u8 2,.int .u8 2,.int .u8 2,.int .u8 2,.int .u8 2,.int .u8 2,.int .u8 2,.int .u8 2,.int .u8 2,.int .u8 2,.int .u8 2,.int .u8 2,.int .u8 2,.int .u8 2,.int .u8 2,.int .u8 2,.int .u8 2,.int .u8 2,.int .u8 2,.int .u8 2,.int .u8 2,.int .u8 2,.int .u8 2,.int .u8 2,.int .u8 2,.int .u8 2,.int .u8 2,.int .u8 19,.int .u8 3,.int .u8 3,.int .u8 3,.int .u8 3,.int .u8 3,.int .u8 3,.int .u8 3,.int .u8 3,.int .u8 3,.int .u8 3,.int .u8 3,.int .u8 3,.int .u8 35,.int .u8 3,.int .u8 3,.int .u8 52,.int .u8 4,.int .u8 4,.int .u8 4,.int .u8 68,.int .u8 241,.int .u8 241,.int .u8 241,.int .u8 241,.int .u8 241,.int .u8 241,.int .u8 241,.int .u8 241,.int .u8 241,.int .u8 241,.int .u8 241]
end Go.Proofs.YtenojajfacacoaaGreatDoor
/- What is told of a log, as a text, is what is told of its bytes, in the same chunks, and in one: proved of every script, the library's own variables as the program lays them. -/
namespace Go.Proofs.YtenojajfacacoaaGreatDoor
open Go.ChangeShapes Go.WideShapes Go.ChangeAt Go.ChangeMaps Go.RowKit
set_option maxRecDepth 100000
theorem zE9(os:Os):laidMet Tryz.prog Rows.wholePlayedRow.laid ((scWorld os).forCall (fun _ _=>0) ⟨#[],#[.agg #[.slice none 0 0,.int .i64 0,.slice none 0 0]],[]⟩).memory:=laidMet_of_run' 8 (by as_aux_lemma=>kernel_rfl) (by as_aux_lemma=>kernel_rfl)
theorem zD3(os:Os){H:Type}(enc:TypeId×Value→H):∃places,DataW.whole enc Tryz.prog ((scWorld os).forCall (fun _ _=>0) ⟨#[],#[.agg #[.slice none 0 0,.int .i64 0,.slice none 0 0]],[]⟩).memory Tryz.f5.params.toList Rows.wholePlayedSpec.vars false #[.agg #[.slice none 0 0,.int .i64 0,.slice none 0 0]].toList 8=some ([.agg [.nil,.lit (.int .i64 0),.nil]],[],places):=⟨[],by as_aux_lemma=>kernel_rfl⟩
theorem zDx(os:Os)(started:os.Started)(H:Type)(enc:TypeId×Value→H)(F:Stop.Interp):
  ReturnsInHanded {} Tryz.checked os 5 .any ((OpenSpec.ofChange Rows.wholePlayedSpec).preRow enc Tryz.prog Tryz.f5 Rows.wholePlayedRow.domain false Rows.wholePlayedRow.laid) (((OpenSpec.ofChange Rows.wholePlayedSpec).at F).post enc Tryz.prog Tryz.f5 false true false false):=by
 obtain⟨places,hx⟩:=zD3 os enc
 refine returnsInHanded_of_row (C:=Tryz.checked) (s:=OpenSpec.ofChange Rows.wholePlayedSpec) Tryz.own started (by as_aux_lemma=>kernel_rfl) Tryz.func5
  (witness_row_at (enc:=enc) (C:=Tryz.checked) false (scWorld os) #[.agg #[.slice none 0 0,.int .i64 0,.slice none 0 0]] rfl (by as_aux_lemma=>kernel_rfl) (by as_aux_lemma=>kernel_rfl) (by as_aux_lemma=>kernel_rfl)
   (OpenSpec.preRow_of_cond 8 hx (by as_aux_lemma=>kernel_rfl) (fun k hk=>by cases hk) (by as_aux_lemma=>kernel_rfl) (zE9 os))) ?_
 intro W base args ds gs before hval0 hW _ _ hsz0 hL hSh _;have hval:∀(j:Nat) t v,Tryz.f5.params[j]? =some t→args[j]? =some v→Value.okWide Tryz.prog W .any base t v:=hval0;clear hval0;have hlib:=zKi hL hSh;refine zI3 (n:=1) (tb:=4) (s:=Rows.wholePlayedSpec) rfl rfl rfl Tryz.underlying4 (by intro ds h;match ds,h with|[d0],_=>rfl) (by as_aux_lemma=>kernel_rfl) hW ?_;intro p hA0 hlt;have hA:DataW.TrodAll enc Tryz.prog W 0 (fun _=>true) true Tryz.f5.params.toList args.toList ds p:=hA0;clear hA0;rw[Tryz.params5]at hA hval;obtain⟨v0,d0,rfl,rfl,h0⟩:=trodAll_one hA;have hsz:(DataW.weightsEach Tryz.prog (Tryz.f5.params.toList++(OpenSpec.ofChange Rows.wholePlayedSpec).bare.plain.varTypes Tryz.prog) ([d0]++gs)).all (· ≤reachBytes)=true:=hsz0;rw[Tryz.params5]at hsz;have lg0:zC9 25 d0:=zNC hsz (j:=0) rfl rfl;obtain⟨l,c,ch,qB,q,capB,cap,K,rfl,rc,rch,hq,hkl,hkb,hkc,hst⟩:=zOF (hval 0 25 v0 rfl rfl) h0 lg0 (fun y hy=>hlt y (by simp[hy])) hlib;exact zFa l c ch qB q capB cap rc rch hq hkl hkb hkc hst
set_option maxHeartbeats 4000000
theorem zEQ:Rows.WholePlayedSaid:=
 OpenClaim.holds_of_cond 5 Tryz.f5 rfl rfl rfl rfl rfl rfl rfl ⟨rfl,rfl,rfl,rfl,rfl⟩ rfl rfl rfl rfl rfl (by as_aux_lemma=>kernel_rfl) Tryz.func5 (by as_aux_lemma=>kernel_rfl)
  (of_decide_eq_true (by as_aux_lemma=>kernel_rfl)) (by as_aux_lemma=>(unfold Func.isWrapper;rw[if_neg (by as_aux_lemma=>decide+kernel)];exact⟨rfl,rfl⟩))
  (fun os started H enc _ F=>by rw[OpenClaim.pre_eq_preRow];exact zDx os started H enc F)
theorem zD4(f:FuncId)(fn:Func)(hf:Tryz.pinned.checked.prog.funcNamed "cursitor/cursitortop.WholePlayed" =some f)(hfn:Tryz.pinned.checked.prog.funcs[f]? =some fn):
  true=Tryz.pinned.checked.prog.looks []∧∀(j:Nat) t,fn.params[j]? =some t→Tryz.pinned.checked.prog.wantsStandIn t=false:=by
 obtain rfl:f=5:=Option.some.inj ((show Tryz.prog.funcNamed "cursitor/cursitortop.WholePlayed" =some 5 by as_aux_lemma=>kernel_rfl).symm.trans hf) |>.symm;obtain rfl:fn=Tryz.f5:=(Option.some.inj (Tryz.func5.symm.trans hfn)).symm;refine⟨by as_aux_lemma=>kernel_rfl,fun j t ht=> ?_⟩;rw[Tryz.params5]at ht;have hm:t∈[25]:=by simpa using Array.mem_of_getElem? ht
 have hall:([25].all fun u=> !Tryz.prog.wantsStandIn u)=true:=by as_aux_lemma=>kernel_rfl
 exact(show Tryz.prog.wantsStandIn t=false by simpa using List.all_eq_true.1 hall t hm)
theorem wholePlayedCard_holds:Rows.WholePlayedCardSaid:=
 Claim7.holds_tied_plain_at .later [] _ _ _ _ zEQ (fun _ h=>by cases h) (by as_aux_lemma=>kernel_rfl) (fun _ h=>by cases h) wholePlayed_row_tie rfl ⟨rfl,rfl⟩ (by as_aux_lemma=>kernel_rfl) rfl zD4 (by as_aux_lemma=>kernel_rfl)
end Go.Proofs.YtenojajfacacoaaGreatDoor
