/- Frames, written and read. -/
import Derived.Test.YteldcbljedeeiaaGreatDoorGWholeStrictCard16
import Derived.Test.YteldcbljedeeiaaGreatDoorGWholeStrictCard10
import Derived.Test.YteldcbljedeeiaaGreatDoorGWholeStrictCard5
import Derived.Deep.RegionHeld3
import Derived.Deep.DeepCutAuto
import Derived.Test.YteldcbljedeeiaaGreatDoorGWholeStrictCard4
import Derived.Test.YteldcbljedeeiaaGreatDoorGWholeStrictCard8
import Derived.Test.YteldcbljedeeiaaGreatDoorGWholeStrictCard3
import Derived.Test.YteldcbljedeeiaaGreatDoorGWholeStrictCard13
import Derived.Test.YteldcbljedeeiaaGreatDoorGWholeStrictCard12
import Derived.Test.YteldcbljedeeiaaGreatDoorGWholeStrictCard6
import Derived.Test.YteldcbljedeeiaaGreatDoorGWholeStrictCard15
import Derived.RegionTactic
import Derived.WalkMore
import Derived.Test.YteldcbljedeeiaaGreatDoorGWholeStrictCard1
namespace Go.Proofs.YteldcbljedeeiaaGreatDoor
open Go.RowKit
set_option maxRecDepth 100000
set_option maxHeartbeats 8000000

theorem frame_decode (s:Bs) (hs:s.length≤1501){W0 w:World}{K:Know}{L:List Res}(hk:K.has Know.reqs) (h:St W0 w K L):
   Calls Tryz.prog 15 #[.string (bb s)] w fun en w'=>∃(x0 x1 x2 x3 x4 x5 x6 x7 x8 x9 x10 x11 x12 x13 x14 x15 x16 x17 x18 x19 x20 x21 x22 x23:Value) (K2:Know),en=.returned (.tuple #[.agg #[x0,x1,x2,x3,x4,x5,x6,x7,x8,x9,x10,x11,x12,x13,x14,x15,x16,x17,x18,x19,x20,x21,x22,x23],.int .i64 (frE s)])∧K2.has K∧(#[x0,x1,x2,x3,x4,x5,x6,x7,x8,x9,x10,x11,x12,x13,x14,x15,x16,x17,x18,x19,x20,x21,x22,x23]:Array Value).all (fun z=>z.oneCell')=true∧(frE s=0→∀(W0 w:World) (K':Know) (L:List Res),K'.has K2→St W0 w K' L→Calls Tryz.prog 12 #[.agg #[x0,x1,x2,x3,x4,x5,x6,x7,x8,x9,x10,x11,x12,x13,x14,x15,x16,x17,x18,x19,x20,x21,x22,x23]] w fun en w'=>en=.returned (.tuple #[.string (bb s),.int .i64 0])∧St W0 w' K' L)∧St W0 w' K2 L:=by
 obtain⟨n,i1,h1⟩:∃a j,(⟨s,0,0⟩:InS).int 4=(a,j):=⟨_,_,rfl⟩;obtain⟨t,i2,h2⟩:∃a j,i1.take n=(a,j):=⟨_,_,rfl⟩;obtain⟨⟨a,v,num,⟨u,cs⟩⟩,J1,h3⟩:∃y j,(⟨t,0,0⟩:InS).head=(y,j):=⟨_,_,rfl⟩;obtain⟨J2,hJ2⟩:∃j,bodyJ a v J1=j:=⟨_,rfl⟩;have hI:frI t=J2:=by unfold frI;rw[h3];exact hJ2
 have htl:t.length≤1501:=by
   have e1:=(take_s12 i1 n).2;have e2:=int_s12 (⟨s,0,0⟩:InS) 4;rw[h2]at e1;rw[h1]at e2;simp only at e1 e2;rw[e2]at e1
   omega
 have eI:=frIn_eq h1 h2
 have hB:∀(w:World) (L:List Res) (bi rf:Nat),St W0 w K (.inp bi J1::.raw rf #[.int .i64 a,.int .i64 v,.int .i64 num,.bool u,.string (bb cs),.bool false,.string ⟨#[]⟩,.int .i64 0,.int .i64 0,.int .i64 0,.string ⟨#[]⟩,.int .i64 0,.int .i64 0,.slice none 0 0,.string ⟨#[]⟩,.int .i64 0,.int .i64 0,.bool false,.slice none 0 0,.bool false,.string ⟨#[]⟩,.int .i64 0,.int .i64 0,.slice none 0 0] 38::L)→Calls Tryz.prog 69 #[inPtr bi,.pointer (some ⟨rf,0,none⟩)] w fun en w'=>en=.returned (.tuple #[])∧∃(x5 x6 x7 x8 x9 x10 x11 x12 x13 x14 x15 x16 x17 x18 x19 x20 x21 x22 x23:Value) (K2:Know),K2.has K∧(#[.int .i64 a,.int .i64 v,.int .i64 num,.bool u,.string (bb cs),x5,x6,x7,x8,x9,x10,x11,x12,x13,x14,x15,x16,x17,x18,x19,x20,x21,x22,x23]:Array Value).all (fun z=>z.oneCell')=true∧(J2.err=0→(fun K2 X=>J2.close.err=0→EncF t K2 X) K2 #[.int .i64 a,.int .i64 v,.int .i64 num,.bool u,.string (bb cs),x5,x6,x7,x8,x9,x10,x11,x12,x13,x14,x15,x16,x17,x18,x19,x20,x21,x22,x23])∧St W0 w' K2 (.inp bi J2::.raw rf #[.int .i64 a,.int .i64 v,.int .i64 num,.bool u,.string (bb cs),x5,x6,x7,x8,x9,x10,x11,x12,x13,x14,x15,x16,x17,x18,x19,x20,x21,x22,x23] 38::L):=fun w L bi rf h=>by
   have:=fr_body bi rf t (by omega) a v num u cs J1 h3 hk h;rw[hJ2]at this;exact this
 by_cases he3:J2.close.err=0
 · have eF:frIn s=i2:=by rw[eI];unfold frK;rw[hI,if_pos he3]
   have eE:frE s=i2.close.err:=by unfold frE;rw[eF]
   by_cases hi2:i2.err=0
   · have hr:=fun(w:World) (L:List Res) (b:Nat) (h:St W0 w K (.inp b ⟨s,0,0⟩::L))=>fr_read_ok b s t n i1 i2 J1 J2 J2.close a v num u cs h1 h2 h3 (by omega) rfl (fun K2 X=>J2.close.err=0→EncF t K2 X) hB hk h he3 hi2 (close_z0 he3)
     by_cases hc:i2.close.err=0
     · refine(fr_dec_ok s (by omega) i2 i2.close rfl hc (fun K2 X=>J2.close.err=0→EncF t K2 X) hr h).mono ?_;rintro en w' ⟨x0,x1,x2,x3,x4,x5,x6,x7,x8,x9,x10,x11,x12,x13,x14,x15,x16,x17,x18,x19,x20,x21,x22,x23,K2,rfl,hkk,ho,hp,h⟩;rw[eE,hc];refine⟨x0,x1,x2,x3,x4,x5,x6,x7,x8,x9,x10,x11,x12,x13,x14,x15,x16,x17,x18,x19,x20,x21,x22,x23,K2,rfl,hkk,ho,fun _=> ?_,h⟩;obtain⟨_,_,_,g4,_⟩:=frE_zero h1 h2 (eE.trans hc);have hp:=hp he3;unfold EncF at hp;rw[show beBytes (t.length:Int) (4:Int).toNat++t=s from g4]at hp;exact hp
     · refine(fr_dec_bad s (by omega) i2 i2.close rfl _ rfl hc (fun K2 X=>J2.close.err=0→EncF t K2 X) hr h).mono ?_;rintro en w' ⟨K2,rfl,hkk,h⟩;rw[eE];exact⟨.int .i64 0,.int .i64 0,.int .i64 0,.bool false,.string ⟨#[]⟩,.bool false,.string ⟨#[]⟩,.int .i64 0,.int .i64 0,.int .i64 0,.string ⟨#[]⟩,.int .i64 0,.int .i64 0,.slice none 0 0,.string ⟨#[]⟩,.int .i64 0,.int .i64 0,.bool false,.slice none 0 0,.bool false,.string ⟨#[]⟩,.int .i64 0,.int .i64 0,.slice none 0 0,K2,rfl,hkk,one24z,fun g=>absurd g hc,h⟩
   · have hc:i2.close.err≠0:=fun g=>hi2 (close_z0 g)
     have hr:=fun(w:World) (L:List Res) (b:Nat) (h:St W0 w K (.inp b ⟨s,0,0⟩::L))=>(fr_read_err b s t n i1 i2 J1 J2 J2.close a v num u cs h1 h2 h3 (by omega) rfl (fun K2 X=>J2.close.err=0→EncF t K2 X) hB hk h he3 _ rfl hi2).mono (fun en w' hh=>by
       obtain⟨K2,e,hkk,h⟩:=hh
       exact(⟨.int .i64 0,.int .i64 0,.int .i64 0,.bool false,.string ⟨#[]⟩,.bool false,.string ⟨#[]⟩,.int .i64 0,.int .i64 0,.int .i64 0,.string ⟨#[]⟩,.int .i64 0,.int .i64 0,.slice none 0 0,.string ⟨#[]⟩,.int .i64 0,.int .i64 0,.bool false,.slice none 0 0,.bool false,.string ⟨#[]⟩,.int .i64 0,.int .i64 0,.slice none 0 0,K2,e,hkk,one24z,trivial,h⟩:∃(x0 x1 x2 x3 x4 x5 x6 x7 x8 x9 x10 x11 x12 x13 x14 x15 x16 x17 x18 x19 x20 x21 x22 x23:Value) (K2:Know),en=.returned (.agg #[x0,x1,x2,x3,x4,x5,x6,x7,x8,x9,x10,x11,x12,x13,x14,x15,x16,x17,x18,x19,x20,x21,x22,x23])∧K2.has K∧(#[x0,x1,x2,x3,x4,x5,x6,x7,x8,x9,x10,x11,x12,x13,x14,x15,x16,x17,x18,x19,x20,x21,x22,x23]:Array Value).all (fun z=>z.oneCell')=true∧(fun(_:Know) (_:Array Value)=>True) K2 #[x0,x1,x2,x3,x4,x5,x6,x7,x8,x9,x10,x11,x12,x13,x14,x15,x16,x17,x18,x19,x20,x21,x22,x23]∧St W0 w' K2 (.inp b i2::L)))
     refine(fr_dec_bad s (by omega) i2 i2.close rfl _ rfl hc (fun _ _=>True) hr h).mono ?_;rintro en w' ⟨K2,rfl,hkk,h⟩;rw[eE];exact⟨.int .i64 0,.int .i64 0,.int .i64 0,.bool false,.string ⟨#[]⟩,.bool false,.string ⟨#[]⟩,.int .i64 0,.int .i64 0,.int .i64 0,.string ⟨#[]⟩,.int .i64 0,.int .i64 0,.slice none 0 0,.string ⟨#[]⟩,.int .i64 0,.int .i64 0,.bool false,.slice none 0 0,.bool false,.string ⟨#[]⟩,.int .i64 0,.int .i64 0,.slice none 0 0,K2,rfl,hkk,one24z,fun g=>absurd g hc,h⟩
 · obtain⟨i3,hi3⟩:∃i3,i2.fail J2.close.err=i3:=⟨_,rfl⟩;have eF:frIn s=i3:=by rw[eI];unfold frK;rw[hI,if_neg he3];exact hi3
   have eE:frE s=i3.close.err:=by unfold frE;rw[eF]
   have hn3:i3.err≠0:=by
     rw[←hi3];unfold InS.fail
     split
     · exact he3
     · rename_i g;exact g
   have hc:i3.close.err≠0:=fun g=>hn3 (close_z0 g)
   have hr:=fun(w:World) (L:List Res) (b:Nat) (h:St W0 w K (.inp b ⟨s,0,0⟩::L))=>(fr_read_bad b s t n i1 i2 J1 J2 J2.close a v num u cs h1 h2 h3 (by omega) rfl (fun K2 X=>J2.close.err=0→EncF t K2 X) hB hk h _ rfl he3 i3 hi3 _ rfl hn3).mono (fun en w' hh=>by
       obtain⟨K2,e,hkk,h⟩:=hh
       exact(⟨.int .i64 0,.int .i64 0,.int .i64 0,.bool false,.string ⟨#[]⟩,.bool false,.string ⟨#[]⟩,.int .i64 0,.int .i64 0,.int .i64 0,.string ⟨#[]⟩,.int .i64 0,.int .i64 0,.slice none 0 0,.string ⟨#[]⟩,.int .i64 0,.int .i64 0,.bool false,.slice none 0 0,.bool false,.string ⟨#[]⟩,.int .i64 0,.int .i64 0,.slice none 0 0,K2,e,hkk,one24z,trivial,h⟩:∃(x0 x1 x2 x3 x4 x5 x6 x7 x8 x9 x10 x11 x12 x13 x14 x15 x16 x17 x18 x19 x20 x21 x22 x23:Value) (K2:Know),en=.returned (.agg #[x0,x1,x2,x3,x4,x5,x6,x7,x8,x9,x10,x11,x12,x13,x14,x15,x16,x17,x18,x19,x20,x21,x22,x23])∧K2.has K∧(#[x0,x1,x2,x3,x4,x5,x6,x7,x8,x9,x10,x11,x12,x13,x14,x15,x16,x17,x18,x19,x20,x21,x22,x23]:Array Value).all (fun z=>z.oneCell')=true∧(fun(_:Know) (_:Array Value)=>True) K2 #[x0,x1,x2,x3,x4,x5,x6,x7,x8,x9,x10,x11,x12,x13,x14,x15,x16,x17,x18,x19,x20,x21,x22,x23]∧St W0 w' K2 (.inp b i3::L)))
   refine(fr_dec_bad s (by omega) i3 i3.close rfl _ rfl hc (fun _ _=>True) hr h).mono ?_;rintro en w' ⟨K2,rfl,hkk,h⟩;rw[eE];exact⟨.int .i64 0,.int .i64 0,.int .i64 0,.bool false,.string ⟨#[]⟩,.bool false,.string ⟨#[]⟩,.int .i64 0,.int .i64 0,.int .i64 0,.string ⟨#[]⟩,.int .i64 0,.int .i64 0,.slice none 0 0,.string ⟨#[]⟩,.int .i64 0,.int .i64 0,.bool false,.slice none 0 0,.bool false,.string ⟨#[]⟩,.int .i64 0,.int .i64 0,.slice none 0 0,K2,rfl,hkk,one24z,fun g=>absurd g hc,h⟩
set_option maxHeartbeats 2000000 in
set_option maxRecDepth 100000 in
theorem bat_dec_ok (s:Bs) (hsl:s.length≤1000000) (b:BatS) (n:Nat) (hr:reBat (s.drop 0)=.ok (b,n)) (hn:¬n<s.length){W0 w:World}{K:Know}{L:List Res}(h:St W0 w K L):
  Calls Tryz.prog 38 #[.string (bb s)] w fun en w'=>∃(q:Option Addr) (l:List (RecS×Value)) (cap:Nat),en=.returned (.tuple #[.agg #[.int .i64 b.base,.int .i64 b.leader,.bool b.app,.bool b.txn,.bool b.ctl,.int .i64 b.last,.int .i64 b.first,.int .i64 b.maxt,.int .i64 b.prod,.int .i64 b.epoch,.int .i64 b.seq,.slice q l.length cap],.int .i64 0])∧l.map (·.1)=b.recs∧St W0 w' (K.and (Know.recs (.slice q l.length cap) l)) L:=by
 have g1:=h.allocRaw #[.int .i64 0,.int .i64 0,.bool false,.bool false,.bool false,.int .i64 0,.int .i64 0,.int .i64 0,.int .i64 0,.int .i64 0,.int .i64 0,.slice none 0 0] 101;obtain⟨rb,hrb⟩:∃b,w.heap.size=b:=⟨_,rfl⟩;rw[hrb]at g1;have H:=Lib.hid g1;have HSL:=Lib.hid (show s.length≤140737488355328 by omega);have HSM:=Lib.hid hsl;have HR:=Lib.hid hr;have HC:=Lib.hid (show(⟨s,n,0⟩:InS).close=⟨s,n,0⟩from if_neg (show ¬0<s.length - n by omega));clear h g1 hr hn;go_enter Tryz.func38,Tryz.ntmps38
 go_wp2_with (first
  |(go_at_call 19;(with_reducible refine(s_new s HSL.out H.out).mono ?_);rintro e_ wn ⟨bi,rfl,h⟩;replace H:=Lib.hid h;clear h)
  |(go_at_call 81;(with_reducible refine(bat_read_good bi s 0 HSM.out (Nat.zero_le _) b n HR.out H.out).mono ?_);rintro e_ wn ⟨q,l,cap,rfl,hl,h⟩;rw[Nat.zero_add]at h;have h:=h.allocRaw #[.int .i64 b.base,.int .i64 b.leader,.bool b.app,.bool b.txn,.bool b.ctl,.int .i64 b.last,.int .i64 b.first,.int .i64 b.maxt,.int .i64 b.prod,.int .i64 b.epoch,.int .i64 b.seq,.slice q l.length cap] 101;obtain⟨bB,hbB⟩:∃b,wn.heap.size=b:=⟨_,rfl⟩;rw[hbB]at h;replace H:=Lib.hid h;clear h)
  |(go_at_call 25;(with_reducible refine(s_closeE bi _ _ 0 (HC.out) (rfl) H.out.p1).mono ?_);rintro e_ wn ⟨rfl,h⟩;replace H:=Lib.hid h;clear h;obtain⟨c0,c1,c2,c3,c4,c5,c6,c7,c8,c9,c10,c11,g0,g1,g2,g3,g4,g5,g6,g7,g8,g9,g10,g11⟩:=raw12 (b:=bB) (H.out.p1);obtain⟨a0,a1,a2,a3,a4,a5,a6,a7,a8,a9,a10,a11,f0,f1,f2,f3,f4,f5,f6,f7,f8,f9,f10,f11⟩:=raw12 (b:=rb) (H.out.p2)))
 have hz:St W0 _ _ (.raw rb #[.int .i64 b.base,.int .i64 b.leader,.bool b.app,.bool b.txn,.bool b.ctl,.int .i64 b.last,.int .i64 b.first,.int .i64 b.maxt,.int .i64 b.prod,.int .i64 b.epoch,.int .i64 b.seq,.slice q l.length cap] 101::_):=St.sets12 _ _ _ _ _ _ _ _ _ _ _ _ (H.out.p2);refine bodyPost_ret (rc_cell_tmp rfl _ _ rb [.int .i64 b.base,.int .i64 b.leader,.bool b.app,.bool b.txn,.bool b.ctl,.int .i64 b.last,.int .i64 b.first,.int .i64 b.maxt,.int .i64 b.prod,.int .i64 b.epoch,.int .i64 b.seq,.slice q l.length cap] _ rfl (rc_range hz) Tryz.underlying101 rfl (by kernel_rfl)) rfl ?_;exact⟨q,l,cap,rfl,hl,hz.drop.drop.drop⟩

set_option maxHeartbeats 2000000 in
set_option maxRecDepth 100000 in
theorem bat_dec_long (s:Bs) (hsl:s.length≤1000000) (b:BatS) (n:Nat) (hr:reBat (s.drop 0)=.ok (b,n)) (hn:n<s.length){W0 w:World}{K:Know}{L:List Res}(h:St W0 w K L):
  Calls Tryz.prog 38 #[.string (bb s)] w fun en w'=>en=.returned (.tuple #[.agg #[.int .i64 0,.int .i64 0,.bool false,.bool false,.bool false,.int .i64 0,.int .i64 0,.int .i64 0,.int .i64 0,.int .i64 0,.int .i64 0,.slice none 0 0],.int .i64 2])∧St W0 w' K L:=by
 have g1:=h.allocRaw #[.int .i64 0,.int .i64 0,.bool false,.bool false,.bool false,.int .i64 0,.int .i64 0,.int .i64 0,.int .i64 0,.int .i64 0,.int .i64 0,.slice none 0 0] 101;obtain⟨rb,hrb⟩:∃b,w.heap.size=b:=⟨_,rfl⟩;rw[hrb]at g1;have H:=Lib.hid g1;have HSL:=Lib.hid (show s.length≤140737488355328 by omega);have HSM:=Lib.hid hsl;have HR:=Lib.hid hr;have HC:=Lib.hid (show(⟨s,n,0⟩:InS).close=⟨s,n,2⟩from if_pos (show 0<s.length - n by omega));clear h g1 hr hn;go_enter Tryz.func38,Tryz.ntmps38
 go_wp2_with (first
  |(go_at_call 19;(with_reducible refine(s_new s HSL.out H.out).mono ?_);rintro e_ wn ⟨bi,rfl,h⟩;replace H:=Lib.hid h;clear h)
  |(go_at_call 81;(with_reducible refine(bat_read_good bi s 0 HSM.out (Nat.zero_le _) b n HR.out H.out).mono ?_);rintro e_ wn ⟨q,l,cap,rfl,hl,h⟩;rw[Nat.zero_add]at h;have h:=h.allocRaw #[.int .i64 b.base,.int .i64 b.leader,.bool b.app,.bool b.txn,.bool b.ctl,.int .i64 b.last,.int .i64 b.first,.int .i64 b.maxt,.int .i64 b.prod,.int .i64 b.epoch,.int .i64 b.seq,.slice q l.length cap] 101;obtain⟨bB,hbB⟩:∃b,wn.heap.size=b:=⟨_,rfl⟩;rw[hbB]at h;replace H:=Lib.hid h;clear h)
  |(go_at_call 25;(with_reducible refine(s_closeE bi _ _ 2 (HC.out) (rfl) H.out.p1).mono ?_);rintro e_ wn ⟨rfl,h⟩;replace H:=Lib.hid h;clear h;obtain⟨c0,c1,c2,c3,c4,c5,c6,c7,c8,c9,c10,c11,g0,g1,g2,g3,g4,g5,g6,g7,g8,g9,g10,g11⟩:=raw12 (b:=bB) (H.out.p1);obtain⟨a0,a1,a2,a3,a4,a5,a6,a7,a8,a9,a10,a11,f0,f1,f2,f3,f4,f5,f6,f7,f8,f9,f10,f11⟩:=raw12 (b:=rb) (H.out.p2)))
 have hz:St W0 _ _ (.raw rb #[.int .i64 0,.int .i64 0,.bool false,.bool false,.bool false,.int .i64 0,.int .i64 0,.int .i64 0,.int .i64 0,.int .i64 0,.int .i64 0,.slice none 0 0] 101::_):=St.sets12 _ _ _ _ _ _ _ _ _ _ _ _ (H.out.p2);refine bodyPost_ret (rc_cell_tmp rfl _ _ rb [.int .i64 0,.int .i64 0,.bool false,.bool false,.bool false,.int .i64 0,.int .i64 0,.int .i64 0,.int .i64 0,.int .i64 0,.int .i64 0,.slice none 0 0] _ rfl (rc_range hz) Tryz.underlying101 rfl (by kernel_rfl)) rfl ?_;exact⟨rfl,hz.drop.drop.drop.know (Know.has_left (Know.has_refl _))⟩

theorem close_errB (s:Bs) (q:Nat) (e:Int) (he:e≠0):(⟨s,q,e⟩:InS).close=⟨s,q,e⟩:=by
 unfold InS.close
 split
 · exact InS.fail_stuck he _
 · rfl
set_option maxHeartbeats 2000000 in
set_option maxRecDepth 100000 in
theorem bat_dec_err (s:Bs) (hsl:s.length≤1000000) (e:Int) (hr:reBat (s.drop 0)=.error e){W0 w:World}{K:Know}{L:List Res}(h:St W0 w K L):
  Calls Tryz.prog 38 #[.string (bb s)] w fun en w'=>en=.returned (.tuple #[.agg #[.int .i64 0,.int .i64 0,.bool false,.bool false,.bool false,.int .i64 0,.int .i64 0,.int .i64 0,.int .i64 0,.int .i64 0,.int .i64 0,.slice none 0 0],.int .i64 e])∧St W0 w' K L:=by
 have g1:=h.allocRaw #[.int .i64 0,.int .i64 0,.bool false,.bool false,.bool false,.int .i64 0,.int .i64 0,.int .i64 0,.int .i64 0,.int .i64 0,.int .i64 0,.slice none 0 0] 101;obtain⟨rb,hrb⟩:∃b,w.heap.size=b:=⟨_,rfl⟩;rw[hrb]at g1;have H:=Lib.hid g1;have HSL:=Lib.hid (show s.length≤140737488355328 by omega);have HSM:=Lib.hid hsl;have HR:=Lib.hid hr;have HE:=Lib.hid (reBat_ne hr);have gz:(e==0)=false:=by rw[beq_eq_false_iff_ne];exact reBat_ne hr
 have gz2:(e !=0)=true:=by rw[bne_iff_ne];exact reBat_ne hr
 clear h g1 hr;go_enter Tryz.func38,Tryz.ntmps38
 go_wp2_with (first
  |(go_at_call 19;(with_reducible refine(s_new s HSL.out H.out).mono ?_);rintro e_ wn ⟨bi,rfl,h⟩;replace H:=Lib.hid h;clear h)
  |(go_at_call 81;(with_reducible refine(bat_read_bad bi s 0 HSM.out (Nat.zero_le _) e HR.out H.out).mono ?_);rintro e_ wn ⟨rfl,pq,hpq,h⟩;have h:=h.allocRaw #[.int .i64 0,.int .i64 0,.bool false,.bool false,.bool false,.int .i64 0,.int .i64 0,.int .i64 0,.int .i64 0,.int .i64 0,.int .i64 0,.slice none 0 0] 101;obtain⟨bB,hbB⟩:∃b,wn.heap.size=b:=⟨_,rfl⟩;rw[hbB]at h;replace H:=Lib.hid h;clear h)
  |(go_at_call 25;(with_reducible refine(s_closeE bi _ _ e (close_errB _ _ _ HE.out) (rfl) H.out.p1).mono ?_);rintro e_ wn ⟨rfl,h⟩;replace H:=Lib.hid h;clear h;obtain⟨c0,c1,c2,c3,c4,c5,c6,c7,c8,c9,c10,c11,g0,g1,g2,g3,g4,g5,g6,g7,g8,g9,g10,g11⟩:=raw12 (b:=bB) (H.out.p1);obtain⟨a0,a1,a2,a3,a4,a5,a6,a7,a8,a9,a10,a11,f0,f1,f2,f3,f4,f5,f6,f7,f8,f9,f10,f11⟩:=raw12 (b:=rb) (H.out.p2)))
 have hz:St W0 _ _ (.raw rb #[.int .i64 0,.int .i64 0,.bool false,.bool false,.bool false,.int .i64 0,.int .i64 0,.int .i64 0,.int .i64 0,.int .i64 0,.int .i64 0,.slice none 0 0] 101::_):=St.sets12 _ _ _ _ _ _ _ _ _ _ _ _ (H.out.p2);refine bodyPost_ret (rc_cell_tmp rfl _ _ rb [.int .i64 0,.int .i64 0,.bool false,.bool false,.bool false,.int .i64 0,.int .i64 0,.int .i64 0,.int .i64 0,.int .i64 0,.int .i64 0,.slice none 0 0] _ rfl (rc_range hz) Tryz.underlying101 rfl (by kernel_rfl)) rfl ?_;exact⟨rfl,hz.drop.drop.drop⟩

theorem bat_decode_ok (s:Bs) (hsl:s.length≤1000000) (b:BatS) (hd:batD s=.ok b){W0 w:World}{K:Know}{L:List Res}(h:St W0 w K L):
  Calls Tryz.prog 38 #[.string (bb s)] w fun en w'=>∃(q:Option Addr) (l:List (RecS×Value)) (cap:Nat),en=.returned (.tuple #[.agg #[.int .i64 b.base,.int .i64 b.leader,.bool b.app,.bool b.txn,.bool b.ctl,.int .i64 b.last,.int .i64 b.first,.int .i64 b.maxt,.int .i64 b.prod,.int .i64 b.epoch,.int .i64 b.seq,.slice q l.length cap],.int .i64 0])∧l.map (·.1)=b.recs∧St W0 w' (K.and (Know.recs (.slice q l.length cap) l)) L:=by
 unfold batD at hd
 cases hr:reBat s with
 |error e=>rw[hr]at hd;cases hd
 |ok y=>
  obtain⟨c,n⟩:=y;rw[hr]at hd;simp only at hd
  by_cases hn:n<s.length
  · rw[if_pos hn]at hd;cases hd
  rw[if_neg hn]at hd
  cases hd
  exact bat_dec_ok s hsl b n hr hn h
theorem bat_decode_bad (s:Bs) (hsl:s.length≤1000000) (e:Int) (hd:batD s=.error e){W0 w:World}{K:Know}{L:List Res}(h:St W0 w K L):
  Calls Tryz.prog 38 #[.string (bb s)] w fun en w'=>en=.returned (.tuple #[.agg #[.int .i64 0,.int .i64 0,.bool false,.bool false,.bool false,.int .i64 0,.int .i64 0,.int .i64 0,.int .i64 0,.int .i64 0,.int .i64 0,.slice none 0 0],.int .i64 e])∧St W0 w' K L:=by
 unfold batD at hd
 cases hr:reBat s with
 |error f=>
  rw[hr]at hd
  cases hd
  exact bat_dec_err s hsl e hr h
 |ok y=>
  obtain⟨c,n⟩:=y;rw[hr]at hd;simp only at hd
  by_cases hn:n<s.length
  · rw[if_pos hn]at hd;cases hd;exact bat_dec_long s hsl c n hr hn h
  rw[if_neg hn]at hd
  cases hd
theorem batD_ne {s:Bs}{e:Int}(h:batD s=.error e):e≠0:=by
 unfold batD at h
 split at h
 · rename_i f hr
   cases h
   exact reBat_ne hr
 · split at h
   · cases h;decide
   · cases h
set_option maxHeartbeats 2000000 in
set_option maxRecDepth 100000 in
theorem val_encode_ok (p e t s u st:Int) (l:List (TopS×Value)) (q:Option Addr) (cap:Nat) (he:ValS.err ⟨p,e,t,s,l.map (·.1),u,st⟩=0) (hR:ValS.R ⟨p,e,t,s,l.map (·.1),u,st⟩) (hf:FewT l){W0 w:World}{K:Know}{L:List Res}(hk:K.has (Know.tops (.slice q l.length cap) l)) (h:St W0 w K L):
  Calls Tryz.prog 43 #[.agg #[.int .i64 p,.int .i64 e,.int .i64 t,.int .i64 s,.slice q l.length cap,.int .i64 u,.int .i64 st]] w fun en w'=>en=.returned (.tuple #[.string (bb (ValS.enc ⟨p,e,t,s,l.map (·.1),u,st⟩)),.int .i64 0])∧St W0 w' K L:=by
 have HK:=Lib.hid hk;have HF:=Lib.hid hf;obtain⟨vb,hvb⟩:∃b,w.heap.size=b:=⟨_,rfl⟩;have h1:=h.allocRaw #[.int .i64 p,.int .i64 e,.int .i64 t,.int .i64 s,.slice q l.length cap,.int .i64 u,.int .i64 st] 107;rw[hvb]at h1;have c0:=(h1).rawCell 0;have c1:=(h1).rawCell 1;have c2:=(h1).rawCell 2;have c3:=(h1).rawCell 3;have c4:=(h1).rawCell 4;have c5:=(h1).rawCell 5;have c6:=(h1).rawCell 6;simp at c0 c1 c2 c3 c4 c5 c6;have H:=Lib.hid h1;have HE:=Lib.hid he;have hp:=ValS.ok_parts _ he;have hrg:=ranged_parts _ hp.1;have hft:=fit_of_rise l hf hp.2.2.2.2;have hst:=hp.2.1;obtain⟨r1,r2,r3,r4,r5,r6⟩:=hR;simp only at hrg hst r1 r2 r3 r4 r5 r6;have HFT:=Lib.hid hft;obtain⟨y0,hy0⟩:∃y:Bs,[]=y:=⟨_,rfl⟩;obtain⟨y1,hy1⟩:∃y,y0++beBytes 0 2=y:=⟨_,rfl⟩;obtain⟨y2,hy2⟩:∃y,y1++beBytes p 8=y:=⟨_,rfl⟩;obtain⟨y3,hy3⟩:∃y,y2++beBytes e 2=y:=⟨_,rfl⟩;obtain⟨y4,hy4⟩:∃y,y3++beBytes t 4=y:=⟨_,rfl⟩;obtain⟨y5,hy5⟩:∃y,y4++beBytes s 1=y:=⟨_,rfl⟩;obtain⟨y6,hy6⟩:∃y,y5++encTs (l.map (·.1))=y:=⟨_,rfl⟩;obtain⟨y7,hy7⟩:∃y,y6++beBytes u 8=y:=⟨_,rfl⟩;obtain⟨y8,hy8⟩:∃y,y7++beBytes st 8=y:=⟨_,rfl⟩;have hye:y8=ValS.enc ⟨p,e,t,s,l.map (·.1),u,st⟩:=by rw[←hy8,←hy7,←hy6,←hy5,←hy4,←hy3,←hy2,←hy1,←hy0];rfl
 have hl1:=congrArg List.length hy1;have hl2:=congrArg List.length hy2;have hl3:=congrArg List.length hy3;have hl4:=congrArg List.length hy4;have hl5:=congrArg List.length hy5;have hl6:=congrArg List.length hy6;have hl7:=congrArg List.length hy7;have hl8:=congrArg List.length hy8;have hl0:=congrArg List.length hy0;simp only[List.length_append,beBytes_length,List.length_nil]at hl0 hl1 hl2 hl3 hl4 hl5 hl6 hl7 hl8;have hTl:(encTs (l.map (·.1))).length≤5000000000000:=by rw[←preT_all];have h1:=preT_le _ hft _ (Nat.le_refl _);have h2:=hft.1;omega
 have Y1:=Lib.hid (show y0++beBytes 0 (2:Int).toNat=y1 from hy1);have G1:=Lib.hid (vfits2 0 (by omega));have Q1:=Lib.hid (show y0.length≤100000000000000 by omega);have Y2:=Lib.hid (show y1++beBytes p (8:Int).toNat=y2 from hy2);have G2:=Lib.hid (vfits8 p (by omega));have Q2:=Lib.hid (show y1.length≤100000000000000 by omega);have Y3:=Lib.hid (show y2++beBytes e (2:Int).toNat=y3 from hy3);have G3:=Lib.hid (vfits2 e (by omega));have Q3:=Lib.hid (show y2.length≤100000000000000 by omega);have Y4:=Lib.hid (show y3++beBytes t (4:Int).toNat=y4 from hy4);have G4:=Lib.hid (vfits4 t (by omega));have Q4:=Lib.hid (show y3.length≤100000000000000 by omega);have Y5:=Lib.hid (show y4++beBytes s (1:Int).toNat=y5 from hy5);have G5:=Lib.hid (vfits1 s (by omega));have Q5:=Lib.hid (show y4.length≤100000000000000 by omega);have Y6:=Lib.hid hy6;have Q6:=Lib.hid (show y5.length≤1000000 by omega);have Y7:=Lib.hid (show y6++beBytes u (8:Int).toNat=y7 from hy7);have G7:=Lib.hid (vfits8 u (by omega));have Q7:=Lib.hid (show y6.length≤100000000000000 by omega);have Y8:=Lib.hid (show y7++beBytes st (8:Int).toNat=y8 from hy8);have G8:=Lib.hid (vfits8 st (by omega));have Q8:=Lib.hid (show y7.length≤100000000000000 by omega);rw[←hye];clear h h1 hk hf he hp hrg hft hst r1 r2 r3 r4 r5 r6 hTl hye hy1 hy2 hy3 hy4 hy5 hy6 hy7 hy8 hl0 hl1 hl2 hl3 hl4 hl5 hl6 hl7 hl8;go_enter Tryz.func43,Tryz.ntmps43
 go_wp2_with (first
  |(go_at_call 91;(with_reducible refine(val_checkV p e t s u st l _ _ 0 HE.out HF.out HK.out H.out).mono ?_);rintro e_ wn ⟨rfl,h⟩;obtain⟨po,hpo⟩:∃b,wn.heap.size=b:=⟨_,rfl⟩;have h:=h.allocOut;rw[hpo,hy0]at h;have c0:=(h.p1).rawCell 0;have c1:=(h.p1).rawCell 1;have c2:=(h.p1).rawCell 2;have c3:=(h.p1).rawCell 3;have c4:=(h.p1).rawCell 4;have c5:=(h.p1).rawCell 5;have c6:=(h.p1).rawCell 6;simp at c0 c1 c2 c3 c4 c5 c6;replace H:=Lib.hid h;clear h)
  |(go_at_call 50;(with_reducible refine(so_intV po y0 y1 0 2 Y1.out G1.out Q1.out H.out).mono ?_);rintro e_ wn ⟨rfl,h⟩;have c0:=(h.p1).rawCell 0;have c1:=(h.p1).rawCell 1;have c2:=(h.p1).rawCell 2;have c3:=(h.p1).rawCell 3;have c4:=(h.p1).rawCell 4;have c5:=(h.p1).rawCell 5;have c6:=(h.p1).rawCell 6;simp at c0 c1 c2 c3 c4 c5 c6;replace H:=Lib.hid h;clear h)
  |(go_at_call 50;(with_reducible refine(so_intV po y1 y2 p 8 Y2.out G2.out Q2.out H.out).mono ?_);rintro e_ wn ⟨rfl,h⟩;have c0:=(h.p1).rawCell 0;have c1:=(h.p1).rawCell 1;have c2:=(h.p1).rawCell 2;have c3:=(h.p1).rawCell 3;have c4:=(h.p1).rawCell 4;have c5:=(h.p1).rawCell 5;have c6:=(h.p1).rawCell 6;simp at c0 c1 c2 c3 c4 c5 c6;replace H:=Lib.hid h;clear h)
  |(go_at_call 50;(with_reducible refine(so_intV po y2 y3 e 2 Y3.out G3.out Q3.out H.out).mono ?_);rintro e_ wn ⟨rfl,h⟩;have c0:=(h.p1).rawCell 0;have c1:=(h.p1).rawCell 1;have c2:=(h.p1).rawCell 2;have c3:=(h.p1).rawCell 3;have c4:=(h.p1).rawCell 4;have c5:=(h.p1).rawCell 5;have c6:=(h.p1).rawCell 6;simp at c0 c1 c2 c3 c4 c5 c6;replace H:=Lib.hid h;clear h)
  |(go_at_call 50;(with_reducible refine(so_intV po y3 y4 t 4 Y4.out G4.out Q4.out H.out).mono ?_);rintro e_ wn ⟨rfl,h⟩;have c0:=(h.p1).rawCell 0;have c1:=(h.p1).rawCell 1;have c2:=(h.p1).rawCell 2;have c3:=(h.p1).rawCell 3;have c4:=(h.p1).rawCell 4;have c5:=(h.p1).rawCell 5;have c6:=(h.p1).rawCell 6;simp at c0 c1 c2 c3 c4 c5 c6;replace H:=Lib.hid h;clear h)
  |(go_at_call 50;(with_reducible refine(so_intV po y4 y5 s 1 Y5.out G5.out Q5.out H.out).mono ?_);rintro e_ wn ⟨rfl,h⟩;have c0:=(h.p1).rawCell 0;have c1:=(h.p1).rawCell 1;have c2:=(h.p1).rawCell 2;have c3:=(h.p1).rawCell 3;have c4:=(h.p1).rawCell 4;have c5:=(h.p1).rawCell 5;have c6:=(h.p1).rawCell 6;simp at c0 c1 c2 c3 c4 c5 c6;replace H:=Lib.hid h;clear h)
  |(go_at_call 92;(with_reducible refine(val_putTopics po y5 y6 l _ _ Y6.out Q6.out HFT.out HK.out H.out).mono ?_);rintro e_ wn ⟨rfl,h⟩;have c0:=(h.p1).rawCell 0;have c1:=(h.p1).rawCell 1;have c2:=(h.p1).rawCell 2;have c3:=(h.p1).rawCell 3;have c4:=(h.p1).rawCell 4;have c5:=(h.p1).rawCell 5;have c6:=(h.p1).rawCell 6;simp at c0 c1 c2 c3 c4 c5 c6;replace H:=Lib.hid h;clear h)
  |(go_at_call 50;(with_reducible refine(so_intV po y6 y7 u 8 Y7.out G7.out Q7.out H.out).mono ?_);rintro e_ wn ⟨rfl,h⟩;have c0:=(h.p1).rawCell 0;have c1:=(h.p1).rawCell 1;have c2:=(h.p1).rawCell 2;have c3:=(h.p1).rawCell 3;have c4:=(h.p1).rawCell 4;have c5:=(h.p1).rawCell 5;have c6:=(h.p1).rawCell 6;simp at c0 c1 c2 c3 c4 c5 c6;replace H:=Lib.hid h;clear h)
  |(go_at_call 50;(with_reducible refine(so_intV po y7 y8 st 8 Y8.out G8.out Q8.out H.out).mono ?_);rintro e_ wn ⟨rfl,h⟩;have c0:=(h.p1).rawCell 0;have c1:=(h.p1).rawCell 1;have c2:=(h.p1).rawCell 2;have c3:=(h.p1).rawCell 3;have c4:=(h.p1).rawCell 4;have c5:=(h.p1).rawCell 5;have c6:=(h.p1).rawCell 6;simp at c0 c1 c2 c3 c4 c5 c6;replace H:=Lib.hid h;clear h)
  |(go_at_call 49;(with_reducible refine(so_textV po y8 H.out).mono ?_);rintro e_ wn ⟨rfl,h⟩;replace H:=Lib.hid h;clear h))
 go_ret2;exact⟨rfl,H.out.drop.drop⟩
def recE (s:Bs):Int:=(decJ s).err
theorem sem_rec (s:Bs) (hs:s.length≤1501){W0 w:World}{K:Know}{L:List Res}(h:St W0 w K L):
  Calls Tryz.prog 36 #[.string (bb s)] w fun en w'=>∃(t o:Int) (n1:Bool) (d1:Bs) (n2:Bool) (d2:Bs) (q:Option Addr) (n cap:Nat) (K2:Know),en=.returned (.tuple #[.agg #[.int .i64 t,.int .i64 o,.bool n1,.string (bb d1),.bool n2,.string (bb d2),.slice q n cap],.int .i64 (recE s)])∧K2.has K∧(recE s=0→∀(W0 w:World) (K':Know) (L:List Res),K'.has K2→St W0 w K' L→Calls Tryz.prog 37 #[.agg #[.int .i64 t,.int .i64 o,.bool n1,.string (bb d1),.bool n2,.string (bb d2),.slice q n cap]] w fun en w'=>en=.returned (.tuple #[.string (bb s),.int .i64 0])∧St W0 w' K' L)∧St W0 w' K2 L:=by
 refine(rec_decode s _ _ rfl rfl (by omega) h).mono ?_;rintro en w' ⟨v,rfl,h⟩;obtain⟨q,cap,hv⟩:=flat_form (Know.has_right (Know.has_refl _)) h;subst hv;refine⟨_,_,_,_,_,_,q,_,cap,_,rfl,Know.has_left (Know.has_refl _),fun h0=> ?_,h⟩
 cases hr:reRec s with
 |error e=>exact absurd ((dec_ofE hr).2.symm.trans h0) (reRec_nz hr)
 |ok y=>
  obtain⟨x,m⟩:=y;obtain⟨g1,g2,g3,g4,_,g6⟩:=reRec_one hr
  by_cases hm:m=s.length
  · rw[(dec_all hr hm).1];rw[hm,List.take_length]at g1;intro W0 w K' L hk h;exact rec_encode x _ 0 s g3 (by omega) g2 (by unfold encOk;rw[if_pos g2];exact g1) (Know.has_trans hk (Know.has_right (Know.has_refl _))) h
  · have:(decJ s).err=2:=(dec_long2 hr (by omega)).2;exact absurd (this.symm.trans h0) (by decide)
theorem recE_longer {s:Bs}(hs:s.length≤1501) (c:UInt8) (h0:recE s=0):recE (s++[c])=2:=by
 cases hr:reRec s with
 |error e=>exact absurd ((dec_ofE hr).2.symm.trans h0) (reRec_nz hr)
 |ok y=>
  obtain⟨x,m⟩:=y;obtain⟨g1,g2,g3,g4,_,g6⟩:=reRec_one hr
  have hm:m=s.length:=by
   by_cases hm:m=s.length
   · exact hm
   · have:(decJ s).err=2:=(dec_long2 hr (by omega)).2;exact absurd (this.symm.trans h0) (by decide)
  rw[hm,List.take_length]at g1;have:=reRec_back x g3 g2 (by omega) [c];rw[g1]at this;exact(dec_long2 this (by rw[List.length_append,List.length_singleton];omega)).2
def batE (s:Bs):Int:=match batD s with| .ok _=>0| .error e=>e
theorem batE_ok {s:Bs}(h:batE s=0):∃b,batD s=.ok b:=by
 unfold batE at h
 cases hb:batD s with
 |error e=>rw[hb]at h;exact absurd h (batD_ne hb)
 |ok b=>exact⟨b,rfl⟩
theorem batD_one {s:Bs}{b:BatS}(hs:s.length≤2000) (h:batD s=.ok b):b.enc=s∧MidOk b:=by
 unfold batD at h
 cases hr:reBat s with
 |error e=>rw[hr]at h;cases h
 |ok y=>
  obtain⟨x,n⟩:=y;rw[hr]at h;simp only at h
  split at h
  · cases h
  · cases h
    rename_i hn
    have g1:=(reBat_one hr).1;rw[List.take_of_length_le (by omega)]at g1;exact⟨g1,MidOk.of2 hr hs⟩
theorem batE_longer {s:Bs}(hs:s.length≤1501) (c:UInt8) (h0:batE s=0):batE (s++[c])=2:=by
 obtain⟨b,hb⟩:=batE_ok h0;obtain⟨g1,so⟩:=batD_one (by omega) hb;have:=reBat_back so.err so.rng (fun x hx=>⟨(so.fit x hx).1,(so.fit x hx).2.1,by have:=(so.fit x hx).2.2;omega⟩) (by have:=so.rows;omega) (by have:=so.len;omega) [c];rw[g1]at this;unfold batE batD;rw[this]
 simp
theorem sem_bat (s:Bs) (hs:s.length≤1501){W0 w:World}{K:Know}{L:List Res}(h:St W0 w K L):
  Calls Tryz.prog 38 #[.string (bb s)] w fun en w'=>∃(x0 x1:Int) (x2 x3 x4:Bool) (x5 x6 x7 x8 x9 x10:Int) (q:Option Addr) (n cap:Nat) (K2:Know),en=.returned (.tuple #[.agg #[.int .i64 x0,.int .i64 x1,.bool x2,.bool x3,.bool x4,.int .i64 x5,.int .i64 x6,.int .i64 x7,.int .i64 x8,.int .i64 x9,.int .i64 x10,.slice q n cap],.int .i64 (batE s)])∧K2.has K∧(batE s=0→∀(W0 w:World) (K':Know) (L:List Res),K'.has K2→St W0 w K' L→Calls Tryz.prog 39 #[.agg #[.int .i64 x0,.int .i64 x1,.bool x2,.bool x3,.bool x4,.int .i64 x5,.int .i64 x6,.int .i64 x7,.int .i64 x8,.int .i64 x9,.int .i64 x10,.slice q n cap]] w fun en w'=>en=.returned (.tuple #[.string (bb s),.int .i64 0])∧St W0 w' K' L)∧St W0 w' K2 L:=by
 cases hb:batD s with
 |ok b=>
  have e:batE s=0:=by unfold batE;rw[hb]
  rw[e];refine(bat_decode_ok s (by omega) b hb h).mono ?_;rintro en w' ⟨q,l,cap,rfl,hl,h⟩;obtain⟨g1,so⟩:=batD_one (by omega) hb;refine⟨_,_,_,_,_,_,_,_,_,_,_,q,_,cap,_,rfl,Know.has_left (Know.has_refl _),fun _ W0 w K' L hk h=> ?_,h⟩;exact bat_encode_midE b s g1 l q cap hl so (Know.has_trans hk (Know.has_right (Know.has_refl _))) h
 |error e=>
  have e1:batE s=e:=by unfold batE;rw[hb]
  rw[e1];refine(bat_decode_bad s (by omega) e hb h).mono ?_;rintro en w' ⟨rfl,h⟩;exact⟨_,_,_,_,_,_,_,_,_,_,_,none,0,0,K,rfl,Know.has_refl _,fun g=>absurd g (batD_ne hb),h⟩
theorem sem_key (s:Bs) (hs:s.length≤1501){W0 w:World}{K:Know}{L:List Res}(h:St W0 w K L):
  Calls Tryz.prog 40 #[.string (bb s)] w fun en w'=>∃x:Bs,en=.returned (.tuple #[.string (bb x),.int .i64 (keyRd s).2])∧((keyRd s).2=0→∀(W0 w:World) (K':Know) (L:List Res),St W0 w K' L→Calls Tryz.prog 41 #[.string (bb x)] w fun en w'=>en=.returned (.tuple #[.string (bb s),.int .i64 0])∧St W0 w' K' L)∧St W0 w' K L:=by
 refine(key_decode s (by omega) h).mono ?_;rintro en w' ⟨rfl,h⟩;rw[keyDec_eq s];refine⟨_,rfl,fun h0 W0 w K' L h=> ?_,h⟩;have e:keyRd s=((keyRd s).1,0):=by rw[←h0]
 have g:=keyRd_enc s _ e
 have hl:(keyRd s).1.length≤40000:=by
  have:=congrArg (fun p=>p.1.length) g;unfold keyEnc at this;simp only at this
  split at this
  · unfold keyBytes at this;simp only[List.length_append]at this
    omega
  · rename_i hr
    unfold keyEnc at g;rw[if_neg hr]at g
    cases g
 have:=key_encode (keyRd s).1 hl h;rw[g]at this;exact this
theorem keyE_longer {s:Bs}(c:UInt8) (h0:(keyRd s).2=0):(keyRd (s++[c])).2=2:=by
 unfold keyRd at h0 ⊢
 by_cases h1:s.length<2
 · rw[if_pos h1]at h0;cases h0
 rw[if_neg h1]at h0;have e1:(s++[c]).take 2=s.take 2:=List.take_append_of_le_length (by omega);rw[if_neg zq32,e1]
 by_cases h2:s.take 2≠[0,0]
 · rw[if_pos h2]at h0;cases h0
 rw[if_neg h2]at h0 ⊢
 by_cases h3:s.length<4
 · rw[if_pos h3]at h0;cases h0
 rw[if_neg h3]at h0
 have e2:((s++[c]).drop 2).take 2=(s.drop 2).take 2:=by
  rw[List.drop_append_of_le_length (by omega),List.take_append_of_le_length (by rw[List.length_drop];omega)]
 rw[if_neg zq32,e2]
 by_cases h4:sInt ((s.drop 2).take 2)≤0
 · rw[if_pos h4]at h0;cases h0
 rw[if_neg h4]at h0 ⊢;have e3:((s++[c]).length:Int)=s.length+1:=by rw[List.length_append];rfl
 by_cases h5:(s.length:Int) - 4<sInt ((s.drop 2).take 2)
 · rw[if_pos h5]at h0;cases h0
 rw[if_neg h5]at h0;rw[if_neg (by omega),if_pos (by omega)]
def valE (s:Bs):Int:=(valDec s).2
theorem valDec_fewF {S:Bs}{v:ValS}(hs:S.length≤1000000) (h:valDec S=(v,0)):FewL v.tops:=by
 have h1:=valF_few (decI_at S) hs;have h2:=(valDec_ok h (.inr trivial)).2.1;rw[h2]at h1;exact h1
theorem valE_longer {s:Bs}(hs:s.length≤1501) (c:UInt8) (h0:valE s=0):valE (s++[c])=2:=by
 obtain⟨v,hv⟩:∃v,valDec s=(v,0):=⟨(valDec s).1,by have h0:(valDec s).2=0:=h0;rw[←h0]⟩;have no:∀{x:ValS}{e:Int},e≠0→¬valDec s=(x,e):=fun he h=>he (by rw[hv]at h;exact(congrArg Prod.snd h).symm)
 have h2:2≤s.length:=by
  by_cases h:s.length<2
  · exact absurd (rdec_1 h) (no (by decide))
  · omega
 have h3:sInt (s.take 2)=0:=by
  by_cases h:sInt (s.take 2)=0
  · exact h
  · exact absurd (rdec_2 h2 h) (no (by decide))
 have h17:17≤s.length:=by
  by_cases h:s.length<17
  · exact absurd (rdec_3 h2 h3 h) (no (by decide))
  · omega
 obtain⟨l,m,e,hr⟩:∃l m e,topsR (s.drop 17)=(l,m,e):=⟨_,_,_,rfl⟩
 have he:e=0:=by
  by_cases h:e=0
  · exact h
  · exact absurd (rdec_4 h3 h17 hr h) (no h)
 subst he;have hm1:¬s.length<17+m+16:=fun h=>absurd (rdec_5 h3 h17 hr h) (no (by decide))
 have hm2:¬17+m+16<s.length:=fun h=>absurd (rdec_6 h3 h17 hr h) (no (by decide))
 obtain⟨v2,hv2⟩:∃v2,v2=(⟨sInt ((s.drop 2).take 8),sInt ((s.drop 10).take 2),sInt ((s.drop 12).take 4),sInt ((s.drop 16).take 1),l,sInt ((s.drop (17+m)).take 8),sInt ((s.drop (17+m)).drop 8)⟩:ValS):=⟨_,rfl⟩;have h7:=rdec_7 h3 h17 hr (by omega) v2 hv2
 have hE:v2.err=0:=by
  by_cases h:v2.err=0
  · exact h
  · rw[if_pos h]at h7;exact absurd h7 (no h)
 rw[if_neg (fun x=>x hE)]at h7;have hl:v2.tops=l:=by rw[hv2]
 have hri:=(ValS.ok_parts v2 hE).2.2.2.2;have hfw:=valDec_fewF (by omega) h7;rw[hl]at hri hfw;have hfit:=fitL_riseF l hfw hri;have hp:=topsR_ok hr;obtain⟨g1,g2⟩:=topsP_one hp
 have e1:(s++[c]).drop 17=encTs l++((s.drop 17).drop m++[c]):=by
  rw[List.drop_append_of_le_length h17,←g2,←List.append_assoc,List.take_append_drop]
 have e2:(encTs l).length=m:=by rw[←g2,List.length_take];omega
 have hr2:topsR ((s++[c]).drop 17)=(l,m,0):=by
  unfold topsR;rw[e1,topsP_back l hfit,e2]
 have e3:(s++[c]).take 2=s.take 2:=List.take_append_of_le_length h2;have e4:(s++[c]).length=s.length+1:=by rw[List.length_append];rfl
 have:=rdec_6 (s:=s++[c]) (by rw[e3];exact h3) (by omega) hr2 (by omega);unfold valE;rw[this]
theorem sem_val (s:Bs) (hs:s.length≤1501){W0 w:World}{K:Know}{L:List Res}(h:St W0 w K L):
   Calls Tryz.prog 42 #[.string (bb s)] w fun en w'=>∃(x0 x1 x2 x3:Int) (q:Option Addr) (n cap:Nat) (x5 x6:Int) (K2:Know),en=.returned (.tuple #[.agg #[.int .i64 x0,.int .i64 x1,.int .i64 x2,.int .i64 x3,.slice q n cap,.int .i64 x5,.int .i64 x6],.int .i64 (valE s)])∧K2.has K∧(valE s=0→∀(W0 w:World) (K':Know) (L:List Res),K'.has K2→St W0 w K' L→Calls Tryz.prog 43 #[.agg #[.int .i64 x0,.int .i64 x1,.int .i64 x2,.int .i64 x3,.slice q n cap,.int .i64 x5,.int .i64 x6]] w fun en w'=>en=.returned (.tuple #[.string (bb s),.int .i64 0])∧St W0 w' K' L)∧St W0 w' K2 L:=by
 obtain⟨v,E,hv⟩:∃v E,valDec s=(v,E):=⟨_,_,rfl⟩;have e:valE s=E:=by unfold valE;rw[hv]
 rw[e]
 by_cases h0:E=0
 · subst h0;obtain⟨p,ep,t,st,tops,u,sd⟩:=v;refine(val_decode_ok s (by omega) _ hv h).mono ?_;rintro en w' ⟨q,cap,lr,rfl,hl,h⟩;obtain⟨g1,g2,g3⟩:=valDec_one hv;have hl:lr.map (·.1)=tops:=hl;subst hl;refine⟨_,_,_,_,q,_,cap,_,_,_,rfl,Know.has_left (Know.has_refl _),fun _ W0 w K' L hk h=> ?_,h⟩;have:=val_encode_ok p ep t st u sd lr q cap g2 g3 (fewT_of (valDec_fewF (by omega) hv)) (Know.has_trans hk (Know.has_right (Know.has_refl _))) h;rw[g1]at this;exact this
 · refine(val_decode_bad s (by omega) v E hv h0 h).mono ?_;rintro en w' ⟨rfl,h⟩;exact⟨_,_,_,_,none,0,0,_,_,K,rfl,Know.has_refl _,fun g=>absurd g h0,h⟩
end Go.Proofs.YteldcbljedeeiaaGreatDoor
