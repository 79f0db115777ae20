/- A text. -/
import Derived.Test.YteldcbljedeeiaaGreatDoorGWholeStrictCard13
import Derived.Test.YteldcbljedeeiaaGreatDoorGWholeStrictCard6
import Derived.Test.YteldcbljedeeiaaGreatDoorGWholeStrictCard14
import Derived.Test.YteldcbljedeeiaaGreatDoorGWholeStrictCard11
import Derived.RegionTactic
import Derived.Deep.RegionHeld3
import Derived.Deep.DeepCutAuto
import Derived.WalkMore
import Derived.Test.YteldcbljedeeiaaGreatDoorGWholeStrictCard9
import Derived.Test.YteldcbljedeeiaaGreatDoorGWholeStrictCard12
import Derived.Deep.MidRow
import Derived.Test.YteldcbljedeeiaaGreatDoorGWholeStrictCard2
import Derived.Test.YteldcbljedeeiaaGreatDoorGWholeStrictCard4
/- A text. -/
namespace Go.Proofs.YteldcbljedeeiaaGreatDoor
open Go.RowKit
set_option maxRecDepth 100000
set_option maxHeartbeats 8000000

theorem fitL_riseF (l:List TopS) (hf:FewL l) (h:tRise l=true):FitTs l:=by
 have e:(l.map fun t=>(t,undef)).map (fun x=>x.1)=l:=by
  rw[List.map_map];exact List.map_id' l
 have:=fit_of_rise (l.map fun t=>(t,undef)) (fewT_of (by rw[e];exact hf)) (by rw[e];exact h)
 rwa [e]at this
theorem rd_marks (b:Nat) (v:Int) (s:Bs) (i:InS) (hi:i.On s) (hs:s.length≤2000){W0 w:World}{K:Know}{L:List Res}(h:St W0 w K (.inp b i::L)):
   Calls Tryz.prog 122 #[inPtr b,.int .i64 v] w fun en w'=>∃(q:Option Addr) (cap:Nat) (lr:List MarkR) (K2:Know),en=.returned (.slice q lr.length cap)∧K2.has K∧((i.marks v).2.err=0→marksErr v (lr.map MarkR.m)=0∧(∀x∈lr,x.Fit)∧(∀x∈lr,FitTs x.m.tops∧(encM v x.m).length≤2000)∧lr.length≤200∧K2.has (Know.marks (.slice q lr.length cap) lr)∧Got s i (i.marks v).2 (encMs v (lr.map MarkR.m)))∧St W0 w' K2 (.inp b (i.marks v).2::L):=by
 obtain⟨h1,h2,h3⟩:=marks_on v hs hi;refine(mark_readAll b v i (i.marks v).2 (i.marks v).1 rfl h1 h2 h).mono ?_;rintro en w' ⟨q,cap,lr,rfl,hm,hf,h⟩;refine⟨q,cap,lr,_,rfl,Know.has_left (Know.has_refl _),fun h0=> ?_,h⟩;obtain⟨g1,g2,g3,g4⟩:=h3 h0;rw[←hm]at g1 g2 g3 g4;refine⟨g3,hf,fun x hx=>⟨?_,?_⟩,by rwa [List.length_map]at g2,Know.has_right (Know.has_refl _),g1⟩
 · have hx2:=List.mem_map_of_mem (f:=MarkR.m) hx;exact fitL_riseF x.m.tops (g4 _ hx2).2 (riseE_ok (mErr_ok (show mErr v x.m.prod x.m.epoch x.m.tops x.m.coord=0 from(marksErr_ok g3).2 _ hx2)).2.2.2)
 · have e1:=encM_in v (lr.map MarkR.m) x.m (List.mem_map_of_mem hx);have e2:=g1.len h0
   omega
theorem rd_prod (b:Nat) (v:Int) (s:Bs) (i:InS) (hi:i.On s) (hs:s.length≤1600){W0 w:World}{K:Know}{L:List Res}(h:St W0 w K (.inp b i::L)):
  Calls Tryz.prog 118 #[inPtr b,.int .i64 v] w fun en w'=>∃(nl:Bool) (dd:Bs) (ac tm:Int) (q:Option Addr) (cap:Nat) (lr:List PTop) (K2:Know),en=.returned (.agg #[.bool nl,.string (bb dd),.int .i64 ac,.int .i64 tm,.slice q lr.length cap])∧K2.has K∧((prodJ v i).err=0→errReq ⟨nl,dd⟩ ac tm v lr=0∧(∀x∈lr,CkT x)∧lr.length≤1000000∧dd.length≤1600∧(⟨nl,dd⟩:BlobS).right=true∧(-32768≤ac∧ac<32768)∧(0≤tm∧tm<2147483648)∧(∀x∈lr,PutTM x)∧K2.has (Know.ptops (.slice q lr.length cap) lr)∧Got s i (prodJ v i) (encPReq nl dd ac tm lr))∧St W0 w' K2 (.inp b (prodJ v i)::L):=by
 obtain⟨⟨nl,dd⟩,i1,h1⟩:∃a j,i.fixed 2=(a,j):=⟨_,_,rfl⟩;obtain⟨ac,i2,h2⟩:∃a j,i1.int 2=(a,j):=⟨_,_,rfl⟩;obtain⟨tm,i3,h3⟩:∃a j,i2.int 4=(a,j):=⟨_,_,rfl⟩;obtain⟨n,c,h4⟩:∃a j,i3.cnt 6=(a,j):=⟨_,_,rfl⟩;obtain⟨ts,j,h5⟩:∃a j,InS.ptopsN n [] c=(a,j):=⟨_,_,rfl⟩;have g1:=got_fixed h1 hi;have g2:=got_int 2 (by decide) (by decide) h2 g1.1;have g3:=got_int 4 (by decide) (by decide) h3 g2.1;have g4:=got_cnt 6 (by decide) h4 g3.1;obtain⟨_,g5⟩:=got_ptops h5 g4.1 (cnt_on (by decide) h4 g3.1).2;have hsi:=On.text hi;rw[prodJ_eq h1 h2 h3 h4 h5]
 have key:∀en w',((j.err≠0∧∃K2:Know,en=Ending.returned (.agg #[.bool false,.string ⟨#[]⟩,.int .i64 0,.int .i64 0,.slice none 0 0])∧K2.has K∧St W0 w' K2 (.inp b j::L))∨(j.err=0∧∃(q:Option Addr) (cap:Nat) (lr:List PTop) (K2:Know),K2.has K∧lr.map PTop.pt=ts∧(∀x∈lr,CkT x)∧lr.length≤1000000∧(∀x∈lr,PtOk i.s.length x.pt∧∀y∈x.l,∀z∈y.l,z.l.map (·.1)=z.b.recs)∧((errReq ⟨nl,dd⟩ ac tm v lr=0∧en=.returned (.agg #[.bool nl,.string (bb dd),.int .i64 ac,.int .i64 tm,.slice q lr.length cap])∧K2.has (Know.ptops (.slice q lr.length cap) lr)∧St W0 w' K2 (.inp b j::L))∨(errReq ⟨nl,dd⟩ ac tm v lr≠0∧en=.returned (.agg #[.bool false,.string ⟨#[]⟩,.int .i64 0,.int .i64 0,.slice none 0 0])∧St W0 w' K2 (.inp b (j.fail (errReq ⟨nl,dd⟩ ac tm v lr))::L)))))→∃(nl':Bool) (dd':Bs) (ac' tm':Int) (q:Option Addr) (cap:Nat) (lr:List PTop) (K2:Know),en=.returned (.agg #[.bool nl',.string (bb dd'),.int .i64 ac',.int .i64 tm',.slice q lr.length cap])∧K2.has K∧((chkJ j (errReq ⟨nl,dd⟩ ac tm v (ts.map topU))).err=0→errReq ⟨nl',dd'⟩ ac' tm' v lr=0∧(∀x∈lr,CkT x)∧lr.length≤1000000∧dd'.length≤1600∧(⟨nl',dd'⟩:BlobS).right=true∧(-32768≤ac'∧ac'<32768)∧(0≤tm'∧tm'<2147483648)∧(∀x∈lr,PutTM x)∧K2.has (Know.ptops (.slice q lr.length cap) lr)∧Got s i (chkJ j (errReq ⟨nl,dd⟩ ac tm v (ts.map topU))) (encPReq nl' dd' ac' tm' lr))∧St W0 w' K2 (.inp b (chkJ j (errReq ⟨nl,dd⟩ ac tm v (ts.map topU)))::L):=by
  rintro en w' (⟨hj,K2,rfl,hk,h⟩|⟨hj,q,cap,lr,K2,hk,hpt,hck,hll,hot,hh⟩)
  · rw[chkJ_bad hj];exact⟨false,[],0,0,none,0,[],K2,rfl,hk,fun g=>absurd g hj,h⟩
  · have hu:errReq ⟨nl,dd⟩ ac tm v lr=errReq ⟨nl,dd⟩ ac tm v (ts.map topU):=errReq_pt _ _ _ _ (hpt.trans (topU_pt ts).symm);rw[←hu]
    rcases hh with ⟨he,rfl,hkp,h⟩|⟨he,rfl,h⟩
    · rw[he,chkJ_pos];obtain⟨f1,f2⟩:=g5 hj
      have hG:Got s i j (encPReq nl dd ac tm lr):=by
       have:=(((g1.trans g2).trans g3).trans g4).trans f2;have e1:lr.length=n:=by rw[←f1,←hpt,List.length_map]
       have e2:lr.flatMap encPTop=ts.flatMap encTV:=by rw[←hpt,List.flatMap_map];exact congrArg (fun f=>lr.flatMap f) (funext encPTop_V)
       unfold encPReq;rw[e1,e2];exact this
      have hlen:=hG.len hj;have hd:=g1.len (g2.zero (g3.zero (g4.zero (f2.zero hj))));have hd2:=encF_data (b:=⟨nl,dd⟩);simp only at hd2
      obtain⟨a1,a2,a3,a4⟩:=putTM_of he (M:=s.length) (by omega) (by
       unfold encPReq at hlen;rw[List.length_append]at hlen
       omega) (by rw[←hsi];exact hot)
      exact⟨nl,dd,ac,tm,q,cap,lr,K2,rfl,hk,fun _=>⟨he,hck,hll,by omega,a1,a2,a3,a4,hkp,hG⟩,h⟩
    · rw[chkJ_neg he];exact⟨false,[],0,0,none,0,[],K2,rfl,hk,fun g=>absurd (chkJ_err (by rw[chkJ_neg he];exact g)).1 he,h⟩
 cases nl with
 |false=>exact(read_req_false b v i i1 i2 i3 c j dd ac tm n ts h1 h2 h3 h4 h5 (by rw[hsi];omega) h).mono key
 |true=>exact(read_req_true b v i i1 i2 i3 c j dd ac tm n ts h1 h2 h3 h4 h5 (by rw[hsi];omega) h).mono key
set_option maxHeartbeats 2000000 in
set_option maxRecDepth 100000 in
theorem rb_beg0 (b rf:Nat) (s:Bs) (i:InS) (num:Int) (u:Bool) (cs:Bs) (hi:i.On s) (hs:s.length≤1600){W0 w:World}{K:Know}{L:List Res}(h:St W0 w K (.inp b i::.raw rf #[.int .i64 22,.int .i64 0,.int .i64 num,.bool u,.string (bb cs),.bool false,.string ⟨#[]⟩,.int .i64 0,.int .i64 0,.int .i64 0,.string ⟨#[]⟩,.int .i64 0,.int .i64 0,.slice none 0 0,.string ⟨#[]⟩,.int .i64 0,.int .i64 0,.bool false,.slice none 0 0,.bool false,.string ⟨#[]⟩,.int .i64 0,.int .i64 0,.slice none 0 0] 38::L)):
  Calls Tryz.prog 69 #[inPtr b,.pointer (some ⟨rf,0,none⟩)] w fun en w'=>en=.returned (.tuple #[])∧∃(nl:Bool) (d:Bs) (tm p e:Int),((begJ 0 i).err=0→begE 0 nl d tm p e=0∧p<9223372036854775808∧Got s i (begJ 0 i) (encF 2 ⟨nl,d⟩++beBytes tm 4))∧St W0 w' K (.inp b (begJ 0 i)::.raw rf #[.int .i64 22,.int .i64 0,.int .i64 num,.bool u,.string (bb cs),.bool nl,.string (bb d),.int .i64 tm,.int .i64 p,.int .i64 e,.string ⟨#[]⟩,.int .i64 0,.int .i64 0,.slice none 0 0,.string ⟨#[]⟩,.int .i64 0,.int .i64 0,.bool false,.slice none 0 0,.bool false,.string ⟨#[]⟩,.int .i64 0,.int .i64 0,.slice none 0 0] 38::L):=by
 have z0:=h.p1.rawCell 0;have z1:=h.p1.rawCell 1;simp at z0 z1;have H:=Lib.hid h;have HI:=Lib.hid hi;have HS:=Lib.hid hs;clear h hi hs;go_enter Tryz.func69,Tryz.ntmps69;go_wp2_with (go_at_call 119;(with_reducible refine(rd_beg0 b s i HI.out (Nat.le_trans HS.out (by decide)) H.out).mono ?_);rintro e_ wn ⟨nl,d,tm,p,e,rfl,hg,h⟩;have HG:=Lib.hid hg;have c5:=h.p1.rawCell 5;have f5:=h.p1.rawFree 5;have c6:=h.p1.rawCell 6;have f6:=h.p1.rawFree 6;have c7:=h.p1.rawCell 7;have f7:=h.p1.rawFree 7;have c8:=h.p1.rawCell 8;have f8:=h.p1.rawFree 8;have c9:=h.p1.rawCell 9;have f9:=h.p1.rawFree 9;simp at c5 f5 c6 f6 c7 f7 c8 f8 c9 f9;clear hg;replace H:=Lib.hid h;clear h);have hz:St W0 _ K (.raw rf #[.int .i64 22,.int .i64 0,.int .i64 num,.bool u,.string (bb cs),.bool nl,.string (bb d),.int .i64 tm,.int .i64 p,.int .i64 e,.string ⟨#[]⟩,.int .i64 0,.int .i64 0,.slice none 0 0,.string ⟨#[]⟩,.int .i64 0,.int .i64 0,.bool false,.slice none 0 0,.bool false,.string ⟨#[]⟩,.int .i64 0,.int .i64 0,.slice none 0 0] 38::.inp b (begJ 0 i)::L):=(((((H.out.p1.rawSet 5 _).rawSet 6 _).rawSet 7 _).rawSet 8 _).rawSet 9 _);go_end0;exact⟨rfl,nl,d,tm,p,e,HG.out,hz.p1⟩
set_option maxHeartbeats 2000000 in
set_option maxRecDepth 100000 in
theorem rb_beg1 (b rf:Nat) (s:Bs) (i:InS) (num:Int) (u:Bool) (cs:Bs) (hi:i.On s) (hs:s.length≤1600){W0 w:World}{K:Know}{L:List Res}(h:St W0 w K (.inp b i::.raw rf #[.int .i64 22,.int .i64 1,.int .i64 num,.bool u,.string (bb cs),.bool false,.string ⟨#[]⟩,.int .i64 0,.int .i64 0,.int .i64 0,.string ⟨#[]⟩,.int .i64 0,.int .i64 0,.slice none 0 0,.string ⟨#[]⟩,.int .i64 0,.int .i64 0,.bool false,.slice none 0 0,.bool false,.string ⟨#[]⟩,.int .i64 0,.int .i64 0,.slice none 0 0] 38::L)):
  Calls Tryz.prog 69 #[inPtr b,.pointer (some ⟨rf,0,none⟩)] w fun en w'=>en=.returned (.tuple #[])∧∃(nl:Bool) (d:Bs) (tm p e:Int),((begJ 1 i).err=0→begE 1 nl d tm p e=0∧p<9223372036854775808∧Got s i (begJ 1 i) (encF 2 ⟨nl,d⟩++beBytes tm 4++beBytes p 8++beBytes e 2))∧St W0 w' K (.inp b (begJ 1 i)::.raw rf #[.int .i64 22,.int .i64 1,.int .i64 num,.bool u,.string (bb cs),.bool nl,.string (bb d),.int .i64 tm,.int .i64 p,.int .i64 e,.string ⟨#[]⟩,.int .i64 0,.int .i64 0,.slice none 0 0,.string ⟨#[]⟩,.int .i64 0,.int .i64 0,.bool false,.slice none 0 0,.bool false,.string ⟨#[]⟩,.int .i64 0,.int .i64 0,.slice none 0 0] 38::L):=by
 have z0:=h.p1.rawCell 0;have z1:=h.p1.rawCell 1;simp at z0 z1;have H:=Lib.hid h;have HI:=Lib.hid hi;have HS:=Lib.hid hs;clear h hi hs;go_enter Tryz.func69,Tryz.ntmps69;go_wp2_with (go_at_call 119;(with_reducible refine(rd_beg1 b s i HI.out (Nat.le_trans HS.out (by decide)) H.out).mono ?_);rintro e_ wn ⟨nl,d,tm,p,e,rfl,hg,h⟩;have HG:=Lib.hid hg;have c5:=h.p1.rawCell 5;have f5:=h.p1.rawFree 5;have c6:=h.p1.rawCell 6;have f6:=h.p1.rawFree 6;have c7:=h.p1.rawCell 7;have f7:=h.p1.rawFree 7;have c8:=h.p1.rawCell 8;have f8:=h.p1.rawFree 8;have c9:=h.p1.rawCell 9;have f9:=h.p1.rawFree 9;simp at c5 f5 c6 f6 c7 f7 c8 f8 c9 f9;clear hg;replace H:=Lib.hid h;clear h);have hz:St W0 _ K (.raw rf #[.int .i64 22,.int .i64 1,.int .i64 num,.bool u,.string (bb cs),.bool nl,.string (bb d),.int .i64 tm,.int .i64 p,.int .i64 e,.string ⟨#[]⟩,.int .i64 0,.int .i64 0,.slice none 0 0,.string ⟨#[]⟩,.int .i64 0,.int .i64 0,.bool false,.slice none 0 0,.bool false,.string ⟨#[]⟩,.int .i64 0,.int .i64 0,.slice none 0 0] 38::.inp b (begJ 1 i)::L):=(((((H.out.p1.rawSet 5 _).rawSet 6 _).rawSet 7 _).rawSet 8 _).rawSet 9 _);go_end0;exact⟨rfl,nl,d,tm,p,e,HG.out,hz.p1⟩
set_option maxHeartbeats 2000000 in
set_option maxRecDepth 100000 in
theorem rb_add (b rf:Nat) (s:Bs) (i:InS) (num:Int) (u:Bool) (cs:Bs) (hi:i.On s) (hs:s.length≤1600){W0 w:World}{K:Know}{L:List Res}(h:St W0 w K (.inp b i::.raw rf #[.int .i64 24,.int .i64 0,.int .i64 num,.bool u,.string (bb cs),.bool false,.string ⟨#[]⟩,.int .i64 0,.int .i64 0,.int .i64 0,.string ⟨#[]⟩,.int .i64 0,.int .i64 0,.slice none 0 0,.string ⟨#[]⟩,.int .i64 0,.int .i64 0,.bool false,.slice none 0 0,.bool false,.string ⟨#[]⟩,.int .i64 0,.int .i64 0,.slice none 0 0] 38::L)):
  Calls Tryz.prog 69 #[inPtr b,.pointer (some ⟨rf,0,none⟩)] w fun en w'=>en=.returned (.tuple #[])∧∃(d:Bs) (p e:Int) (q:Option Addr) (cap:Nat) (lr:List (TopS×Value)) (K2:Know),K2.has K∧((addJ i).err=0→addE d p e (lr.map (·.1))=0∧p<9223372036854775808∧FewL (lr.map (·.1))∧K2.has (Know.tops (.slice q lr.length cap) lr)∧Got s i (addJ i) (encF 2 ⟨false,d⟩++beBytes p 8++beBytes e 2++encTs (lr.map (·.1))))∧St W0 w' K2 (.inp b (addJ i)::.raw rf #[.int .i64 24,.int .i64 0,.int .i64 num,.bool u,.string (bb cs),.bool false,.string ⟨#[]⟩,.int .i64 0,.int .i64 0,.int .i64 0,.string (bb d),.int .i64 p,.int .i64 e,.slice q lr.length cap,.string ⟨#[]⟩,.int .i64 0,.int .i64 0,.bool false,.slice none 0 0,.bool false,.string ⟨#[]⟩,.int .i64 0,.int .i64 0,.slice none 0 0] 38::L):=by
 have z0:=h.p1.rawCell 0;simp at z0;have H:=Lib.hid h;have HI:=Lib.hid hi;have HS:=Lib.hid hs;clear h hi hs;go_enter Tryz.func69,Tryz.ntmps69;go_wp2_with (go_at_call 120;(with_reducible refine(rd_add b s i HI.out (Nat.le_trans HS.out (by decide)) H.out).mono ?_);rintro e_ wn ⟨d,p,e,q,cap,lr,K2,rfl,hkk,hg,h⟩;have HG:=Lib.hid hg;have HKK:=Lib.hid hkk;have c10:=h.p1.rawCell 10;have f10:=h.p1.rawFree 10;have c11:=h.p1.rawCell 11;have f11:=h.p1.rawFree 11;have c12:=h.p1.rawCell 12;have f12:=h.p1.rawFree 12;have c13:=h.p1.rawCell 13;have f13:=h.p1.rawFree 13;simp at c10 f10 c11 f11 c12 f12 c13 f13;clear hg hkk;replace H:=Lib.hid h;clear h);have hz:St W0 _ K2 (.raw rf #[.int .i64 24,.int .i64 0,.int .i64 num,.bool u,.string (bb cs),.bool false,.string ⟨#[]⟩,.int .i64 0,.int .i64 0,.int .i64 0,.string (bb d),.int .i64 p,.int .i64 e,.slice q lr.length cap,.string ⟨#[]⟩,.int .i64 0,.int .i64 0,.bool false,.slice none 0 0,.bool false,.string ⟨#[]⟩,.int .i64 0,.int .i64 0,.slice none 0 0] 38::.inp b (addJ i)::L):=((((H.out.p1.rawSet 10 _).rawSet 11 _).rawSet 12 _).rawSet 13 _);go_end0;exact⟨rfl,d,p,e,q,cap,lr,K2,HKK.out,HG.out,hz.p1⟩
set_option maxHeartbeats 2000000 in
set_option maxRecDepth 100000 in
theorem rb_end (b rf:Nat) (s:Bs) (i:InS) (num:Int) (u:Bool) (cs:Bs) (hi:i.On s) (hs:s.length≤1600){W0 w:World}{K:Know}{L:List Res}(h:St W0 w K (.inp b i::.raw rf #[.int .i64 26,.int .i64 0,.int .i64 num,.bool u,.string (bb cs),.bool false,.string ⟨#[]⟩,.int .i64 0,.int .i64 0,.int .i64 0,.string ⟨#[]⟩,.int .i64 0,.int .i64 0,.slice none 0 0,.string ⟨#[]⟩,.int .i64 0,.int .i64 0,.bool false,.slice none 0 0,.bool false,.string ⟨#[]⟩,.int .i64 0,.int .i64 0,.slice none 0 0] 38::L)):
  Calls Tryz.prog 69 #[inPtr b,.pointer (some ⟨rf,0,none⟩)] w fun en w'=>en=.returned (.tuple #[])∧∃(d:Bs) (p e:Int) (c:Bool),((endJ i).err=0→chkW d p e=0∧p<9223372036854775808∧Got s i (endJ i) (encF 2 ⟨false,d⟩++beBytes p 8++beBytes e 2++encO c))∧St W0 w' K (.inp b (endJ i)::.raw rf #[.int .i64 26,.int .i64 0,.int .i64 num,.bool u,.string (bb cs),.bool false,.string ⟨#[]⟩,.int .i64 0,.int .i64 0,.int .i64 0,.string ⟨#[]⟩,.int .i64 0,.int .i64 0,.slice none 0 0,.string (bb d),.int .i64 p,.int .i64 e,.bool c,.slice none 0 0,.bool false,.string ⟨#[]⟩,.int .i64 0,.int .i64 0,.slice none 0 0] 38::L):=by
 have z0:=h.p1.rawCell 0;simp at z0;have H:=Lib.hid h;have HI:=Lib.hid hi;have HS:=Lib.hid hs;clear h hi hs;go_enter Tryz.func69,Tryz.ntmps69;go_wp2_with (go_at_call 121;(with_reducible refine(rd_end b s i HI.out (Nat.le_trans HS.out (by decide)) H.out).mono ?_);rintro e_ wn ⟨d,p,e,c,rfl,hg,h⟩;have HG:=Lib.hid hg;have c14:=h.p1.rawCell 14;have f14:=h.p1.rawFree 14;have c15:=h.p1.rawCell 15;have f15:=h.p1.rawFree 15;have c16:=h.p1.rawCell 16;have f16:=h.p1.rawFree 16;have c17:=h.p1.rawCell 17;have f17:=h.p1.rawFree 17;simp at c14 f14 c15 f15 c16 f16 c17 f17;clear hg;replace H:=Lib.hid h;clear h);have hz:St W0 _ K (.raw rf #[.int .i64 26,.int .i64 0,.int .i64 num,.bool u,.string (bb cs),.bool false,.string ⟨#[]⟩,.int .i64 0,.int .i64 0,.int .i64 0,.string ⟨#[]⟩,.int .i64 0,.int .i64 0,.slice none 0 0,.string (bb d),.int .i64 p,.int .i64 e,.bool c,.slice none 0 0,.bool false,.string ⟨#[]⟩,.int .i64 0,.int .i64 0,.slice none 0 0] 38::.inp b (endJ i)::L):=((((H.out.p1.rawSet 14 _).rawSet 15 _).rawSet 16 _).rawSet 17 _);go_end0;exact⟨rfl,d,p,e,c,HG.out,hz.p1⟩
set_option maxHeartbeats 2000000 in
set_option maxRecDepth 100000 in
theorem rb_mrk (b rf:Nat) (s:Bs) (i:InS) (v num:Int) (u:Bool) (cs:Bs) (hi:i.On s) (hs:s.length≤1600){W0 w:World}{K:Know}{L:List Res}(h:St W0 w K (.inp b i::.raw rf #[.int .i64 27,.int .i64 v,.int .i64 num,.bool u,.string (bb cs),.bool false,.string ⟨#[]⟩,.int .i64 0,.int .i64 0,.int .i64 0,.string ⟨#[]⟩,.int .i64 0,.int .i64 0,.slice none 0 0,.string ⟨#[]⟩,.int .i64 0,.int .i64 0,.bool false,.slice none 0 0,.bool false,.string ⟨#[]⟩,.int .i64 0,.int .i64 0,.slice none 0 0] 38::L)):
  Calls Tryz.prog 69 #[inPtr b,.pointer (some ⟨rf,0,none⟩)] w fun en w'=>en=.returned (.tuple #[])∧∃(q:Option Addr) (cap:Nat) (lr:List MarkR) (K2:Know),K2.has K∧((i.marks v).2.err=0→marksErr v (lr.map MarkR.m)=0∧(∀x∈lr,x.Fit)∧(∀x∈lr,FitTs x.m.tops∧(encM v x.m).length≤2000)∧lr.length≤200∧K2.has (Know.marks (.slice q lr.length cap) lr)∧Got s i (i.marks v).2 (encMs v (lr.map MarkR.m)))∧St W0 w' K2 (.inp b ((i.marks v).2)::.raw rf #[.int .i64 27,.int .i64 v,.int .i64 num,.bool u,.string (bb cs),.bool false,.string ⟨#[]⟩,.int .i64 0,.int .i64 0,.int .i64 0,.string ⟨#[]⟩,.int .i64 0,.int .i64 0,.slice none 0 0,.string ⟨#[]⟩,.int .i64 0,.int .i64 0,.bool false,.slice q lr.length cap,.bool false,.string ⟨#[]⟩,.int .i64 0,.int .i64 0,.slice none 0 0] 38::L):=by
 have z0:=h.p1.rawCell 0;have z1:=h.p1.rawCell 1;simp at z0 z1;have H:=Lib.hid h;have HI:=Lib.hid hi;have HS:=Lib.hid hs;clear h hi hs;go_enter Tryz.func69,Tryz.ntmps69;go_wp2_with (go_at_call 122;(with_reducible refine(rd_marks b v s i HI.out (Nat.le_trans HS.out (by decide)) H.out).mono ?_);rintro e_ wn ⟨q,cap,lr,K2,rfl,hkk,hg,h⟩;have HG:=Lib.hid hg;have HKK:=Lib.hid hkk;have c18:=h.p1.rawCell 18;have f18:=h.p1.rawFree 18;simp at c18 f18;clear hg hkk;replace H:=Lib.hid h;clear h);have hz:St W0 _ K2 (.raw rf #[.int .i64 27,.int .i64 v,.int .i64 num,.bool u,.string (bb cs),.bool false,.string ⟨#[]⟩,.int .i64 0,.int .i64 0,.int .i64 0,.string ⟨#[]⟩,.int .i64 0,.int .i64 0,.slice none 0 0,.string ⟨#[]⟩,.int .i64 0,.int .i64 0,.bool false,.slice q lr.length cap,.bool false,.string ⟨#[]⟩,.int .i64 0,.int .i64 0,.slice none 0 0] 38::.inp b ((i.marks v).2)::L):=(H.out.p1.rawSet 18 _);go_end0;exact⟨rfl,q,cap,lr,K2,HKK.out,HG.out,hz.p1⟩
set_option maxHeartbeats 2000000 in
set_option maxRecDepth 100000 in
theorem rb_prd (b rf:Nat) (s:Bs) (i:InS) (v num:Int) (u:Bool) (cs:Bs) (hi:i.On s) (hs:s.length≤1600){W0 w:World}{K:Know}{L:List Res}(h:St W0 w K (.inp b i::.raw rf #[.int .i64 0,.int .i64 v,.int .i64 num,.bool u,.string (bb cs),.bool false,.string ⟨#[]⟩,.int .i64 0,.int .i64 0,.int .i64 0,.string ⟨#[]⟩,.int .i64 0,.int .i64 0,.slice none 0 0,.string ⟨#[]⟩,.int .i64 0,.int .i64 0,.bool false,.slice none 0 0,.bool false,.string ⟨#[]⟩,.int .i64 0,.int .i64 0,.slice none 0 0] 38::L)):
  Calls Tryz.prog 69 #[inPtr b,.pointer (some ⟨rf,0,none⟩)] w fun en w'=>en=.returned (.tuple #[])∧∃(nl:Bool) (d:Bs) (ac tm:Int) (q:Option Addr) (cap:Nat) (lr:List PTop) (K2:Know),K2.has K∧((prodJ v i).err=0→errReq ⟨nl,d⟩ ac tm v lr=0∧(∀x∈lr,CkT x)∧lr.length≤1000000∧d.length≤1600∧(⟨nl,d⟩:BlobS).right=true∧(-32768≤ac∧ac<32768)∧(0≤tm∧tm<2147483648)∧(∀x∈lr,PutTM x)∧K2.has (Know.ptops (.slice q lr.length cap) lr)∧Got s i (prodJ v i) (encPReq nl d ac tm lr))∧St W0 w' K2 (.inp b (prodJ v i)::.raw rf #[.int .i64 0,.int .i64 v,.int .i64 num,.bool u,.string (bb cs),.bool false,.string ⟨#[]⟩,.int .i64 0,.int .i64 0,.int .i64 0,.string ⟨#[]⟩,.int .i64 0,.int .i64 0,.slice none 0 0,.string ⟨#[]⟩,.int .i64 0,.int .i64 0,.bool false,.slice none 0 0,.bool nl,.string (bb d),.int .i64 ac,.int .i64 tm,.slice q lr.length cap] 38::L):=by
 have z0:=h.p1.rawCell 0;have z1:=h.p1.rawCell 1;simp at z0 z1;have H:=Lib.hid h;have HI:=Lib.hid hi;have HS:=Lib.hid hs;clear h hi hs;go_enter Tryz.func69,Tryz.ntmps69;go_wp2_with (go_at_call 118;(with_reducible refine(rd_prod b v s i HI.out HS.out H.out).mono ?_);rintro e_ wn ⟨nl,d,ac,tm,q,cap,lr,K2,rfl,hkk,hg,h⟩;have HG:=Lib.hid hg;have HKK:=Lib.hid hkk;have c19:=h.p1.rawCell 19;have f19:=h.p1.rawFree 19;have c20:=h.p1.rawCell 20;have f20:=h.p1.rawFree 20;have c21:=h.p1.rawCell 21;have f21:=h.p1.rawFree 21;have c22:=h.p1.rawCell 22;have f22:=h.p1.rawFree 22;have c23:=h.p1.rawCell 23;have f23:=h.p1.rawFree 23;simp at c19 f19 c20 f20 c21 f21 c22 f22 c23 f23;clear hg hkk;replace H:=Lib.hid h;clear h);have hz:St W0 _ K2 (.raw rf #[.int .i64 0,.int .i64 v,.int .i64 num,.bool u,.string (bb cs),.bool false,.string ⟨#[]⟩,.int .i64 0,.int .i64 0,.int .i64 0,.string ⟨#[]⟩,.int .i64 0,.int .i64 0,.slice none 0 0,.string ⟨#[]⟩,.int .i64 0,.int .i64 0,.bool false,.slice none 0 0,.bool nl,.string (bb d),.int .i64 ac,.int .i64 tm,.slice q lr.length cap] 38::.inp b (prodJ v i)::L):=(((((H.out.p1.rawSet 19 _).rawSet 20 _).rawSet 21 _).rawSet 22 _).rawSet 23 _);go_end0;exact⟨rfl,nl,d,ac,tm,q,cap,lr,K2,HKK.out,HG.out,hz.p1⟩
set_option maxHeartbeats 6000000 in
set_option maxRecDepth 100000 in
theorem preq_write_okM (po:Nat) (o:Bs) (nl:Bool) (dd:Bs) (ac tm v:Int) (l:List PTop) (q:Option Addr) (cap:Nat) (hdd:dd.length≤140737488355328) (hf:∀x∈l,CkT x) (hll:l.length≤1000000) (he:errReq ⟨nl,dd⟩ ac tm v l=0) (o2:Bs) (hs:o++encPReq nl dd ac tm l=o2) (h2:o2.length≤9000000) (hrt:(⟨nl,dd⟩:BlobS).right=true) (hd2:dd.length≤32767) (hac: -32768≤ac∧ac<32768) (htm:0≤tm∧tm<2147483648) (hpt:∀x∈l,PutTM x){W0 w:World}{K:Know}{L:List Res}(hk:K.has (Know.ptops (.slice q l.length cap) l)) (h:St W0 w K (.out po ⟨o,0⟩::L)):
  Calls Tryz.prog 97 #[.agg #[.bool nl,.string (bb dd),.int .i64 ac,.int .i64 tm,.slice q l.length cap],outPtr po,.int .i64 v] w fun en w'=>en=.returned (.tuple #[])∧St W0 w' K (.out po ⟨o2,0⟩::L):=by
 obtain⟨rb,hrb⟩:∃b,w.heap.size=b:=⟨_,rfl⟩;have g1:=(h.allocRaw #[.bool nl,.string (bb dd),.int .i64 ac,.int .i64 tm,.slice q l.length cap] 36).p1;rw[hrb]at g1;have z0:=g1.p1.rawCell 0;have z1:=g1.p1.rawCell 1;have z2:=g1.p1.rawCell 2;have z3:=g1.p1.rawCell 3;have z4:=g1.p1.rawCell 4;simp at z0 z1 z2 z3 z4;have H:=Lib.hid g1;have HK:=Lib.hid hk;have HCF:=Lib.hid hf;have HLL:=Lib.hid hll;have HDD:=Lib.hid hdd;have HER:=Lib.hid he;obtain⟨A1,hA1⟩:∃A,o++encF 2 ⟨nl,dd⟩=A:=⟨_,rfl⟩;obtain⟨A2,hA2⟩:∃A,A1++beBytes ac (2:Int).toNat=A:=⟨_,rfl⟩;obtain⟨A3,hA3⟩:∃A,A2++beBytes tm (4:Int).toNat=A:=⟨_,rfl⟩;obtain⟨A4,hA4⟩:∃A,A3++beBytes (l.length:Int) (4:Int).toNat=A:=⟨_,rfl⟩
 have hR:A4++(l.drop 0).flatMap encPTop=o2:=by
  rw[←hs,←hA4,←hA3,←hA2,←hA1,List.drop_zero];unfold encPReq;simp only[List.append_assoc]
 have l4:=len_ahead hR h2;have l3:=len_ahead hA4 l4;have l2:=len_ahead hA3 l3;have l1:=len_ahead hA2 l2;have l0:=len_ahead hA1 l1;have HA1:=Lib.hid hA1;have HA2:=Lib.hid hA2;have HA3:=Lib.hid hA3;have HA4:=Lib.hid hA4;have HR:=Lib.hid hR;have HO2:=Lib.hid h2;have L0:=Lib.hid (show o.length≤100000000000000 by omega);have L1:=Lib.hid (show A1.length≤100000000000000 by omega);have L2:=Lib.hid (show A2.length≤100000000000000 by omega);have L3:=Lib.hid (show A3.length≤100000000000000 by omega);have HRT:=Lib.hid hrt;have HD2:=Lib.hid hd2;have FA:=Lib.hid (pfits2 ac hac);have FT:=Lib.hid (pfits4 tm (by omega));have FL:=Lib.hid (pfits4 (l.length:Int) (by omega));have RA:=Lib.hid (show -9223372036854775808≤ac∧ac<9223372036854775808 by omega);have RT:=Lib.hid (show -9223372036854775808≤tm∧tm<9223372036854775808 by omega);have RL:=Lib.hid (show -9223372036854775808≤(l.length:Int)∧(l.length:Int)<9223372036854775808 by omega);have HPT:=Lib.hid hpt;have hni:(l.length:Int)≤4398046511104:=by omega
 clear h g1 hk hf hll hdd he hs h2 hrt hd2 hac htm hpt hA1 hA2 hA3 hA4 hR l4 l3 l2 l1 l0;go_enter Tryz.func97,Tryz.ntmps97
 go_wp2_with (first
  |(go_at_call 152;clear z0 z1 z2 z3 z4;(with_reducible refine(preq_check nl dd ac tm v l q cap HDD.out HCF.out (Nat.le_trans HLL.out (by decide)) 0 HER.out HK.out H.out).mono ?_);rintro e_ wn ⟨rfl,h⟩;have z0:=h.p1.rawCell 0;have z1:=h.p1.rawCell 1;have z2:=h.p1.rawCell 2;have z3:=h.p1.rawCell 3;have z4:=h.p1.rawCell 4;simp at z0 z1 z2 z3 z4;replace H:=Lib.hid h;clear h)
  |(go_at_call 96;clear z0 z1 z2 z3 z4;(with_reducible refine(pblob_fixed2 po o A1 nl dd HA1.out HRT.out HD2.out L0.out H.out).mono ?_);rintro e_ wn ⟨rfl,h⟩;have z0:=h.p1.rawCell 0;have z1:=h.p1.rawCell 1;have z2:=h.p1.rawCell 2;have z3:=h.p1.rawCell 3;have z4:=h.p1.rawCell 4;simp at z0 z1 z2 z3 z4;replace H:=Lib.hid h;clear h)
  |(go_at_call 50;clear z0 z1 z2 z3 z4;(with_reducible refine(pso_int po A1 A2 ac 2 HA2.out FA.out RA.out L1.out H.out).mono ?_);rintro e_ wn ⟨rfl,h⟩;have z0:=h.p1.rawCell 0;have z1:=h.p1.rawCell 1;have z2:=h.p1.rawCell 2;have z3:=h.p1.rawCell 3;have z4:=h.p1.rawCell 4;simp at z0 z1 z2 z3 z4;replace H:=Lib.hid h;clear h)
  |(go_at_call 50;clear z0 z1 z2 z3 z4;(with_reducible refine(pso_int po A2 A3 tm 4 HA3.out FT.out RT.out L2.out H.out).mono ?_);rintro e_ wn ⟨rfl,h⟩;have z0:=h.p1.rawCell 0;have z1:=h.p1.rawCell 1;have z2:=h.p1.rawCell 2;have z3:=h.p1.rawCell 3;have z4:=h.p1.rawCell 4;simp at z0 z1 z2 z3 z4;replace H:=Lib.hid h;clear h)
  |(go_at_call 50;clear z0 z1 z2 z3 z4;(with_reducible refine(pso_int po A3 A4 l.length 4 HA4.out FL.out RL.out L3.out H.out).mono ?_);rintro e_ wn ⟨rfl,h⟩;have z0:=h.p1.rawCell 0;have z1:=h.p1.rawCell 1;have z2:=h.p1.rawCell 2;have z3:=h.p1.rawCell 3;have z4:=h.p1.rawCell 4;simp at z0 z1 z2 z3 z4;replace H:=Lib.hid h;clear h))
 clear z0 z1 z2 z3 z4;go_loopw [39] (fun iv wr=>∃(k:Nat) (E:Bs),k≤l.length∧iv=.int .i64 k∧Hid (E++(l.drop k).flatMap encPTop=o2)∧St W0 wr K (.out po ⟨E,0⟩::.raw rb #[.bool nl,.string (bb dd),.int .i64 ac,.int .i64 tm,.slice q l.length cap] 36::L)) (fun iv _=>l.length - (intOf iv).toNat)
 case atStart=>exact⟨0,A4,Nat.zero_le _,rfl,HR,H.out⟩
 case round=>
  obtain⟨k,E,hkl,rfl,HE,hst⟩:=hrel;clear H HR;have H:=Lib.hid hst;clear hst
  by_cases hlt:k<l.length
  · obtain⟨bk,off,hqq⟩:=ptops_at HK.out H.out (by omega);obtain⟨x,hx⟩:∃x,l[k]=x:=⟨_,rfl⟩;have hmem:x∈l:=hx ▸ List.getElem_mem hlt;have hpx:=HPT.out x hmem;have HK':=HK.out;rw[hqq]at HK';obtain⟨c0,c1⟩:=ptops_cell HK' H.out k hlt x hx;have HXK0:=ptops_parts HK.out hmem;have he:=HE.out;rw[flat_cut encPTop l k hlt x hx]at he;have hkn:(k:Int)<(l.length:Int):=by omega
    obtain⟨nm,xl,xq,xcap⟩:=x;simp only at c0 c1 HXK0;obtain⟨B1,hB1⟩:∃B,E++encF 2 ⟨false,nm⟩=B:=⟨_,rfl⟩;obtain⟨B2,hB2⟩:∃B,B1++beBytes (xl.length:Int) (4:Int).toNat=B:=⟨_,rfl⟩
    have hI:B2++((xl.drop 0).flatMap encPart++(l.drop (k+1)).flatMap encPTop)=o2:=by
     rw[←he,←hB2,←hB1,List.drop_zero];unfold encPTop;simp only[List.append_assoc]
    have hxl:xl.length≤100000:=hpx.few;have hxi:(xl.length:Int)≤100000:=by omega
    have l2:=len_ahead hI HO2.out;have l1:=len_ahead hB2 l2;have l0:=len_ahead hB1 l1;have HB1:=Lib.hid hB1;have HB2:=Lib.hid hB2;have HI:=Lib.hid hI;have HNM:=Lib.hid (show nm.length≤32767 from hpx.name);have M0:=Lib.hid (show E.length≤100000000000000 by omega);have M1:=Lib.hid (show B1.length≤100000000000000 by omega);have FX:=Lib.hid (pfits4 (xl.length:Int) (by omega));have RX:=Lib.hid (show -9223372036854775808≤(xl.length:Int)∧(xl.length:Int)<9223372036854775808 by omega);have HXK:=Lib.hid HXK0;have HPP:=Lib.hid (show ∀y∈xl,PutPM y from hpx.parts);subst hqq;clear hx hmem hpx HK' HXK0 he hxl hB1 hB2 hI l2 l1 l0
    go_wp2_with (first
  |(go_at_call 89;(with_reducible refine(pblob_text po E B1 nm HB1.out HNM.out M0.out ((H.out.allocRaw #[.string (bb nm),.slice xq xl.length xcap] 178).p1)).mono ?_);rintro e_ wn ⟨rfl,h⟩;have y0:=h.p1.rawCell 0;have y1:=h.p1.rawCell 1;simp at y0 y1;replace H:=Lib.hid h;clear h)
  |(go_at_call 50;clear y0 y1;(with_reducible refine(pso_int po B1 B2 xl.length 4 HB2.out FX.out RX.out M1.out H.out).mono ?_);rintro e_ wn ⟨rfl,h⟩;have y1:=h.p1.rawCell 1;simp at y1;replace H:=Lib.hid h;clear h))
    clear y1;go_loopw [55] (fun jv wr=>∃(j:Nat) (G:Bs),j≤xl.length∧jv=.int .i64 j∧Hid (G++((xl.drop j).flatMap encPart++(l.drop (k+1)).flatMap encPTop)=o2)∧St W0 wr K (.out po ⟨G,0⟩::.raw rb #[.bool nl,.string (bb dd),.int .i64 ac,.int .i64 tm,.slice (some ⟨bk,off,none⟩) l.length cap] 36::L)) (fun jv _=>xl.length - (intOf jv).toNat)
    case atStart=>exact⟨0,B2,Nat.zero_le _,rfl,HI,H.out.p1.drop⟩
    case round=>
     obtain⟨j,G,hjl,rfl,HG,hst⟩:=hrel;clear H HI c0 c1;have H:=Lib.hid hst;clear hst
     by_cases hjt:j<xl.length
     · obtain⟨pk,poff,hpq⟩:=pparts_at HXK.out H.out (by omega);subst hpq;obtain⟨y,hy⟩:∃y,xl[j]=y:=⟨_,rfl⟩;have hmem:y∈xl:=hy ▸ List.getElem_mem hjt;have hpy:=HPP.out y hmem;obtain⟨d0,d1⟩:=pparts_cell HXK.out H.out j hjt y hy;have HYK0:=pparts_bats HXK.out hmem;have hg:=HG.out;rw[flat_cut encPart xl j hjt y hy]at hg;have hjn:(j:Int)<(xl.length:Int):=by omega
       obtain⟨yi,yl,yq,ycap⟩:=y;simp only at d0 d1 HYK0;obtain⟨G2,hG2⟩:∃B,G++encPart ⟨yi,yl,yq,ycap⟩=B:=⟨_,rfl⟩
       have hI:G2++((xl.drop (j+1)).flatMap encPart++(l.drop (k+1)).flatMap encPTop)=o2:=by
        rw[←hg,←hG2];simp only[List.append_assoc]
       have l1:=len_ahead hI HO2.out;have l0:=len_ahead hG2 l1;have HYK:=Lib.hid HYK0;have HPY:=Lib.hid hpy;have HG2:=Lib.hid hG2;have HI2:=Lib.hid hI;have M2:=Lib.hid (show G.length≤10000000 by omega);clear hy hmem hpy HYK0 hg hG2 hI l1 l0;go_wp2_with (go_at_call 153;(with_reducible refine(put_partM po G G2 yi yl yq ycap HPY.out HG2.out M2.out HYK.out ((H.out.allocRaw #[.int .i64 yi,.slice yq yl.length ycap] 181).p1)).mono ?_);rintro e_ wn ⟨rfl,h⟩;have h:=h.p1.drop;replace H:=Lib.hid h;clear h);go_roundw
       case rel=>
        refine⟨j+1,G2,hjt,by go_num,HI2,?_⟩;exact H.out
       case measure=>first|(simp[intOf];done)|(simp[intOf];omega)
     · obtain rfl:j=xl.length:=by omega
       have HE2:=Lib.hid (show G++(l.drop (k+1)).flatMap encPTop=o2 by have hg:=HG.out;rw[List.drop_length]at hg;exact hg);go_wp2_with fail;go_roundw
       case rel=>
        refine⟨k+1,G,hlt,by go_num,HE2,?_⟩;exact H.out
       case measure=>first|(simp[intOf];done)|(simp[intOf];omega)
  · obtain rfl:k=l.length:=by omega
    have he:=HE.out;rw[List.drop_length,List.flatMap_nil,List.append_nil]at he;subst he;go_wp2_with fail;go_end0;exact⟨rfl,H.out.p1.drop⟩
set_option maxHeartbeats 4000000 in
set_option maxRecDepth 100000 in
theorem beg_write_ok0 (b:Nat) (o o1 o2:Bs) (nl:Bool) (d:Bs) (tm p e:Int) (h1:o++encF 2 ⟨nl,d⟩=o1) (h2:o1++beBytes tm (4:Int).toNat=o2) (hk:begE 0 nl d tm p e=0) (hp:p<9223372036854775808) (hl:o.length≤1000000){W0 w:World}{K:Know}{L:List Res}(h:St W0 w K (.out b ⟨o,0⟩::L)):
  Calls Tryz.prog 98 #[.agg #[.bool nl,.string (bb d),.int .i64 tm,.int .i64 p,.int .i64 e],outPtr b,.int .i64 0] w fun en w'=>en=.returned (.tuple #[])∧St W0 w' K (.out b ⟨o2,0⟩::L):=by
 obtain⟨bB,hbB⟩:∃b,w.heap.size=b:=⟨_,rfl⟩;obtain⟨vB,hvB⟩:∃b,bB+1=b:=⟨_,rfl⟩;have g1:=(h.allocRaw #[.bool nl,.string (bb d),.int .i64 tm,.int .i64 p,.int .i64 e] 27).allocRaw #[.int .i64 0] 3;simp only[World.size_alloc,hbB,hvB]at g1;have H:=Lib.hid (show St W0 _ K (.out b ⟨o,0⟩::.raw vB #[.int .i64 0] 3::.raw bB #[.bool nl,.string (bb d),.int .i64 tm,.int .i64 p,.int .i64 e] 27::L)from g1.p2);clear g1;have hok:=begE_ok hk;obtain⟨hil,hri,hfi⟩:=idOk_len hok.1;have hrg:=was_rng hok.2.2;have HRI:=Lib.hid hri;have HFI:=Lib.hid hfi;have HIL:=Lib.hid hil;have H1:=Lib.hid h1;have H2:=Lib.hid h2;have HK_:=Lib.hid hk;have HIL2:=Lib.hid (show d.length≤140737488355328 by omega);have HFT:=Lib.hid (vfits4 tm (by omega));have hl1:o1.length=o.length+(d.length+2):=by rw[←h1,List.length_append];unfold encF;rw[List.length_append,beBytes_length];simp only;omega
 have hl2:o2.length=o1.length+4:=by rw[←h2,List.length_append,beBytes_length];rfl
 have HL:=Lib.hid (show o.length≤100000000000000 by omega);have HL1:=Lib.hid (show o1.length≤100000000000000 by omega);have HL2:=Lib.hid (show o2.length≤100000000 by omega);have HT:=Lib.hid (show((0:Int)==0)=true by rfl);have HO:=Lib.hid (show(if (0:Int)=0 then(⟨o,0⟩:OutS)else(⟨o,0⟩:OutS).fail 0)=⟨o,0⟩ by rfl);clear h h1 h2 hk hp hl hl1 hl2 hok hil hri hfi hrg;go_enter Tryz.func98,Tryz.ntmps98
 go_wp2_with (first
  |(go_at_call 154;(with_reducible refine(may_beg b _ _ bB vB 0 nl d tm p e _ _ HK_.out HIL2.out HT.out HO.out H.out).mono ?_);rintro e_ wn ⟨rfl,h⟩;have d0:=h.p2.rawCell 0;have d1:=h.p2.rawCell 1;have d2:=h.p2.rawCell 2;have d3:=h.p2.rawCell 3;have d4:=h.p2.rawCell 4;have dv:=h.p1.rawCell 0;simp at d0 d1 d2 d3 d4 dv;replace H:=Lib.hid h;clear h)
  |(go_at_call 96;(with_reducible refine(blob_putFixedT b o o1 nl d H1.out HRI.out HFI.out HIL.out HL.out H.out).mono ?_);rintro e_ wn ⟨rfl,h⟩;have d0:=h.p2.rawCell 0;have d1:=h.p2.rawCell 1;have d2:=h.p2.rawCell 2;have d3:=h.p2.rawCell 3;have d4:=h.p2.rawCell 4;have dv:=h.p1.rawCell 0;simp at d0 d1 d2 d3 d4 dv;replace H:=Lib.hid h;clear h)
  |(go_at_call 50;(with_reducible refine(so_intV b o1 o2 tm 4 H2.out HFT.out HL1.out H.out).mono ?_);rintro e_ wn ⟨rfl,h⟩;have d0:=h.p2.rawCell 0;have d1:=h.p2.rawCell 1;have d2:=h.p2.rawCell 2;have d3:=h.p2.rawCell 3;have d4:=h.p2.rawCell 4;have dv:=h.p1.rawCell 0;simp at d0 d1 d2 d3 d4 dv;replace H:=Lib.hid h;clear h))
 go_end0;exact⟨rfl,H.out.p2.drop.p1.drop⟩

set_option maxHeartbeats 4000000 in
set_option maxRecDepth 100000 in
theorem beg_write_ok1 (b:Nat) (o o1 o2 o3 o4:Bs) (nl:Bool) (d:Bs) (tm p e:Int) (h1:o++encF 2 ⟨nl,d⟩=o1) (h2:o1++beBytes tm (4:Int).toNat=o2) (h3:o2++beBytes p (8:Int).toNat=o3) (h4:o3++beBytes e (2:Int).toNat=o4) (hk:begE 1 nl d tm p e=0) (hp:p<9223372036854775808) (hl:o.length≤1000000){W0 w:World}{K:Know}{L:List Res}(h:St W0 w K (.out b ⟨o,0⟩::L)):
  Calls Tryz.prog 98 #[.agg #[.bool nl,.string (bb d),.int .i64 tm,.int .i64 p,.int .i64 e],outPtr b,.int .i64 1] w fun en w'=>en=.returned (.tuple #[])∧St W0 w' K (.out b ⟨o4,0⟩::L):=by
 obtain⟨bB,hbB⟩:∃b,w.heap.size=b:=⟨_,rfl⟩;obtain⟨vB,hvB⟩:∃b,bB+1=b:=⟨_,rfl⟩;have g1:=(h.allocRaw #[.bool nl,.string (bb d),.int .i64 tm,.int .i64 p,.int .i64 e] 27).allocRaw #[.int .i64 1] 3;simp only[World.size_alloc,hbB,hvB]at g1;have H:=Lib.hid (show St W0 _ K (.out b ⟨o,0⟩::.raw vB #[.int .i64 1] 3::.raw bB #[.bool nl,.string (bb d),.int .i64 tm,.int .i64 p,.int .i64 e] 27::L)from g1.p2);clear g1;have hok:=begE_ok hk;obtain⟨hil,hri,hfi⟩:=idOk_len hok.1;have hrg:=was_rng hok.2.2;have HRI:=Lib.hid hri;have HFI:=Lib.hid hfi;have HIL:=Lib.hid hil;have H1:=Lib.hid h1;have H2:=Lib.hid h2;have HK_:=Lib.hid hk;have HIL2:=Lib.hid (show d.length≤140737488355328 by omega);have HFT:=Lib.hid (vfits4 tm (by omega));have hl1:o1.length=o.length+(d.length+2):=by rw[←h1,List.length_append];unfold encF;rw[List.length_append,beBytes_length];simp only;omega
 have hl2:o2.length=o1.length+4:=by rw[←h2,List.length_append,beBytes_length];rfl
 have HL:=Lib.hid (show o.length≤100000000000000 by omega);have HL1:=Lib.hid (show o1.length≤100000000000000 by omega);have HL2:=Lib.hid (show o2.length≤100000000 by omega);have HT:=Lib.hid (show((0:Int)==0)=true by rfl);have HO:=Lib.hid (show(if (0:Int)=0 then(⟨o,0⟩:OutS)else(⟨o,0⟩:OutS).fail 0)=⟨o,0⟩ by rfl);have H3:=Lib.hid h3;have H4:=Lib.hid h4;have HF8:=Lib.hid (vfits8 p (by omega));have HF2:=Lib.hid (vfits2 e (by omega));clear h h1 h2 hk hp hl hl1 hl2 hok hil hri hfi hrg h3 h4;go_enter Tryz.func98,Tryz.ntmps98
 go_wp2_with (first
  |(go_at_call 154;(with_reducible refine(may_beg b _ _ bB vB 1 nl d tm p e _ _ HK_.out HIL2.out HT.out HO.out H.out).mono ?_);rintro e_ wn ⟨rfl,h⟩;have d0:=h.p2.rawCell 0;have d1:=h.p2.rawCell 1;have d2:=h.p2.rawCell 2;have d3:=h.p2.rawCell 3;have d4:=h.p2.rawCell 4;have dv:=h.p1.rawCell 0;simp at d0 d1 d2 d3 d4 dv;replace H:=Lib.hid h;clear h)
  |(go_at_call 96;(with_reducible refine(blob_putFixedT b o o1 nl d H1.out HRI.out HFI.out HIL.out HL.out H.out).mono ?_);rintro e_ wn ⟨rfl,h⟩;have d0:=h.p2.rawCell 0;have d1:=h.p2.rawCell 1;have d2:=h.p2.rawCell 2;have d3:=h.p2.rawCell 3;have d4:=h.p2.rawCell 4;have dv:=h.p1.rawCell 0;simp at d0 d1 d2 d3 d4 dv;replace H:=Lib.hid h;clear h)
  |(go_at_call 50;(with_reducible refine(so_intV b o1 o2 tm 4 H2.out HFT.out HL1.out H.out).mono ?_);rintro e_ wn ⟨rfl,h⟩;have d0:=h.p2.rawCell 0;have d1:=h.p2.rawCell 1;have d2:=h.p2.rawCell 2;have d3:=h.p2.rawCell 3;have d4:=h.p2.rawCell 4;have dv:=h.p1.rawCell 0;simp at d0 d1 d2 d3 d4 dv;replace H:=Lib.hid h;clear h)
  |(go_at_call 157;(with_reducible refine(txn_putWriter b o2 o3 o4 p e H3.out H4.out HF8.out HF2.out HL2.out H.out).mono ?_);rintro e_ wn ⟨rfl,h⟩;have d0:=h.p2.rawCell 0;have d1:=h.p2.rawCell 1;have d2:=h.p2.rawCell 2;have d3:=h.p2.rawCell 3;have d4:=h.p2.rawCell 4;have dv:=h.p1.rawCell 0;simp at d0 d1 d2 d3 d4 dv;replace H:=Lib.hid h;clear h))
 go_end0;exact⟨rfl,H.out.p2.drop.p1.drop⟩

set_option maxHeartbeats 4000000 in
set_option maxRecDepth 100000 in
theorem add_write_ok (b:Nat) (o o1 o2 o3 o4:Bs) (d:Bs) (p e:Int) (l:List (TopS×Value)) (q:Option Addr) (cap:Nat) (h1:o++encF 2 ⟨false,d⟩=o1) (h2:o1++beBytes p (8:Int).toNat=o2) (h3:o2++beBytes e (2:Int).toNat=o3) (h4:o3++encTs (l.map (·.1))=o4) (hk0:addE d p e (l.map (·.1))=0) (hp:p<9223372036854775808) (hl:o.length≤100000) (hf:FewT l) (hfit:FitTs (l.map (·.1))){W0 w:World}{K:Know}{L:List Res}(hk:K.has (Know.tops (.slice q l.length cap) l)) (h:St W0 w K (.out b ⟨o,0⟩::L)):
  Calls Tryz.prog 99 #[.agg #[.string (bb d),.int .i64 p,.int .i64 e,.slice q l.length cap],outPtr b] w fun en w'=>en=.returned (.tuple #[])∧St W0 w' K (.out b ⟨o4,0⟩::L):=by
 have hok:=addE_ok hk0;have hcw:=chkW_ok hok.1;have hw:=who_t hcw.2;have hil:=((keyRight_iff d).1 hcw.1).2;have H:=Lib.hid (h.allocRaw #[.string (bb d),.int .i64 p,.int .i64 e,.slice q l.length cap] 30);have H1:=Lib.hid h1;have H2:=Lib.hid h2;have H3:=Lib.hid h3;have H4:=Lib.hid h4;have HK0:=Lib.hid hk0;have HK:=Lib.hid hk;have HF:=Lib.hid hf;have HFIT:=Lib.hid hfit;have HIL:=Lib.hid hil;have HIL2:=Lib.hid (show d.length≤140737488355328 by omega);have HF8:=Lib.hid (vfits8 p (by omega));have HF2:=Lib.hid (vfits2 e (by omega));have hl1:o1.length=o.length+(d.length+2):=by rw[←h1,List.length_append];unfold encF;rw[List.length_append,beBytes_length];simp only;omega
 have hl2:o2.length=o1.length+8:=by rw[←h2,List.length_append,beBytes_length];rfl
 have hl3:o3.length=o2.length+2:=by rw[←h3,List.length_append,beBytes_length];rfl
 have HL:=Lib.hid (show o.length≤100000000000000 by omega);have HL1:=Lib.hid (show o1.length≤100000000 by omega);have HL3:=Lib.hid (show o3.length≤1000000 by omega);have HT:=Lib.hid (show((0:Int)==0)=true by rfl);have HO:=Lib.hid (show(if (0:Int)=0 then(⟨o,0⟩:OutS)else(⟨o,0⟩:OutS).fail 0)=⟨o,0⟩ by rfl);clear h h1 h2 h3 h4 hk0 hk hf hfit hil hp hl hl1 hl2 hl3 hw hok hcw;go_enter Tryz.func99,Tryz.ntmps99
 go_wp2_with (first
  |(go_at_call 154;(with_reducible refine(may_add b _ _ d p e l q cap _ _ HK0.out HIL2.out HF.out HT.out HO.out HK.out H.out.p1).mono ?_);rintro e_ wn ⟨rfl,h⟩;have d0:=h.p1.rawCell 0;have d1:=h.p1.rawCell 1;have d2:=h.p1.rawCell 2;have d3:=h.p1.rawCell 3;simp at d0 d1 d2 d3;replace H:=Lib.hid h;clear h)
  |(go_at_call 89;(with_reducible refine(blob_putTextV b o o1 d H1.out HIL.out HL.out H.out).mono ?_);rintro e_ wn ⟨rfl,h⟩;have d0:=h.p1.rawCell 0;have d1:=h.p1.rawCell 1;have d2:=h.p1.rawCell 2;have d3:=h.p1.rawCell 3;simp at d0 d1 d2 d3;replace H:=Lib.hid h;clear h)
  |(go_at_call 157;(with_reducible refine(txn_putWriter b o1 o2 o3 p e H2.out H3.out HF8.out HF2.out HL1.out H.out).mono ?_);rintro e_ wn ⟨rfl,h⟩;have d0:=h.p1.rawCell 0;have d1:=h.p1.rawCell 1;have d2:=h.p1.rawCell 2;have d3:=h.p1.rawCell 3;simp at d0 d1 d2 d3;replace H:=Lib.hid h;clear h)
  |(go_at_call 92;(with_reducible refine(val_putTopics b o3 o4 l q cap H4.out HL3.out HFIT.out HK.out H.out).mono ?_);rintro e_ wn ⟨rfl,h⟩;have d0:=h.p1.rawCell 0;have d1:=h.p1.rawCell 1;have d2:=h.p1.rawCell 2;have d3:=h.p1.rawCell 3;simp at d0 d1 d2 d3;replace H:=Lib.hid h;clear h))
 go_end0;exact⟨rfl,H.out.p1.drop⟩
set_option maxHeartbeats 6000000 in
set_option maxRecDepth 100000 in
theorem mark_write_okL (b:Nat) (o o2:Bs) (v:Int) (l:List MarkR) (q:Option Addr) (cap:Nat) (he:o++encMs v (l.map MarkR.m)=o2) (hE:marksErr v (l.map MarkR.m)=0) (hf:∀x∈l,x.Fit) (hfit:∀x∈l,FitTs x.m.tops∧(encM v x.m).length≤2000) (hn:l.length≤200) (hol:o.length≤100000){W0 w:World}{K:Know}{L:List Res}(hk:K.has (Know.marks (.slice q l.length cap) l)) (h:St W0 w K (.out b ⟨o,0⟩::L)):
  Calls Tryz.prog 101 #[outPtr b,.slice q l.length cap,.int .i64 v] w fun en w'=>en=.returned (.tuple #[])∧St W0 w' K (.out b ⟨o2,0⟩::L):=by
 have H:=Lib.hid h;have HK:=Lib.hid hk;have HF:=Lib.hid hf;have HFIT:=Lib.hid hfit;have HE:=Lib.hid he;have HOL:=Lib.hid hol;have HN:=Lib.hid (show l.length≤1000000 by omega);have HCK:=Lib.hid hE;have HALL:=Lib.hid (marksErr_ok hE).2;have hni:(l.length:Int)≤200:=by omega
 have hle:=preM_leL v (l.map MarkR.m);obtain⟨A,hA⟩:∃A,o++preM v (l.map MarkR.m) 0=A:=⟨_,rfl⟩;have HA:=Lib.hid (show o++beBytes (l.length:Int) (4:Int).toNat=A by rw[←hA,preM_zero,List.length_map]);have HFL:=Lib.hid (vfits4 (l.length:Int) (by omega));have HR0:=Lib.hid (show o.length≤100000000000000 by omega)
 have HLE:=Lib.hid (fun k hk=>preM_leL v (l.map MarkR.m) k hk (by rw[List.length_map];exact hn) (fun m hm=>by
  obtain⟨x,hx,rfl⟩:=List.mem_map.1 hm
  exact(hfit x hx).2))
 clear h hk hf hfit he hn hE hol hle;go_enter Tryz.func101,Tryz.ntmps101
 go_wp2_with (first
  |(go_at_call 161;(with_reducible refine(marks_check v l q cap _ HCK.out HF.out HN.out HK.out H.out).mono ?_);rintro e_ wn ⟨rfl,h⟩;replace H:=Lib.hid h;clear h)
  |(go_at_call 50;(with_reducible refine(so_intV b _ _ _ 4 HA.out HFL.out HR0.out H.out).mono ?_);rintro e_ wn ⟨rfl,h⟩;replace H:=Lib.hid h;clear h))
 go_loopw [23] (fun iv wr=>∃k:Nat,k≤l.length∧iv=.int .i64 k∧St W0 wr K (.out b ⟨o++preM v (l.map MarkR.m) k,0⟩::L)) (fun iv _=>l.length - (intOf iv).toNat)
 case atStart=>exact⟨0,Nat.zero_le _,rfl,by rw[hA];exact H.out⟩
 case round=>
  obtain⟨k,hkl,rfl,hst⟩:=hrel;clear H hA;have H:=Lib.hid hst;clear hst
  by_cases hlt:k<l.length
  · as_aux_lemma=>
    obtain⟨b0,off,hqq⟩:=marks_at HK.out H.out (by omega);subst hqq;obtain⟨x,hx⟩:∃x,l[k]=x:=⟨_,rfl⟩;have hmem:x∈l:=hx ▸ List.getElem_mem hlt;have hxk:=marks_tops HK.out hmem;have hcell:=marks_cell HK.out H.out k hlt x hx;have hmk:k<(l.map MarkR.m).length:=by rw[List.length_map];exact hlt
    have hmg:(l.map MarkR.m)[k]=x.m:=by rw[List.getElem_map,hx]
    obtain⟨hxl,hxf,hxr⟩:=HF.out x hmem;obtain⟨⟨p,e,c,tl,co⟩,xl,xq,xcap⟩:=x;obtain⟨c0,c1,c2,c3,c4⟩:wr.cell? ⟨b0,off+k*5,none⟩=some (.int .i64 p)∧wr.cell? ⟨b0,off+k*5+1,none⟩=some (.int .i64 e)∧wr.cell? ⟨b0,off+k*5+2,none⟩=some (.bool c)∧wr.cell? ⟨b0,off+k*5+3,none⟩=some (.slice xq xl.length xcap)∧wr.cell? ⟨b0,off+k*5+4,none⟩=some (.int .i64 co):=hcell;have HXK:=Lib.hid (show K.has (Know.tops (.slice xq xl.length xcap) xl)from hxk);have HXL:=Lib.hid (show xl.map (·.1)=tl from hxl);have HXF:=Lib.hid (show FewT xl from hxf);have hkn:(k:Int)<(l.length:Int):=by omega
    have hft:=(HFIT.out _ hmem).1;have her:=HALL.out (⟨p,e,c,tl,co⟩:MarkS) (by have hz:=List.getElem_mem hmk;rw[hmg]at hz;exact hz);obtain⟨hw,hco,_,_⟩:=mErr_ok (show mErr v p e tl co=0 from her);have hwt:=who_t hw;have HF8:=Lib.hid (vfits8 p (by have:=hxr.1.2;simp only at this;omega));have HF2:=Lib.hid (vfits2 e (by omega));have HF4:=Lib.hid (vfits4 co (by omega));have HFT:=Lib.hid (show FitTs (xl.map fun y=>y.1) by rw[show(xl.map fun y=>y.1)=tl from hxl];exact hft);have hst1:=preM_step v (l.map MarkR.m) k hmk _ hmg;have hle1:=HLE.out (k+1) hmk;have hol:=HOL.out;obtain⟨B0,hB0⟩:∃B,o++preM v (l.map MarkR.m) k=B:=⟨_,rfl⟩;obtain⟨B1,hB1⟩:∃B,B0++beBytes p (8:Int).toNat=B:=⟨_,rfl⟩;obtain⟨B2,hB2⟩:∃B,B1++beBytes e (2:Int).toNat=B:=⟨_,rfl⟩;obtain⟨B3,hB3⟩:∃B,B2++encO c=B:=⟨_,rfl⟩;obtain⟨B4,hB4⟩:∃B,B3++encTs tl=B:=⟨_,rfl⟩;obtain⟨B5,hB5⟩:∃B,B4++beBytes co (4:Int).toNat=B:=⟨_,rfl⟩
    have hB6:o++preM v (l.map MarkR.m) (k+1)=B4++(if v=1 then beBytes co (4:Int).toNat else[]):=by
      rw[hst1,←hB4,←hB3,←hB2,←hB1,←hB0];unfold encM;simp only[List.append_assoc]
    have hlen:B4.length≤1000000:=by
      have h6:=congrArg List.length hB6;rw[List.length_append,List.length_append]at h6
      omega
    have hl0:B0.length≤100000000000000∧B1.length≤100000000000000∧B2.length≤100000000000000∧B3.length≤1000000∧B4.length≤100000000000000:=by
      have e4:=congrArg List.length hB4;have e3:=congrArg List.length hB3;have e2:=congrArg List.length hB2;have e1:=congrArg List.length hB1;rw[List.length_append]at e1 e2 e3 e4
      omega
    obtain⟨tb,htb⟩:∃b,wr.heap.size=b:=⟨_,rfl⟩;have h:=(H.out.allocRaw #[.int .i64 p,.int .i64 e,.bool c,.slice xq xl.length xcap,.int .i64 co] 175).p1;rw[htb]at h;have d0:=h.p1.rawCell 0;have d1:=h.p1.rawCell 1;have d2:=h.p1.rawCell 2;have d3:=h.p1.rawCell 3;have d4:=h.p1.rawCell 4;simp at d0 d1 d2 d3 d4;rw[hB0]at h;have HB1:=Lib.hid hB1;have HB2:=Lib.hid hB2;have HB3:=Lib.hid hB3;have HB4:=Lib.hid (show B3++encTs (xl.map fun y=>y.1)=B4 by rw[show(xl.map fun y=>y.1)=tl from hxl];exact hB4);have HB5:=Lib.hid hB5;have HL0:=Lib.hid hl0;clear H;have H:=Lib.hid h;clear h hx hmem hxk hmk hmg hxl hxf hxr hft her hw hco hwt hst1 hle1 hol hB0 hB1 hB2 hB3 hB4 hlen hl0
    by_cases hv:v=1
    · subst hv;rw[if_pos rfl,hB5]at hB6;have HB6:=Lib.hid hB6;clear hB5 hB6
      go_wp2_with (first
  |(go_at_call 50;(with_reducible refine(so_intV b B0 B1 p 8 HB1.out HF8.out HL0.out.1 H.out).mono ?_);rintro e_ wn ⟨rfl,h⟩;have d0:=h.p1.rawCell 0;have d1:=h.p1.rawCell 1;have d2:=h.p1.rawCell 2;have d3:=h.p1.rawCell 3;have d4:=h.p1.rawCell 4;simp at d0 d1 d2 d3 d4;replace H:=Lib.hid h;clear h)
  |(go_at_call 50;(with_reducible refine(so_intV b B1 B2 e 2 HB2.out HF2.out HL0.out.2.1 H.out).mono ?_);rintro e_ wn ⟨rfl,h⟩;have d0:=h.p1.rawCell 0;have d1:=h.p1.rawCell 1;have d2:=h.p1.rawCell 2;have d3:=h.p1.rawCell 3;have d4:=h.p1.rawCell 4;simp at d0 d1 d2 d3 d4;replace H:=Lib.hid h;clear h)
  |(go_at_call 160;(with_reducible refine(txn_putBool b B2 B3 c HB3.out HL0.out.2.2.1 H.out).mono ?_);rintro e_ wn ⟨rfl,h⟩;have d0:=h.p1.rawCell 0;have d1:=h.p1.rawCell 1;have d2:=h.p1.rawCell 2;have d3:=h.p1.rawCell 3;have d4:=h.p1.rawCell 4;simp at d0 d1 d2 d3 d4;replace H:=Lib.hid h;clear h)
  |(go_at_call 92;(with_reducible refine(val_putTopics b B3 B4 xl xq xcap HB4.out HL0.out.2.2.2.1 HFT.out HXK.out H.out).mono ?_);rintro e_ wn ⟨rfl,h⟩;have d0:=h.p1.rawCell 0;have d1:=h.p1.rawCell 1;have d2:=h.p1.rawCell 2;have d3:=h.p1.rawCell 3;have d4:=h.p1.rawCell 4;simp at d0 d1 d2 d3 d4;replace H:=Lib.hid h;clear h)
  |(go_at_call 50;(with_reducible refine(so_intV b B4 B5 co 4 HB5.out HF4.out HL0.out.2.2.2.2 H.out).mono ?_);rintro e_ wn ⟨rfl,h⟩;have d0:=h.p1.rawCell 0;have d1:=h.p1.rawCell 1;have d2:=h.p1.rawCell 2;have d3:=h.p1.rawCell 3;have d4:=h.p1.rawCell 4;simp at d0 d1 d2 d3 d4;replace H:=Lib.hid h;clear h))
      go_roundw
      case rel=>exact⟨k+1,hlt,by go_num,by rw[HB6.out];exact H.out.p1.drop⟩
      case measure=>first|(simp[intOf];done)|(simp[intOf];omega)
    · rw[if_neg hv,List.append_nil]at hB6;have HB6:=Lib.hid hB6;have gv:(v==1)=false:=by rw[beq_eq_false_iff_ne];exact hv
      clear hB5 hB6 hv
      go_wp2_with (first
  |(go_at_call 50;(with_reducible refine(so_intV b B0 B1 p 8 HB1.out HF8.out HL0.out.1 H.out).mono ?_);rintro e_ wn ⟨rfl,h⟩;have d0:=h.p1.rawCell 0;have d1:=h.p1.rawCell 1;have d2:=h.p1.rawCell 2;have d3:=h.p1.rawCell 3;have d4:=h.p1.rawCell 4;simp at d0 d1 d2 d3 d4;replace H:=Lib.hid h;clear h)
  |(go_at_call 50;(with_reducible refine(so_intV b B1 B2 e 2 HB2.out HF2.out HL0.out.2.1 H.out).mono ?_);rintro e_ wn ⟨rfl,h⟩;have d0:=h.p1.rawCell 0;have d1:=h.p1.rawCell 1;have d2:=h.p1.rawCell 2;have d3:=h.p1.rawCell 3;have d4:=h.p1.rawCell 4;simp at d0 d1 d2 d3 d4;replace H:=Lib.hid h;clear h)
  |(go_at_call 160;(with_reducible refine(txn_putBool b B2 B3 c HB3.out HL0.out.2.2.1 H.out).mono ?_);rintro e_ wn ⟨rfl,h⟩;have d0:=h.p1.rawCell 0;have d1:=h.p1.rawCell 1;have d2:=h.p1.rawCell 2;have d3:=h.p1.rawCell 3;have d4:=h.p1.rawCell 4;simp at d0 d1 d2 d3 d4;replace H:=Lib.hid h;clear h)
  |(go_at_call 92;(with_reducible refine(val_putTopics b B3 B4 xl xq xcap HB4.out HL0.out.2.2.2.1 HFT.out HXK.out H.out).mono ?_);rintro e_ wn ⟨rfl,h⟩;have d0:=h.p1.rawCell 0;have d1:=h.p1.rawCell 1;have d2:=h.p1.rawCell 2;have d3:=h.p1.rawCell 3;have d4:=h.p1.rawCell 4;simp at d0 d1 d2 d3 d4;replace H:=Lib.hid h;clear h))
      go_roundw
      case rel=>exact⟨k+1,hlt,by go_num,by rw[HB6.out];exact H.out.p1.drop⟩
      case measure=>first|(simp[intOf];done)|(simp[intOf];omega)
  · obtain rfl:k=l.length:=by omega
    have h:=H.out;rw[show preM v (l.map MarkR.m) l.length=encMs v (l.map MarkR.m) by rw[←preM_all,List.length_map],HE.out]at h;clear H;have H:=Lib.hid h;clear h;go_wp2;go_end0;exact⟨rfl,H.out⟩
set_option maxHeartbeats 2000000 in
set_option maxRecDepth 100000 in
theorem wb_beg (po:Nat) (o o2:Bs) (v num:Int) (u:Bool) (cs:Bs) (nl:Bool) (d:Bs) (tm p e:Int){W0 w:World}{K:Know}{L:List Res}(hw:∀(w:World) (L:List Res),St W0 w K (.out po ⟨o,0⟩::L)→Calls Tryz.prog 98 #[.agg #[.bool nl,.string (bb d),.int .i64 tm,.int .i64 p,.int .i64 e],outPtr po,.int .i64 v] w fun en w'=>en=.returned (.tuple #[])∧St W0 w' K (.out po ⟨o2,0⟩::L)) (h:St W0 w K (.out po ⟨o,0⟩::L)):
  Calls Tryz.prog 48 #[outPtr po,.agg #[.int .i64 22,.int .i64 v,.int .i64 num,.bool u,.string (bb cs),.bool nl,.string (bb d),.int .i64 tm,.int .i64 p,.int .i64 e,.string ⟨#[]⟩,.int .i64 0,.int .i64 0,.slice none 0 0,.string ⟨#[]⟩,.int .i64 0,.int .i64 0,.bool false,.slice none 0 0,.bool false,.string ⟨#[]⟩,.int .i64 0,.int .i64 0,.slice none 0 0]] w fun en w'=>en=.returned (.tuple #[])∧St W0 w' K (.out po ⟨o2,0⟩::L):=by
 obtain⟨rb,hrb⟩:∃b,w.heap.size=b:=⟨_,rfl⟩;have g1:=(h.allocRaw #[.int .i64 22,.int .i64 v,.int .i64 num,.bool u,.string (bb cs),.bool nl,.string (bb d),.int .i64 tm,.int .i64 p,.int .i64 e,.string ⟨#[]⟩,.int .i64 0,.int .i64 0,.slice none 0 0,.string ⟨#[]⟩,.int .i64 0,.int .i64 0,.bool false,.slice none 0 0,.bool false,.string ⟨#[]⟩,.int .i64 0,.int .i64 0,.slice none 0 0] 38).p1;rw[hrb]at g1;have z0:=g1.p1.rawCell 0;have z1:=g1.p1.rawCell 1;have z5:=g1.p1.rawCell 5;have z6:=g1.p1.rawCell 6;have z7:=g1.p1.rawCell 7;have z8:=g1.p1.rawCell 8;have z9:=g1.p1.rawCell 9;simp at z0 z1 z5 z6 z7 z8 z9;have H:=Lib.hid g1;have HW:=Lib.hid hw;clear h g1 hw;go_enter Tryz.func48,Tryz.ntmps48;go_wp2_with (go_at_call 98;(with_reducible refine(HW.out _ _ H.out).mono ?_);rintro e_ wn ⟨rfl,h⟩;replace H:=Lib.hid h;clear h);go_end0;exact⟨rfl,H.out.p1.drop⟩
set_option maxHeartbeats 2000000 in
set_option maxRecDepth 100000 in
theorem wb_add (po:Nat) (o o2:Bs) (num:Int) (u:Bool) (cs:Bs) (d:Bs) (p e:Int) (q:Option Addr) (n cap:Nat){W0 w:World}{K:Know}{L:List Res}(hw:∀(w:World) (L:List Res),St W0 w K (.out po ⟨o,0⟩::L)→Calls Tryz.prog 99 #[.agg #[.string (bb d),.int .i64 p,.int .i64 e,.slice q n cap],outPtr po] w fun en w'=>en=.returned (.tuple #[])∧St W0 w' K (.out po ⟨o2,0⟩::L)) (h:St W0 w K (.out po ⟨o,0⟩::L)):
  Calls Tryz.prog 48 #[outPtr po,.agg #[.int .i64 24,.int .i64 0,.int .i64 num,.bool u,.string (bb cs),.bool false,.string ⟨#[]⟩,.int .i64 0,.int .i64 0,.int .i64 0,.string (bb d),.int .i64 p,.int .i64 e,.slice q n cap,.string ⟨#[]⟩,.int .i64 0,.int .i64 0,.bool false,.slice none 0 0,.bool false,.string ⟨#[]⟩,.int .i64 0,.int .i64 0,.slice none 0 0]] w fun en w'=>en=.returned (.tuple #[])∧St W0 w' K (.out po ⟨o2,0⟩::L):=by
 obtain⟨rb,hrb⟩:∃b,w.heap.size=b:=⟨_,rfl⟩;have g1:=(h.allocRaw #[.int .i64 24,.int .i64 0,.int .i64 num,.bool u,.string (bb cs),.bool false,.string ⟨#[]⟩,.int .i64 0,.int .i64 0,.int .i64 0,.string (bb d),.int .i64 p,.int .i64 e,.slice q n cap,.string ⟨#[]⟩,.int .i64 0,.int .i64 0,.bool false,.slice none 0 0,.bool false,.string ⟨#[]⟩,.int .i64 0,.int .i64 0,.slice none 0 0] 38).p1;rw[hrb]at g1;have z0:=g1.p1.rawCell 0;have z10:=g1.p1.rawCell 10;have z11:=g1.p1.rawCell 11;have z12:=g1.p1.rawCell 12;have z13:=g1.p1.rawCell 13;simp at z0 z10 z11 z12 z13;have H:=Lib.hid g1;have HW:=Lib.hid hw;clear h g1 hw;go_enter Tryz.func48,Tryz.ntmps48;go_wp2_with (go_at_call 99;(with_reducible refine(HW.out _ _ H.out).mono ?_);rintro e_ wn ⟨rfl,h⟩;replace H:=Lib.hid h;clear h);go_end0;exact⟨rfl,H.out.p1.drop⟩
set_option maxHeartbeats 2000000 in
set_option maxRecDepth 100000 in
theorem wb_end (po:Nat) (o o2:Bs) (num:Int) (u:Bool) (cs:Bs) (d:Bs) (p e:Int) (c:Bool){W0 w:World}{K:Know}{L:List Res}(hw:∀(w:World) (L:List Res),St W0 w K (.out po ⟨o,0⟩::L)→Calls Tryz.prog 100 #[.agg #[.string (bb d),.int .i64 p,.int .i64 e,.bool c],outPtr po] w fun en w'=>en=.returned (.tuple #[])∧St W0 w' K (.out po ⟨o2,0⟩::L)) (h:St W0 w K (.out po ⟨o,0⟩::L)):
  Calls Tryz.prog 48 #[outPtr po,.agg #[.int .i64 26,.int .i64 0,.int .i64 num,.bool u,.string (bb cs),.bool false,.string ⟨#[]⟩,.int .i64 0,.int .i64 0,.int .i64 0,.string ⟨#[]⟩,.int .i64 0,.int .i64 0,.slice none 0 0,.string (bb d),.int .i64 p,.int .i64 e,.bool c,.slice none 0 0,.bool false,.string ⟨#[]⟩,.int .i64 0,.int .i64 0,.slice none 0 0]] w fun en w'=>en=.returned (.tuple #[])∧St W0 w' K (.out po ⟨o2,0⟩::L):=by
 obtain⟨rb,hrb⟩:∃b,w.heap.size=b:=⟨_,rfl⟩;have g1:=(h.allocRaw #[.int .i64 26,.int .i64 0,.int .i64 num,.bool u,.string (bb cs),.bool false,.string ⟨#[]⟩,.int .i64 0,.int .i64 0,.int .i64 0,.string ⟨#[]⟩,.int .i64 0,.int .i64 0,.slice none 0 0,.string (bb d),.int .i64 p,.int .i64 e,.bool c,.slice none 0 0,.bool false,.string ⟨#[]⟩,.int .i64 0,.int .i64 0,.slice none 0 0] 38).p1;rw[hrb]at g1;have z0:=g1.p1.rawCell 0;have z14:=g1.p1.rawCell 14;have z15:=g1.p1.rawCell 15;have z16:=g1.p1.rawCell 16;have z17:=g1.p1.rawCell 17;simp at z0 z14 z15 z16 z17;have H:=Lib.hid g1;have HW:=Lib.hid hw;clear h g1 hw;go_enter Tryz.func48,Tryz.ntmps48;go_wp2_with (go_at_call 100;(with_reducible refine(HW.out _ _ H.out).mono ?_);rintro e_ wn ⟨rfl,h⟩;replace H:=Lib.hid h;clear h);go_end0;exact⟨rfl,H.out.p1.drop⟩
set_option maxHeartbeats 2000000 in
set_option maxRecDepth 100000 in
theorem wb_mrk (po:Nat) (o o2:Bs) (v num:Int) (u:Bool) (cs:Bs) (q:Option Addr) (n cap:Nat){W0 w:World}{K:Know}{L:List Res}(hw:∀(w:World) (L:List Res),St W0 w K (.out po ⟨o,0⟩::L)→Calls Tryz.prog 101 #[outPtr po,.slice q n cap,.int .i64 v] w fun en w'=>en=.returned (.tuple #[])∧St W0 w' K (.out po ⟨o2,0⟩::L)) (h:St W0 w K (.out po ⟨o,0⟩::L)):
  Calls Tryz.prog 48 #[outPtr po,.agg #[.int .i64 27,.int .i64 v,.int .i64 num,.bool u,.string (bb cs),.bool false,.string ⟨#[]⟩,.int .i64 0,.int .i64 0,.int .i64 0,.string ⟨#[]⟩,.int .i64 0,.int .i64 0,.slice none 0 0,.string ⟨#[]⟩,.int .i64 0,.int .i64 0,.bool false,.slice q n cap,.bool false,.string ⟨#[]⟩,.int .i64 0,.int .i64 0,.slice none 0 0]] w fun en w'=>en=.returned (.tuple #[])∧St W0 w' K (.out po ⟨o2,0⟩::L):=by
 obtain⟨rb,hrb⟩:∃b,w.heap.size=b:=⟨_,rfl⟩;have g1:=(h.allocRaw #[.int .i64 27,.int .i64 v,.int .i64 num,.bool u,.string (bb cs),.bool false,.string ⟨#[]⟩,.int .i64 0,.int .i64 0,.int .i64 0,.string ⟨#[]⟩,.int .i64 0,.int .i64 0,.slice none 0 0,.string ⟨#[]⟩,.int .i64 0,.int .i64 0,.bool false,.slice q n cap,.bool false,.string ⟨#[]⟩,.int .i64 0,.int .i64 0,.slice none 0 0] 38).p1;rw[hrb]at g1;have z0:=g1.p1.rawCell 0;have z1:=g1.p1.rawCell 1;have z18:=g1.p1.rawCell 18;simp at z0 z1 z18;have H:=Lib.hid g1;have HW:=Lib.hid hw;clear h g1 hw;go_enter Tryz.func48,Tryz.ntmps48;go_wp2_with (go_at_call 101;(with_reducible refine(HW.out _ _ H.out).mono ?_);rintro e_ wn ⟨rfl,h⟩;replace H:=Lib.hid h;clear h);go_end0;exact⟨rfl,H.out.p1.drop⟩
set_option maxHeartbeats 2000000 in
set_option maxRecDepth 100000 in
theorem wb_prd (po:Nat) (o o2:Bs) (v num:Int) (u:Bool) (cs:Bs) (nl:Bool) (d:Bs) (ac tm:Int) (q:Option Addr) (n cap:Nat){W0 w:World}{K:Know}{L:List Res}(hw:∀(w:World) (L:List Res),St W0 w K (.out po ⟨o,0⟩::L)→Calls Tryz.prog 97 #[.agg #[.bool nl,.string (bb d),.int .i64 ac,.int .i64 tm,.slice q n cap],outPtr po,.int .i64 v] w fun en w'=>en=.returned (.tuple #[])∧St W0 w' K (.out po ⟨o2,0⟩::L)) (h:St W0 w K (.out po ⟨o,0⟩::L)):
  Calls Tryz.prog 48 #[outPtr po,.agg #[.int .i64 0,.int .i64 v,.int .i64 num,.bool u,.string (bb cs),.bool false,.string ⟨#[]⟩,.int .i64 0,.int .i64 0,.int .i64 0,.string ⟨#[]⟩,.int .i64 0,.int .i64 0,.slice none 0 0,.string ⟨#[]⟩,.int .i64 0,.int .i64 0,.bool false,.slice none 0 0,.bool nl,.string (bb d),.int .i64 ac,.int .i64 tm,.slice q n cap]] w fun en w'=>en=.returned (.tuple #[])∧St W0 w' K (.out po ⟨o2,0⟩::L):=by
 obtain⟨rb,hrb⟩:∃b,w.heap.size=b:=⟨_,rfl⟩;have g1:=(h.allocRaw #[.int .i64 0,.int .i64 v,.int .i64 num,.bool u,.string (bb cs),.bool false,.string ⟨#[]⟩,.int .i64 0,.int .i64 0,.int .i64 0,.string ⟨#[]⟩,.int .i64 0,.int .i64 0,.slice none 0 0,.string ⟨#[]⟩,.int .i64 0,.int .i64 0,.bool false,.slice none 0 0,.bool nl,.string (bb d),.int .i64 ac,.int .i64 tm,.slice q n cap] 38).p1;rw[hrb]at g1;have z0:=g1.p1.rawCell 0;have z1:=g1.p1.rawCell 1;have z19:=g1.p1.rawCell 19;have z20:=g1.p1.rawCell 20;have z21:=g1.p1.rawCell 21;have z22:=g1.p1.rawCell 22;have z23:=g1.p1.rawCell 23;simp at z0 z1 z19 z20 z21 z22 z23;have H:=Lib.hid g1;have HW:=Lib.hid hw;clear h g1 hw;go_enter Tryz.func48,Tryz.ntmps48;go_wp2_with (go_at_call 97;(with_reducible refine(HW.out _ _ H.out).mono ?_);rintro e_ wn ⟨rfl,h⟩;replace H:=Lib.hid h;clear h);go_end0;exact⟨rfl,H.out.p1.drop⟩
def setF:Array Value→Nat→List Value→Array Value
  |c,_,[]=>c
  |c,o,v::r=>setF (c.setIfInBounds o v) (o+1) r
theorem St.setFrom {W0:World}{K:Know}{L:List Res}{b:Nat}{T:TypeId}:∀(cs:List Value) (o:Nat) (c:Array Value) (w:World),St W0 w K (.raw b c T::L)→St W0 (w.setCells b o cs) K (.raw b (setF c o cs) T::L)
  |[],_,_,_,h=>h
  |v::r,o,c,w,h=>St.setFrom r (o+1) _ _ (h.rawSet o v)
theorem setF_list:∀(cs:List Value) (o:Nat) (c:Array Value),o+cs.length≤c.size→(setF c o cs).toList=c.toList.take o++cs++c.toList.drop (o+cs.length)
  |[],o,c,h=>by
    unfold setF;rw[List.append_nil,List.length_nil,Nat.add_zero,List.take_append_drop]
  |v::r,o,c,h=>by
    rw[List.length_cons]at h;have e:=setF_list r (o+1) (c.setIfInBounds o v) (by rw[Array.size_setIfInBounds];omega);unfold setF;rw[e,Array.toList_setIfInBounds,List.length_cons];have hl:o<c.toList.length:=by rw[Array.length_toList];omega
    have e1:(c.toList.set o v).take (o+1)=c.toList.take o++[v]:=by
      rw[List.take_succ_eq_append_getElem (by rw[List.length_set];exact hl),List.getElem_set_self,List.take_set_of_le (Nat.le_refl _)]
    have e2:(c.toList.set o v).drop (o+1+r.length)=c.toList.drop (o+(r.length+1)):=by
      rw[List.drop_set_of_lt (by omega)]
      congr 1
      omega
    rw[e1,e2]
    simp
theorem St.setAll {W0 w:World}{K:Know}{L:List Res}{b:Nat}{c:Array Value}{T:TypeId}(h:St W0 w K (.raw b c T::L)) (cs:List Value) (hl:cs.length=c.size):St W0 (w.setCells b 0 cs) K (.raw b cs.toArray T::L):=by
 have h2:=St.setFrom cs 0 c w h
 have e:setF c 0 cs=cs.toArray:=by
  apply Array.toList_inj.1
  rw[setF_list cs 0 c (by omega),List.take_zero,List.nil_append,Nat.zero_add,hl];rw[show c.size=c.toList.length from(Array.length_toList).symm,List.drop_length,List.append_nil]
 rwa [e]at h2
theorem St.there_raw {W0 w:World}{K:Know}{L:List Res}{b n:Nat}{c:Array Value}{T:TypeId}(h:St W0 w K (.raw b c T::L)) (hn:n=c.size):w.there b 0 n:=fun j hj=>by
  rw[hn]at hj;rw[Nat.zero_add];refine⟨?_,h.rawFree j⟩;rw[h.rawCell j,Array.getElem?_eq_getElem hj]
  rfl
theorem wpList_storeSt {P:Program}{ops:Array Oper}{rest:List Oper}{op:Oper}{a:Act}{w W0:World}{Q:Exit→Act→World→Prop}{K:Know}{L:List Res}{c:Array Value}{T:TypeId}(hgd:op.guard=none) (ty:TypeId) (x y:Operand) (ho:op.op=.store ty x y) (b:Nat) (cells:Array Value) (hx:a.eval x=.pointer (some ⟨b,0,none⟩)) (hy:a.eval y=.agg cells) (hst:St W0 w K (.raw b c T::L)) (hn:cells.size=c.size) (hi:(P.info? ty).map (·.size)=some cells.size) (h1:cells.all (fun z=>z.oneCell')=true) (h:∀w',St W0 w' K (.raw b cells T::L)→wpList P ops Q rest (a.put op.dst undef) w'):wpList P ops Q (op::rest) a w:=
 wpList_store_mid hgd ty x y ho b 0 cells hx hy (St.there_raw hst hn) hi h1 (h _ (by
  have:=hst.setAll cells.toList (by rw[Array.length_toList];exact hn)
  rwa [Array.toArray_toList]at this))
theorem raw5 {W0 w:World}{K:Know}{L:List Res}{b:Nat}{a0 a1 a2 a3 a4:Value}{T:TypeId}(h:St W0 w K (.raw b #[a0,a1,a2,a3,a4] T::L)):
  w.cell? ⟨b,0,none⟩=some a0∧w.cell? ⟨b,1,none⟩=some a1∧w.cell? ⟨b,2,none⟩=some a2∧w.cell? ⟨b,3,none⟩=some a3∧w.cell? ⟨b,4,none⟩=some a4∧w.frozen? ⟨b,0,none⟩=false∧w.frozen? ⟨b,1,none⟩=false∧w.frozen? ⟨b,2,none⟩=false∧w.frozen? ⟨b,3,none⟩=false∧w.frozen? ⟨b,4,none⟩=false:=
 ⟨(h.rawCell 0).trans rfl,(h.rawCell 1).trans rfl,(h.rawCell 2).trans rfl,(h.rawCell 3).trans rfl,(h.rawCell 4).trans rfl,h.rawFree 0,h.rawFree 1,h.rawFree 2,h.rawFree 3,h.rawFree 4⟩
inductive HeadWay (a v n:Int) (u:Bool) (d:Bs):Int→Prop where
  |vers:verErr a v≠0→HeadWay a v n u d (verErr a v)
  |range:verErr a v=0→¬fits n 4→HeadWay a v n u d 11
  |wrong:verErr a v=0→fits n 4→u=true→d≠[]→HeadWay a v n u d 4
  |long:verErr a v=0→fits n 4→u=false→32767<d.length→HeadWay a v n u d 4
  |right:verErr a v=0→fits n 4→(u=true→d=[])→d.length≤32767→HeadWay a v n u d 0
theorem headWay (a v n:Int) (u:Bool) (d:Bs):HeadWay a v n u d (headErr ⟨a,v,n,⟨u,d⟩⟩):=by
 unfold headErr BlobS.right;simp only
 by_cases h1:verErr a v=0
 · rw[if_neg (fun x=>x h1)]
   by_cases h2:fits n 4
   · rw[if_neg (fun x=>x h2)]
     cases u with
     |true=>
      cases d with
      |nil=>exact .right h1 h2 (fun _=>rfl) (by simp)
      |cons c t=>exact .wrong h1 h2 rfl (by simp)
     |false=>
      by_cases h3:32767<d.length
      · rw[if_pos (.inr h3)];exact .long h1 h2 rfl h3
      · rw[if_neg (by simp;omega)];exact .right h1 h2 (fun h=>by cases h) (by omega)
   · rw[if_pos h2];exact .range h1 h2
 · rw[if_pos h1];exact .vers h1
theorem blob_rightQ (u:Bool) (d:Bs) (r:Bool) (hr:(⟨u,d⟩:BlobS).right=r){W0 w:World}{K:Know}{L:List Res}(h:St W0 w K L):
  Calls Tryz.prog 149 #[.agg #[.bool u,.string (bb d)]] w fun en w'=>en=.returned (.bool r)∧St W0 w' K L:=by
 subst hr;exact blob_right ⟨u,d⟩ h
theorem fits_Q (n:Int) (r:Bool) (hr:decide (fits n 4)=r) (hn: -9223372036854775808≤n∧n<9223372036854775808){W0 w:World}{K:Know}{L:List Res}(h:St W0 w K L):
  Calls Tryz.prog 102 #[.int .i64 n,.int .i64 4] w fun en w'=>en=.returned (.bool r)∧St W0 w' K L:=by
 subst hr;exact so_fits n 4 hn h

theorem zq6 {p:Prop}(h:p:=by
  go_wp2_with (first
   |(go_at_call 116;(with_reducible refine(ver_check a v _ HQ.out HK.out H.out).mono ?_);rintro e wn ⟨rfl,h⟩;replace H:=Lib.hid h;clear h;obtain⟨x0,x1,x2,x3,x4,y0,y1,y2,y3,y4⟩:=raw5 (b:=hb) (H.out))
   |(go_at_call 102;(with_reducible refine(fits_Q n true HF.out HN.out H.out).mono ?_);rintro e wn ⟨rfl,h⟩;replace H:=Lib.hid h;clear h;obtain⟨x0,x1,x2,x3,x4,y0,y1,y2,y3,y4⟩:=raw5 (b:=hb) (H.out))
   |(go_at_call 149;(with_reducible refine(blob_rightQ u d _ HR.out H.out).mono ?_);rintro e wn ⟨rfl,h⟩;replace H:=Lib.hid h;clear h;obtain⟨x0,x1,x2,x3,x4,y0,y1,y2,y3,y4⟩:=raw5 (b:=hb) (H.out)))
  go_ret;exact⟨rfl,H.out.drop⟩):p:=h
set_option maxHeartbeats 1000000 in
set_option maxRecDepth 100000 in
theorem req_check (a v n:Int) (u:Bool) (d:Bs) (q:Int) (hq:headErr ⟨a,v,n,⟨u,d⟩⟩=q) (hn: -9223372036854775808≤n∧n<9223372036854775808){W0 w:World}{K:Know}{L:List Res}(hk:K.has Know.reqs) (h:St W0 w K L):
  Calls Tryz.prog 94 #[.agg #[.int .i64 a,.int .i64 v,.int .i64 n,.bool u,.string (bb d)]] w fun en w'=>en=.returned (.int .i64 q)∧St W0 w' K L:=by
 have h1:=h.allocRaw #[.int .i64 a,.int .i64 v,.int .i64 n,.bool u,.string (bb d)] 25;obtain⟨hb,hhb⟩:∃b,w.heap.size=b:=⟨_,rfl⟩;rw[hhb]at h1;have HN:=Lib.hid hn;have HK:=Lib.hid hk;obtain⟨x0,x1,x2,x3,x4,y0,y1,y2,y3,y4⟩:=raw5 (b:=hb) (h1);have H:=Lib.hid h1;clear h h1 hk hn;have hw:=headWay a v n u d;rw[hq]at hw;clear hq
 cases hw with
 |vers g=>
  obtain⟨q,hq⟩:∃q,verErr a v=q:=⟨_,rfl⟩;rw[hq]at g ⊢;have HQ:=Lib.hid hq;have gz:(q==0)=false:=by rw[beq_eq_false_iff_ne];exact g
  clear hq;go_enter Tryz.func94,Tryz.ntmps94
  go_wp2_with (first
   |(go_at_call 116;(with_reducible refine(ver_check a v _ HQ.out HK.out H.out).mono ?_);rintro e wn ⟨rfl,h⟩;replace H:=Lib.hid h;clear h;obtain⟨x0,x1,x2,x3,x4,y0,y1,y2,y3,y4⟩:=raw5 (b:=hb) (H.out)))
  go_ret;exact⟨rfl,H.out.drop⟩
 |range g1 g2=>
  have HQ:=Lib.hid g1;have HF:=Lib.hid (show decide (fits n 4)=false from decide_eq_false g2);clear g1 g2;go_enter Tryz.func94,Tryz.ntmps94
  go_wp2_with (first
   |(go_at_call 116;(with_reducible refine(ver_check a v _ HQ.out HK.out H.out).mono ?_);rintro e wn ⟨rfl,h⟩;replace H:=Lib.hid h;clear h;obtain⟨x0,x1,x2,x3,x4,y0,y1,y2,y3,y4⟩:=raw5 (b:=hb) (H.out))
   |(go_at_call 102;(with_reducible refine(fits_Q n false HF.out HN.out H.out).mono ?_);rintro e wn ⟨rfl,h⟩;replace H:=Lib.hid h;clear h;obtain⟨x0,x1,x2,x3,x4,y0,y1,y2,y3,y4⟩:=raw5 (b:=hb) (H.out)))
  go_ret;exact⟨rfl,H.out.drop⟩
 |wrong g1 g2 g3 g4=>
  have HQ:=Lib.hid g1;have HF:=Lib.hid (show decide (fits n 4)=true from decide_eq_true g2)
  have HR:=Lib.hid (show(⟨u,d⟩:BlobS).right=false by unfold BlobS.right;rw[g3];cases d with
   |nil=>exact absurd rfl g4
   |cons c t=>rfl)
  clear g1 g2 g3 g4;go_enter Tryz.func94,Tryz.ntmps94
  exact zq6
 |long g1 g2 g3 g4=>
  have HQ:=Lib.hid g1;have HF:=Lib.hid (show decide (fits n 4)=true from decide_eq_true g2);have HR:=Lib.hid (show(⟨u,d⟩:BlobS).right=true by unfold BlobS.right;rw[g3];rfl);have dl:decide ((32767:Int)<(d.length:Int))=true:=decide_eq_true (by omega);clear g1 g2 g3 g4;go_enter Tryz.func94,Tryz.ntmps94
  exact zq6
 |right g1 g2 g3 g4=>
  have HQ:=Lib.hid g1;have HF:=Lib.hid (show decide (fits n 4)=true from decide_eq_true g2)
  have HR:=Lib.hid (show(⟨u,d⟩:BlobS).right=true by unfold BlobS.right;cases u with
   |false=>rfl
   |true=>rw[g3 rfl];rfl)
  have dl:decide ((32767:Int)<(d.length:Int))=false:=decide_eq_false (by omega);clear g1 g2 g3 g4;go_enter Tryz.func94,Tryz.ntmps94
  exact zq6

theorem so_intQ (p:Nat) (o o2:OutS) (n size:Int) (hx:o.int n size=o2) (hn: -9223372036854775808≤n∧n<9223372036854775808) (hr:o.ok 8){W0 w:World}{K:Know}{L:List Res}(h:St W0 w K (.out p o::L)):
  Calls Tryz.prog 50 #[outPtr p,.int .i64 n,.int .i64 size] w fun en w'=>en=.returned (.tuple #[])∧St W0 w' K (.out p o2::L):=by
 subst hx;exact so_int p o n size hn h hr
theorem so_failQ (p:Nat) (o o2:OutS) (e:Int) (hx:o.fail e=o2){W0 w:World}{K:Know}{L:List Res}(h:St W0 w K (.out p o::L)):
  Calls Tryz.prog 95 #[outPtr p,.int .i64 e] w fun en w'=>en=.returned (.tuple #[])∧St W0 w' K (.out p o2::L):=by
 subst hx;exact so_fail p o e h
theorem blob_putFixedQ (p:Nat) (o o2:OutS) (u:Bool) (d:Bs) (hx:o.putFixed ⟨u,d⟩ 2=o2) (hr:o.ok (d.length+8)){W0 w:World}{K:Know}{L:List Res}(h:St W0 w K (.out p o::L)):
  Calls Tryz.prog 96 #[outPtr p,.agg #[.bool u,.string (bb d)],.int .i64 2] w fun en w'=>en=.returned (.tuple #[])∧St W0 w' K (.out p o2::L):=by
 subst hx;exact blob_putFixed p o ⟨u,d⟩ 2 h hr
set_option maxHeartbeats 1000000 in
set_option maxRecDepth 100000 in
theorem req_write_bad (p:Nat) (o o2:OutS) (a v n:Int) (u:Bool) (d:Bs) (q:Int) (hq:headErr ⟨a,v,n,⟨u,d⟩⟩=q) (g:q≠0) (hx:o.fail q=o2) (hn: -9223372036854775808≤n∧n<9223372036854775808){W0 w:World}{K:Know}{L:List Res}(hk:K.has Know.reqs) (h:St W0 w K (.out p o::L)):
  Calls Tryz.prog 47 #[outPtr p,.agg #[.int .i64 a,.int .i64 v,.int .i64 n,.bool u,.string (bb d)]] w fun en w'=>en=.returned (.tuple #[])∧St W0 w' K (.out p o2::L):=by
 have h1:=h.allocRaw #[.int .i64 a,.int .i64 v,.int .i64 n,.bool u,.string (bb d)] 25;obtain⟨hb,hhb⟩:∃b,w.heap.size=b:=⟨_,rfl⟩;rw[hhb]at h1;have HN:=Lib.hid hn;have HK:=Lib.hid hk;have HQ:=Lib.hid hq;have HX:=Lib.hid hx;obtain⟨x0,x1,x2,x3,x4,y0,y1,y2,y3,y4⟩:=raw5 (b:=hb) (h1);have H:=Lib.hid h1;have gz:(q==0)=false:=by rw[beq_eq_false_iff_ne];exact g
 clear h h1 hk hn hq hx;go_enter Tryz.func47,Tryz.ntmps47
 go_wp2_with (first
  |(go_at_call 94;(with_reducible refine(req_check a v n u d q HQ.out HN.out HK.out H.out).mono ?_);rintro e wn ⟨rfl,h⟩;replace H:=Lib.hid h;clear h;obtain⟨x0,x1,x2,x3,x4,y0,y1,y2,y3,y4⟩:=raw5 (b:=hb) (H.out))
  |(go_at_call 95;(with_reducible refine(so_failQ p o o2 q HX.out H.out.p1).mono ?_);rintro e wn ⟨rfl,h⟩;replace H:=Lib.hid h;clear h))
 refine bodyPost_ret (results_none rfl _ _ _) rfl ⟨rfl,H.out.p1.drop⟩
set_option maxHeartbeats 1000000 in
set_option maxRecDepth 100000 in
theorem req_write_ok (p:Nat) (o1 o2 o3 o4 o5:OutS) (a v n:Int) (u:Bool) (d:Bs) (hq:headErr ⟨a,v,n,⟨u,d⟩⟩=0) (e1:o1.int a 2=o2) (e2:o2.int v 2=o3) (e3:o3.int n 4=o4) (e4:o4.putFixed ⟨u,d⟩ 2=o5)
    (ra: -9223372036854775808≤a∧a<9223372036854775808) (rv: -9223372036854775808≤v∧v<9223372036854775808) (hn: -9223372036854775808≤n∧n<9223372036854775808) (k1:o1.ok 8) (k2:o2.ok 8) (k3:o3.ok 8) (k4:o4.ok (d.length+8)){W0 w:World}{K:Know}{L:List Res}(hk:K.has Know.reqs) (h:St W0 w K (.out p o1::L)):
    Calls Tryz.prog 47 #[outPtr p,.agg #[.int .i64 a,.int .i64 v,.int .i64 n,.bool u,.string (bb d)]] w fun en w'=>en=.returned (.tuple #[])∧St W0 w' K (.out p o5::L):=by
  have h1:=h.allocRaw #[.int .i64 a,.int .i64 v,.int .i64 n,.bool u,.string (bb d)] 25;obtain⟨hb,hhb⟩:∃b,w.heap.size=b:=⟨_,rfl⟩;rw[hhb]at h1;have HN:=Lib.hid hn;have HK:=Lib.hid hk;obtain⟨q,hq0⟩:∃q,(0:Int)=q:=⟨_,rfl⟩;have HQ:=Lib.hid hq;have E1:=Lib.hid e1;have E2:=Lib.hid e2;have E3:=Lib.hid e3;have E4:=Lib.hid e4;have RA:=Lib.hid ra;have RV:=Lib.hid rv;have K1:=Lib.hid k1;have K2:=Lib.hid k2;have K3:=Lib.hid k3;have K4:=Lib.hid k4;obtain⟨x0,x1,x2,x3,x4,y0,y1,y2,y3,y4⟩:=raw5 (b:=hb) (h1);have H:=Lib.hid h1;clear h h1 hk hn hq e1 e2 e3 e4 ra rv k1 k2 k3 k4 hq0 q;have t1:True:=trivial;go_enter Tryz.func47,Tryz.ntmps47
  go_wp2_with (first
    |(go_at_call 94;(with_reducible refine(req_check a v n u d _ HQ.out HN.out HK.out H.out).mono ?_);rintro e wn ⟨rfl,h⟩;replace H:=Lib.hid h;clear h;obtain⟨x0,x1,x2,x3,x4,y0,y1,y2,y3,y4⟩:=raw5 (b:=hb) (H.out))
    |(go_at_call 50;have _t:=t1;clear _t;(with_reducible refine(so_intQ p o1 o2 a 2 E1.out RA.out K1.out H.out.p1).mono ?_);rintro e wn ⟨rfl,h⟩;replace H:=Lib.hid h;clear h;replace H:=Lib.hid H.out.p1;obtain⟨x0,x1,x2,x3,x4,y0,y1,y2,y3,y4⟩:=raw5 (b:=hb) (H.out);have t2:True:=trivial;clear t1)
    |(go_at_call 50;have _t:=t2;clear _t;(with_reducible refine(so_intQ p o2 o3 v 2 E2.out RV.out K2.out H.out.p1).mono ?_);rintro e wn ⟨rfl,h⟩;replace H:=Lib.hid h;clear h;replace H:=Lib.hid H.out.p1;obtain⟨x0,x1,x2,x3,x4,y0,y1,y2,y3,y4⟩:=raw5 (b:=hb) (H.out);have t3:True:=trivial;clear t2)
    |(go_at_call 50;have _t:=t3;clear _t;(with_reducible refine(so_intQ p o3 o4 n 4 E3.out HN.out K3.out H.out.p1).mono ?_);rintro e wn ⟨rfl,h⟩;replace H:=Lib.hid h;clear h;replace H:=Lib.hid H.out.p1;obtain⟨x0,x1,x2,x3,x4,y0,y1,y2,y3,y4⟩:=raw5 (b:=hb) (H.out);clear t3)
    |(go_at_call 96;(with_reducible refine(blob_putFixedQ p o4 o5 u d E4.out K4.out H.out.p1).mono ?_);rintro e wn ⟨rfl,h⟩;replace H:=Lib.hid h;clear h))
  refine bodyPost_end (results_none rfl _ _ _) rfl ⟨rfl,H.out.p1.drop⟩
end Go.Proofs.YteldcbljedeeiaaGreatDoor
