/- Whatever bytes are read as, a record, a batch, a key, a value or a frame, is written as just these bytes, and no bytes are read with one more behind them: proved of every text and byte, the table of requests as the program lays it. -/
import Derived.Test.YteldcbljedeeiaaGreatDoorGWholeStrictCard16
import Derived.Test.YteldcbljedeeiaaGreatDoorGWholeStrictCard10
import Derived.Test.YteldcbljedeeiaaGreatDoorGWholeStrictCard5
import Derived.Deep.RegionHeld3
import Derived.Deep.DeepCutAuto
import Derived.Test.YteldcbljedeeiaaGreatDoorGWholeStrictCard4
import Derived.Test.YteldcbljedeeiaaGreatDoorGWholeStrictCard8
import Derived.Test.YteldcbljedeeiaaGreatDoorGWholeStrictCard3
import Derived.Test.YteldcbljedeeiaaGreatDoorGWholeStrictCard13
import Derived.Test.YteldcbljedeeiaaGreatDoorGWholeStrictCard12
import Derived.Test.YteldcbljedeeiaaGreatDoorGWholeStrictCard6
import Derived.Test.YteldcbljedeeiaaGreatDoorGWholeStrictCard15
import Derived.RegionTactic
import Derived.WalkMore
import Derived.Test.YteldcbljedeeiaaGreatDoorCards
import Derived.Test.YteldcbljedeeiaaGreatDoorGWholeStrictCard1
import Derived.OpenShut
import Derived.MakeChecks
import Derived.LaidMore
import Derived.Test.YteldcbljedeeiaaGreatDoorTie
import Derived.Deep.DeepHandedRow
import Derived.SevenTiedAt
import Derived.Test.YteldcbljedeeiaaGreatDoorGWholeStrictCard18
namespace Go.Proofs.YteldcbljedeeiaaGreatDoor
open Go.ChangeShapes Go.WideShapes Go.ChangeAt Go.RowKit
set_option maxRecDepth 100000
set_option maxHeartbeats 8000000

theorem gReqs:Tryz.prog.globalNamed "cursitor/version.requests" =some 0:=by kernel_rfl
theorem gReqsType:(Tryz.prog.globals[0]?).map (·.type)=some 312:=by kernel_rfl
theorem cells_req:Tryz.prog.cellsOf 262=4:=by kernel_rfl
theorem cells_reqs:Tryz.prog.cellsOf 312=20:=by kernel_rfl
theorem cells_i64:Tryz.prog.cellsOf 3=1:=by kernel_rfl
theorem cells_s1:Tryz.prog.cellsOf 9=1:=by kernel_rfl
theorem dlen4 {α:Type}{l:List α}(h:l.length=4):∃a b c d,l=[a,b,c,d]:=by
 match l,h with
 |[a,b,c,d],_=>exact⟨a,b,c,d,rfl⟩
section
variable {H:Type}{enc:TypeId×Value→H}{w:World}{spare:Nat→Bool}{held:Bool}
set_option maxRecDepth 100000 in
theorem req_row {n:Nat}{cs:List Value}{y:DataW H×List MemPlace}{a b c:Int}{s:Bs}(h:DataW.trod enc Tryz.prog w 0 spare held n 262 cs=some y)
    (hy:y.1=.agg [.lit (.int .i64 a),.lit (.string s),.lit (.int .i64 b),.lit (.int .i64 c)]):cs=[.int .i64 a,.string ⟨s.toArray⟩,.int .i64 b,.int .i64 c]:=by
  obtain⟨xs,m,_,rfl,hcl,hxl,hg⟩:=DataW.trod_struct Tryz.underlying262 h;rw[cells_req]at hcl;obtain⟨c0,c1,c2,c3,rfl⟩:=dlen4 hcl;obtain⟨x0,x1,x2,x3,rfl⟩:=dlen4 hxl;have g0:DataW.trod enc Tryz.prog w 0 spare held m 3 (List.take (Tryz.prog.cellsOf 3) (List.drop 0 [c0,c1,c2,c3]))=some x0:=hg 0 _ rfl;have g1:DataW.trod enc Tryz.prog w 0 spare held m 9 (List.take (Tryz.prog.cellsOf 9) (List.drop 1 [c0,c1,c2,c3]))=some x1:=hg 1 _ rfl;have g2:DataW.trod enc Tryz.prog w 0 spare held m 3 (List.take (Tryz.prog.cellsOf 3) (List.drop 2 [c0,c1,c2,c3]))=some x2:=hg 2 _ rfl;have g3:DataW.trod enc Tryz.prog w 0 spare held m 3 (List.take (Tryz.prog.cellsOf 3) (List.drop 3 [c0,c1,c2,c3]))=some x3:=hg 3 _ rfl;rw[cells_i64]at g0 g2 g3;rw[cells_s1]at g1;obtain⟨k0,e0,f0,_⟩:=DataW.trod_int Tryz.underlying3 g0;obtain⟨k1,e1,f1,_⟩:=DataW.trod_string Tryz.underlying9 g1;obtain⟨k2,e2,f2,_⟩:=DataW.trod_int Tryz.underlying3 g2;obtain⟨k3,e3,f3,_⟩:=DataW.trod_int Tryz.underlying3 g3;subst f0 f1 f2 f3;simp at hy e0 e1 e2 e3;obtain⟨h0,h1,h2,h3⟩:=hy;subst h0 h1 h2 h3 e0 e1 e2 e3
  rfl
end
theorem split20 {l:List Value}(hlen:l.length=20):l=(l.drop (0*4)).take 4++((l.drop (1*4)).take 4++((l.drop (2*4)).take 4++((l.drop (3*4)).take 4++(l.drop (4*4)).take 4))):=by
 match l,hlen with
 |[a0,a1,a2,a3,a4,a5,a6,a7,a8,a9,b0,b1,b2,b3,b4,b5,b6,b7,b8,b9],_=>rfl
set_option maxRecDepth 100000 in
theorem reqs_of_laid {W:World}(h:laidMetH Tryz.prog [("cursitor/version.requests",Rows.laid_cursitor_version_requests)] W):Know.reqs.p W (· <W.heap.size):=by
 rw[MakeChecks.laidMetH_plain _ _ _ (by as_aux_lemma=>kernel_rfl)]at h;obtain⟨ps,⟨g0,t0,cs0,f0,p0,q0,hg0,ht0,hv0,hd0,_,_⟩,_,_⟩:=h;obtain rfl:=Option.some.inj (gReqs.symm.trans hg0);obtain rfl:=Option.some.inj (gReqsType.symm.trans ht0);obtain⟨xs,m1,rfl,hx1,hlen,hn5,hel⟩:=DataW.trod_array Tryz.underlying312 hd0;rw[cells_req]at hel;rw[cells_reqs]at hlen
 match xs,hn5,hx1,hel with
 |[x0,x1,x2,x3,x4],_,hx1,hel=>
  have hx2:=congrArg (·.1) hx1;simp only[List.map_cons,List.map_nil,Rows.laid_cursitor_version_requests,DataW.agg.injEq,List.cons.injEq]at hx2;obtain⟨d0,d1,d2,d3,d4,_⟩:=hx2;have r0:=req_row (hel 0 (by decide)) d0.symm;have r1:=req_row (hel 1 (by decide)) d1.symm;have r2:=req_row (hel 2 (by decide)) d2.symm;have r3:=req_row (hel 3 (by decide)) d3.symm;have r4:=req_row (hel 4 (by decide)) d4.symm
  have hcs:cs0.toList=reqCells:=by
   have e:=split20 (l:=cs0.toList) hlen;rw[e,r0,r1,r2,r3,r4]
   rfl
  have hcell:∀j u,reqCells[j]? =some u→W.cell? ⟨0,j,Option.none⟩=some u:=by
   intro j u hu;have:=World.var?_cell hg0 hv0 j;rw[this,←Array.getElem?_toList,hcs];exact hu
  have hb:0<W.heap.size:=World.block_lt_of_cell? W _ (hcell 0 _ rfl);exact⟨hb,hb,hcell⟩
noncomputable def reqWorld (os:Os):World:=
  {World.holding Tryz.prog os ⟨#[],#[],[]⟩with heap:=(World.holding Tryz.prog os ⟨#[],#[],[]⟩).heap.modify 0 fun
      | .cells _ t frozen=> .cells #[.int .i64 0,.string ⟨#[112,114,111,100,117,99,101]⟩,.int .i64 3,.int .i64 4,.int .i64 22,.string ⟨#[98,101,103,105,110]⟩,.int .i64 0,.int .i64 1,.int .i64 24,.string ⟨#[97,100,100]⟩,.int .i64 0,.int .i64 0,.int .i64 26,.string ⟨#[101,110,100]⟩,.int .i64 0,.int .i64 0,.int .i64 27,.string ⟨#[109,97,114,107]⟩,.int .i64 0,.int .i64 1] t frozen
      |o=>o}

end Go.Proofs.YteldcbljedeeiaaGreatDoor
/- Whatever bytes are read as, a record, a batch, a key, a value or a frame, is written as just these bytes, and no bytes are read with one more behind them: proved of every text and byte, the table of requests as the program lays it. -/
namespace Go.Proofs.YteldcbljedeeiaaGreatDoor
open Go.ChangeShapes Go.WideShapes Go.ChangeAt Go.ChangeMaps Go.RowKit
set_option maxRecDepth 100000
set_option maxHeartbeats 8000000

set_option maxRecDepth 100000 in
theorem wholeStrict_met (os:Os):laidMet Tryz.prog Rows.wholeStrictRow.laid ((reqWorld os).forCall (fun _ _=>0) ⟨#[],#[.string ⟨#[]⟩,.int .u8 0],[]⟩).memory:=laidMet_of_run' 8 (by as_aux_lemma=>kernel_rfl) (by as_aux_lemma=>kernel_rfl)
theorem wholeStrict_reads (os:Os){H:Type}(enc:TypeId×Value→H):∃places,DataW.whole enc Tryz.prog ((reqWorld os).forCall (fun _ _=>0) ⟨#[],#[.string ⟨#[]⟩,.int .u8 0],[]⟩).memory Tryz.f9.params.toList Rows.wholeStrictSpec.vars false #[.string ⟨#[]⟩,.int .u8 0].toList 8=some ([.lit (.string []),.lit (.int .u8 0)],[],places):=⟨[],by as_aux_lemma=>kernel_rfl⟩
set_option maxRecDepth 100000 in
theorem wholeStrict_lifted (os:Os) (started:os.Started) (H:Type) (enc:TypeId×Value→H) (F:Stop.Interp):
  ReturnsInHanded {} Tryz.checked os 9 .any ((OpenSpec.ofChange Rows.wholeStrictSpec).preRow enc Tryz.prog Tryz.f9 Rows.wholeStrictRow.domain false Rows.wholeStrictRow.laid) (((OpenSpec.ofChange Rows.wholeStrictSpec).at F).post enc Tryz.prog Tryz.f9 false true false false):=by
 obtain⟨places,hx⟩:=wholeStrict_reads os enc
 refine returnsInHanded_of_row (C:=Tryz.checked) (s:=OpenSpec.ofChange Rows.wholeStrictSpec) Tryz.own started (by as_aux_lemma=>kernel_rfl) Tryz.func9
  (witness_row_at (enc:=enc) (C:=Tryz.checked) false (reqWorld os) #[.string ⟨#[]⟩,.int .u8 0] rfl (by as_aux_lemma=>kernel_rfl) (by as_aux_lemma=>kernel_rfl) (by as_aux_lemma=>kernel_rfl)
   (OpenSpec.preRow_of_cond 8 hx (by as_aux_lemma=>kernel_rfl) (fun k hk=>by cases hk) (by as_aux_lemma=>kernel_rfl) (wholeStrict_met os))) ?_
 intro W base args ds gs before hval0 hW _ _ hsz0 hL _ _;have hval:∀(j:Nat) t v,Tryz.f9.params[j]? =some t→args[j]? =some v→Value.okWide Tryz.prog W .any base t v:=hval0;clear hval0;have hreq:=reqs_of_laid hL;refine law_contract (n:=2) (tb:=4) (s:=Rows.wholeStrictSpec) rfl rfl rfl Tryz.underlying4 (by intro ds h;match ds,h with|[d0,d1],_=>rfl) (by as_aux_lemma=>kernel_rfl) hW ?_;intro p hA0 hlt;have hA:DataW.TrodAll enc Tryz.prog W 0 (fun _=>true) true Tryz.f9.params.toList args.toList ds p:=hA0;clear hA0;rw[Tryz.params9]at hA hval;obtain⟨v0,v1,d0,d1,p0,p1,rfl,rfl,rfl,h0,h1⟩:=trodAll_two hA;obtain⟨s0,rfl,rfl,rfl,ws0⟩:=open_string Tryz.underlying9 (hval 0 9 v0 rfl rfl) h0;obtain⟨a1,rfl,rfl,rfl,wa1⟩:=open_int Tryz.underlying5 (hval 1 5 v1 rfl rfl) h1;have r1:=wf_u8 wa1;exact wholeStrict_any s0.data.toList a1 r1 (Know.has_refl _) (St.start hreq)

theorem wholeStrict_said:Rows.WholeStrictSaid:=
 OpenClaim.holds_of_cond 9 Tryz.f9 rfl rfl rfl rfl rfl rfl rfl ⟨rfl,rfl,rfl,rfl,rfl⟩ rfl rfl rfl rfl rfl (by as_aux_lemma=>kernel_rfl) Tryz.func9 (by as_aux_lemma=>kernel_rfl)
  (of_decide_eq_true (by as_aux_lemma=>kernel_rfl)) (by as_aux_lemma=>(unfold Func.isWrapper;rw[if_neg (by as_aux_lemma=>decide+kernel)];exact⟨rfl,rfl⟩))
  (fun os started H enc _ F=>by rw[OpenClaim.pre_eq_preRow];exact wholeStrict_lifted os started H enc F)

theorem wholeStrict_plain (f:FuncId) (fn:Func) (hf:Tryz.pinned.checked.prog.funcNamed "cursitor/cursitortop.WholeStrict" =some f) (hfn:Tryz.pinned.checked.prog.funcs[f]? =some fn):
  false=Tryz.pinned.checked.prog.looks []∧∀(j:Nat) t,fn.params[j]? =some t→Tryz.pinned.checked.prog.wantsStandIn t=false:=by
 obtain rfl:f=9:=Option.some.inj ((show Tryz.prog.funcNamed "cursitor/cursitortop.WholeStrict" =some 9 by as_aux_lemma=>kernel_rfl).symm.trans hf) |>.symm;obtain rfl:fn=Tryz.f9:=(Option.some.inj (Tryz.func9.symm.trans hfn)).symm;refine⟨by as_aux_lemma=>kernel_rfl,fun j t ht=> ?_⟩;rw[Tryz.params9]at ht;have hm:t∈[9,5]:=by simpa using Array.mem_of_getElem? ht
 have hall:([9,5].all fun u=> !Tryz.prog.wantsStandIn u)=true:=by as_aux_lemma=>kernel_rfl
 exact(show Tryz.prog.wantsStandIn t=false by simpa using List.all_eq_true.1 hall t hm)

theorem wholeStrictCard_holds:Rows.WholeStrictCardSaid:=
 Claim7.holds_tied_plain_at .later [] _ _ _ _ wholeStrict_said (fun _ h=>by cases h) (by as_aux_lemma=>kernel_rfl) (fun _ h=>by cases h) wholeStrict_row_tie rfl ⟨rfl,rfl⟩ (by as_aux_lemma=>kernel_rfl) rfl wholeStrict_plain (by as_aux_lemma=>kernel_rfl)

end Go.Proofs.YteldcbljedeeiaaGreatDoor
