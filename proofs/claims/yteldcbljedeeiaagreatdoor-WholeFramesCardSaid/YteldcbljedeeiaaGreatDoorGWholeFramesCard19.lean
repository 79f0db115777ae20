/- Two frames whose bytes come in chunks are these two frames again, and their bytes are the same just if they are the same frame: proved of all frames and all sizes of chunks, the table of requests as the program lays it. -/
import Derived.Test.YteldcbljedeeiaaGreatDoorGWholeFramesCard18
import Derived.Test.YteldcbljedeeiaaGreatDoorGWholeFramesCard4
import Derived.Test.YteldcbljedeeiaaGreatDoorGWholeFramesCard17
import Derived.RegionTactic
import Derived.Deep.RegionHeld3
import Derived.Deep.DeepCutAuto
import Derived.WalkMore
import Derived.Test.YteldcbljedeeiaaGreatDoorGWholeFramesCard5
import Derived.Test.YteldcbljedeeiaaGreatDoorGWholeFramesCard14
import Derived.Test.YteldcbljedeeiaaGreatDoorCards
import Derived.Test.YteldcbljedeeiaaGreatDoorGWholeFramesCard1
import Derived.OpenShut
import Derived.MakeChecks
import Derived.LaidMore
import Derived.Test.YteldcbljedeeiaaGreatDoorTie
import Derived.Deep.DeepHandedRow
import Derived.SevenTiedAt
namespace Go.Proofs.YteldcbljedeeiaaGreatDoor
open Go.Value renaming bool→U, string→Z, slice→V, int→I, pointer→Ja
open Go.Ending renaming returned→Y
open Go.IntKind renaming i64→O
open _root_.Go.Proofs.Tryz renaming prog→Jb
open _root_.Nat renaming zero_le→Jd, add_assoc→Jm
open _root_.List renaming take_succ_eq_append_getElem→Jf, length_cons→Jn, length_append→Jc, append_nil→Jp, length_drop→Jh, drop_drop→Jk, append_assoc→Je, flatMap_cons→Jg, getElem_mem→Ji, length_map→Jj, take→Jl, drop→Jo
open Go.ChangeShapes Go.WideShapes Go.ChangeAt Go.RowKit
set_option maxRecDepth 100000
theorem gReqs:Tryz.prog.globalNamed "cursitor/version.requests" =some 0:=by kernel_rfl
theorem zQs:(Tryz.prog.globals[0]?).map (·.type)=some 312:=by kernel_rfl
theorem zLj:Tryz.prog.cellsOf 262=4:=by kernel_rfl
theorem zOU:Tryz.prog.cellsOf 312=20:=by kernel_rfl
theorem zQ0:Tryz.prog.cellsOf 3=1:=by kernel_rfl
theorem zSp:Tryz.prog.cellsOf 9=1:=by kernel_rfl
theorem dlen4{α:Type}{l:List α}(h:l.length=4):∃a b c d,l=[a,b,c,d]:=by
 match l,h with
 |[a,b,c,d],_=>exact⟨a,b,c,d,rfl⟩
section
variable {H:Type}{enc:TypeId×Value→H}{w:World}{spare:Nat→Bool}{held:Bool}
theorem zGg{n:Nat}{cs:List Value}{y:DataW H×List MemPlace}{a b c:Int}{s:Bs}(h:DataW.trod enc Tryz.prog w 0 spare held n 262 cs=some y)
 (hy:y.1=.agg [.lit (.int .i64 a),.lit (.string s),.lit (.int .i64 b),.lit (.int .i64 c)]):cs=[.int .i64 a,.string ⟨s.toArray⟩,.int .i64 b,.int .i64 c]:=by
 obtain⟨xs,m,_,rfl,hcl,hxl,hg⟩:=DataW.trod_struct Tryz.underlying262 h;rw[zLj]at hcl;obtain⟨c0,c1,c2,c3,rfl⟩:=dlen4 hcl;obtain⟨x0,x1,x2,x3,rfl⟩:=dlen4 hxl;have g0:DataW.trod enc Tryz.prog w 0 spare held m 3 (List.take (Tryz.prog.cellsOf 3) (List.drop 0 [c0,c1,c2,c3]))=some x0:=hg 0 _ rfl;have g1:DataW.trod enc Tryz.prog w 0 spare held m 9 (List.take (Tryz.prog.cellsOf 9) (List.drop 1 [c0,c1,c2,c3]))=some x1:=hg 1 _ rfl;have g2:DataW.trod enc Tryz.prog w 0 spare held m 3 (List.take (Tryz.prog.cellsOf 3) (List.drop 2 [c0,c1,c2,c3]))=some x2:=hg 2 _ rfl;have g3:DataW.trod enc Tryz.prog w 0 spare held m 3 (List.take (Tryz.prog.cellsOf 3) (List.drop 3 [c0,c1,c2,c3]))=some x3:=hg 3 _ rfl;rw[zQ0]at g0 g2 g3;rw[zSp]at g1;obtain⟨k0,e0,f0,_⟩:=DataW.trod_int Tryz.underlying3 g0;obtain⟨k1,e1,f1,_⟩:=DataW.trod_string Tryz.underlying9 g1;obtain⟨k2,e2,f2,_⟩:=DataW.trod_int Tryz.underlying3 g2;obtain⟨k3,e3,f3,_⟩:=DataW.trod_int Tryz.underlying3 g3;subst f0 f1 f2 f3;simp at hy e0 e1 e2 e3;obtain⟨h0,h1,h2,h3⟩:=hy;subst h0 h1 h2 h3 e0 e1 e2 e3
 rfl
end
theorem zST{l:List Value}(hlen:l.length=20):l=(l.drop (0*4)).take 4++((l.drop (1*4)).take 4++((l.drop (2*4)).take 4++((l.drop (3*4)).take 4++(l.drop (4*4)).take 4))):=by
 match l,hlen with
 |[a0,a1,a2,a3,a4,a5,a6,a7,a8,a9,b0,b1,b2,b3,b4,b5,b6,b7,b8,b9],_=>rfl
theorem zKl{W:World}(h:laidMetH Tryz.prog [("cursitor/version.requests",Rows.laid_cursitor_version_requests)] W):Know.reqs.p W (· <W.heap.size):=by
 rw[MakeChecks.laidMetH_plain _ _ _ (by as_aux_lemma=>kernel_rfl)]at h;obtain⟨ps,⟨g0,t0,cs0,f0,p0,q0,hg0,ht0,hv0,hd0,_,_⟩,_,_⟩:=h;obtain rfl:=Option.some.inj (gReqs.symm.trans hg0);obtain rfl:=Option.some.inj (zQs.symm.trans ht0);obtain⟨xs,m1,rfl,hx1,hlen,hn5,hel⟩:=DataW.trod_array Tryz.underlying312 hd0;rw[zLj]at hel;rw[zOU]at hlen
 match xs,hn5,hx1,hel with
 |[x0,x1,x2,x3,x4],_,hx1,hel=>
  have hx2:=congrArg (·.1) hx1;simp only[List.map_cons,List.map_nil,Rows.laid_cursitor_version_requests,DataW.agg.injEq,List.cons.injEq]at hx2;obtain⟨d0,d1,d2,d3,d4,_⟩:=hx2;have r0:=zGg (hel 0 dD) d0.symm;have r1:=zGg (hel 1 dD) d1.symm;have r2:=zGg (hel 2 dD) d2.symm;have r3:=zGg (hel 3 dD) d3.symm;have r4:=zGg (hel 4 dD) d4.symm
  have hcs:cs0.toList=zBQ:=by
   have e:=zST (l:=cs0.toList) hlen;rw[e,r0,r1,r2,r3,r4]
   rfl
  have hcell:∀j u,zBQ[j]? =some u→W.cell? ⟨0,j,Option.none⟩=some u:=by
   intro j u hu;have:=World.var?_cell hg0 hv0 j;rw[this,←Array.getElem?_toList,hcs];exact hu
  have hb:0<W.heap.size:=World.block_lt_of_cell? W _ (hcell 0 _ rfl);exact⟨hb,hb,hcell⟩
noncomputable def reqWorld (os:Os):World:=
 {World.holding Tryz.prog os ⟨#[],#[],[]⟩with heap:=(World.holding Tryz.prog os ⟨#[],#[],[]⟩).heap.modify 0 fun
  | .cells _ t frozen=> .cells #[.int .i64 0,.string ⟨#[112,114,111,100,117,99,101]⟩,.int .i64 3,.int .i64 4,.int .i64 22,.string ⟨#[98,101,103,105,110]⟩,.int .i64 0,.int .i64 1,.int .i64 24,.string ⟨#[97,100,100]⟩,.int .i64 0,.int .i64 0,.int .i64 26,.string ⟨#[101,110,100]⟩,.int .i64 0,.int .i64 0,.int .i64 27,.string ⟨#[109,97,114,107]⟩,.int .i64 0,.int .i64 1] t frozen
  |o=>o}
end Go.Proofs.YteldcbljedeeiaaGreatDoor
namespace Go.Proofs.YteldcbljedeeiaaGreatDoor
open Go.ChangeShapes Go.WideShapes Go.ChangeAt Go.ChangeMaps Go.RowKit
set_option maxRecDepth 100000
theorem zFZ(os:Os):laidMet Tryz.prog Rows.wholeFramesRow.laid ((reqWorld os).forCall (fun _ _=>0) ⟨#[],#[.agg #[.int .i64 0,.int .i64 0,.int .i64 0,.bool false,.string ⟨#[]⟩,.bool false,.string ⟨#[]⟩,.int .i64 0,.int .i64 0,.int .i64 0,.string ⟨#[]⟩,.int .i64 0,.int .i64 0,.slice none 0 0,.string ⟨#[]⟩,.int .i64 0,.int .i64 0,.bool false,.slice none 0 0,.bool false,.string ⟨#[]⟩,.int .i64 0,.int .i64 0,.slice none 0 0],.agg #[.int .i64 0,.int .i64 0,.int .i64 0,.bool false,.string ⟨#[]⟩,.bool false,.string ⟨#[]⟩,.int .i64 0,.int .i64 0,.int .i64 0,.string ⟨#[]⟩,.int .i64 0,.int .i64 0,.slice none 0 0,.string ⟨#[]⟩,.int .i64 0,.int .i64 0,.bool false,.slice none 0 0,.bool false,.string ⟨#[]⟩,.int .i64 0,.int .i64 0,.slice none 0 0],.slice none 0 0],[]⟩).memory:=laidMet_of_run' 8 (by as_aux_lemma=>kernel_rfl) (by as_aux_lemma=>kernel_rfl)
theorem zES(os:Os){H:Type}(enc:TypeId×Value→H):∃places,DataW.whole enc Tryz.prog ((reqWorld os).forCall (fun _ _=>0) ⟨#[],#[.agg #[.int .i64 0,.int .i64 0,.int .i64 0,.bool false,.string ⟨#[]⟩,.bool false,.string ⟨#[]⟩,.int .i64 0,.int .i64 0,.int .i64 0,.string ⟨#[]⟩,.int .i64 0,.int .i64 0,.slice none 0 0,.string ⟨#[]⟩,.int .i64 0,.int .i64 0,.bool false,.slice none 0 0,.bool false,.string ⟨#[]⟩,.int .i64 0,.int .i64 0,.slice none 0 0],.agg #[.int .i64 0,.int .i64 0,.int .i64 0,.bool false,.string ⟨#[]⟩,.bool false,.string ⟨#[]⟩,.int .i64 0,.int .i64 0,.int .i64 0,.string ⟨#[]⟩,.int .i64 0,.int .i64 0,.slice none 0 0,.string ⟨#[]⟩,.int .i64 0,.int .i64 0,.bool false,.slice none 0 0,.bool false,.string ⟨#[]⟩,.int .i64 0,.int .i64 0,.slice none 0 0],.slice none 0 0],[]⟩).memory Tryz.f8.params.toList Rows.wholeFramesSpec.vars false #[.agg #[.int .i64 0,.int .i64 0,.int .i64 0,.bool false,.string ⟨#[]⟩,.bool false,.string ⟨#[]⟩,.int .i64 0,.int .i64 0,.int .i64 0,.string ⟨#[]⟩,.int .i64 0,.int .i64 0,.slice none 0 0,.string ⟨#[]⟩,.int .i64 0,.int .i64 0,.bool false,.slice none 0 0,.bool false,.string ⟨#[]⟩,.int .i64 0,.int .i64 0,.slice none 0 0],.agg #[.int .i64 0,.int .i64 0,.int .i64 0,.bool false,.string ⟨#[]⟩,.bool false,.string ⟨#[]⟩,.int .i64 0,.int .i64 0,.int .i64 0,.string ⟨#[]⟩,.int .i64 0,.int .i64 0,.slice none 0 0,.string ⟨#[]⟩,.int .i64 0,.int .i64 0,.bool false,.slice none 0 0,.bool false,.string ⟨#[]⟩,.int .i64 0,.int .i64 0,.slice none 0 0],.slice none 0 0].toList 8=some ([.agg [.agg [.lit (.int .i64 0),.lit (.int .i64 0),.lit (.int .i64 0),.agg [.lit (.bool false),.lit (.string [])]],.agg [.agg [.lit (.bool false),.lit (.string [])],.lit (.int .i64 0),.lit (.int .i64 0),.lit (.int .i64 0)],.agg [.lit (.string []),.lit (.int .i64 0),.lit (.int .i64 0),.nil],.agg [.lit (.string []),.lit (.int .i64 0),.lit (.int .i64 0),.lit (.bool false)],.nil,.agg [.agg [.lit (.bool false),.lit (.string [])],.lit (.int .i64 0),.lit (.int .i64 0),.nil]],.agg [.agg [.lit (.int .i64 0),.lit (.int .i64 0),.lit (.int .i64 0),.agg [.lit (.bool false),.lit (.string [])]],.agg [.agg [.lit (.bool false),.lit (.string [])],.lit (.int .i64 0),.lit (.int .i64 0),.lit (.int .i64 0)],.agg [.lit (.string []),.lit (.int .i64 0),.lit (.int .i64 0),.nil],.agg [.lit (.string []),.lit (.int .i64 0),.lit (.int .i64 0),.lit (.bool false)],.nil,.agg [.agg [.lit (.bool false),.lit (.string [])],.lit (.int .i64 0),.lit (.int .i64 0),.nil]],.nil],[],places):=⟨[],by as_aux_lemma=>kernel_rfl⟩
theorem zD9(os:Os)(started:os.Started)(H:Type)(enc:TypeId×Value→H)(F:Stop.Interp):
 ReturnsInHanded {} Tryz.checked os 8 .any ((OpenSpec.ofChange Rows.wholeFramesSpec).preRow enc Tryz.prog Tryz.f8 Rows.wholeFramesRow.domain false Rows.wholeFramesRow.laid) (((OpenSpec.ofChange Rows.wholeFramesSpec).at F).post enc Tryz.prog Tryz.f8 false true false false):=by
 obtain⟨places,hx⟩:=zES os enc
 refine returnsInHanded_of_row (C:=Tryz.checked) (s:=OpenSpec.ofChange Rows.wholeFramesSpec) Tryz.own started (by as_aux_lemma=>kernel_rfl) Tryz.func8
  (witness_row_at (enc:=enc) (C:=Tryz.checked) false (reqWorld os) #[.agg #[.int .i64 0,.int .i64 0,.int .i64 0,.bool false,.string ⟨#[]⟩,.bool false,.string ⟨#[]⟩,.int .i64 0,.int .i64 0,.int .i64 0,.string ⟨#[]⟩,.int .i64 0,.int .i64 0,.slice none 0 0,.string ⟨#[]⟩,.int .i64 0,.int .i64 0,.bool false,.slice none 0 0,.bool false,.string ⟨#[]⟩,.int .i64 0,.int .i64 0,.slice none 0 0],.agg #[.int .i64 0,.int .i64 0,.int .i64 0,.bool false,.string ⟨#[]⟩,.bool false,.string ⟨#[]⟩,.int .i64 0,.int .i64 0,.int .i64 0,.string ⟨#[]⟩,.int .i64 0,.int .i64 0,.slice none 0 0,.string ⟨#[]⟩,.int .i64 0,.int .i64 0,.bool false,.slice none 0 0,.bool false,.string ⟨#[]⟩,.int .i64 0,.int .i64 0,.slice none 0 0],.slice none 0 0] rfl (by as_aux_lemma=>kernel_rfl) (by as_aux_lemma=>kernel_rfl) (by as_aux_lemma=>kernel_rfl)
   (OpenSpec.preRow_of_cond 8 hx (by as_aux_lemma=>kernel_rfl) (fun k hk=>by cases hk) (by as_aux_lemma=>kernel_rfl) (zFZ os))) ?_
 intro W base args ds gs before hval0 hW _ _ hsz0 hL _ _;have hval:∀(j:Nat) t v,Tryz.f8.params[j]? =some t→args[j]? =some v→Value.okWide Tryz.prog W .any base t v:=hval0;clear hval0;have hreq:=zKl hL;refine zKP (n:=3) (tb:=4) (s:=Rows.wholeFramesSpec) rfl rfl rfl Tryz.underlying4 (by intro ds h;match ds,h with|[d0,d1,d2],_=>rfl) (by as_aux_lemma=>kernel_rfl) hW ?_;intro p hA0 hlt;have hA:DataW.TrodAll enc Tryz.prog W 0 (fun _=>true) true Tryz.f8.params.toList args.toList ds p:=hA0;clear hA0;rw[Tryz.params8]at hA hval;obtain⟨v0,v1,v2,d0,d1,d2,p0,p1,p2,rfl,rfl,rfl,h0,h1,h2⟩:=trodAll_three hA;have hsz:(DataW.weightsEach Tryz.prog (Tryz.f8.params.toList++(OpenSpec.ofChange Rows.wholeFramesSpec).bare.plain.varTypes Tryz.prog) ([d0,d1,d2]++gs)).all (· ≤reachBytes)=true:=hsz0;rw[Tryz.params8]at hsz;have lg0:zBB 38 d0:=zGJ hsz (j:=0) rfl rfl;obtain⟨x0,rfl,hx0⟩:=zQu (hval 0 38 v0 rfl rfl) h0 lg0 (fun y hy=>hlt y (by simp[hy]));have lg1:zBB 38 d1:=zGJ hsz (j:=1) rfl rfl;obtain⟨x1,rfl,hx1⟩:=zQu (hval 1 38 v1 rfl rfl) h1 lg1 (fun y hy=>hlt y (by simp[hy]));obtain⟨c2,e2,k2,rfl⟩:=okWide_slice Tryz.underlying72 (hval 2 72 v2 rfl rfl);have lg2:zBB 72 d2:=zGJ hsz (j:=2) rfl rfl;obtain⟨fuel2,hf2⟩:=h2;obtain⟨w2,l2,hw2,hrq2,hbl2,hl2⟩:=zA0 (R:=fun w cs x=>(fun _ cs x=>RU8 cs x) w cs x∧(fun x:Int=>0≤x∧x<256) x) (N:=W.heap.size) Tryz.underlying72 zQY dD zPD hf2 lg2 (fun y hy=>hlt y (by simp[hy])) (Nat.le_refl _);obtain⟨hr2,hq2⟩:=hrq2.part;obtain rfl:w2=Value.slice c2 e2 k2:=by simpa [Value.cells]using hw2.symm
 exact zF0 x0 x1 l2 _ W hx0 hx1 hq2 hr2 hreq
set_option maxRecDepth 512
set_option maxHeartbeats 8000000
theorem zFH:Rows.WholeFramesSaid:=
 OpenClaim.holds_of_cond 8 Tryz.f8 rfl rfl rfl rfl rfl rfl rfl ⟨rfl,rfl,rfl,rfl,rfl⟩ rfl rfl rfl rfl rfl (by as_aux_lemma=>kernel_rfl) Tryz.func8 (by as_aux_lemma=>kernel_rfl)
  (of_decide_eq_true (by as_aux_lemma=>kernel_rfl)) (by as_aux_lemma=>(unfold Func.isWrapper;rw[if_neg (by as_aux_lemma=>decide+kernel)];exact⟨rfl,rfl⟩))
  (fun os started H enc _ F=>by rw[OpenClaim.pre_eq_preRow];exact zD9 os started H enc F)
theorem zET(f:FuncId)(fn:Func)(hf:Tryz.pinned.checked.prog.funcNamed "cursitor/cursitortop.WholeFrames" =some f)(hfn:Tryz.pinned.checked.prog.funcs[f]? =some fn):
  false=Tryz.pinned.checked.prog.looks []∧∀(j:Nat) t,fn.params[j]? =some t→Tryz.pinned.checked.prog.wantsStandIn t=false:=by
 obtain rfl:f=8:=Option.some.inj ((show Tryz.prog.funcNamed "cursitor/cursitortop.WholeFrames" =some 8 by as_aux_lemma=>kernel_rfl).symm.trans hf) |>.symm;obtain rfl:fn=Tryz.f8:=(Option.some.inj (Tryz.func8.symm.trans hfn)).symm;refine⟨by as_aux_lemma=>kernel_rfl,fun j t ht=> ?_⟩;rw[Tryz.params8]at ht;have hm:t∈[38,38,72]:=by simpa using Array.mem_of_getElem? ht
 have hall:([38,38,72].all fun u=> !Tryz.prog.wantsStandIn u)=true:=by as_aux_lemma=>kernel_rfl
 exact(show Tryz.prog.wantsStandIn t=false by simpa using List.all_eq_true.1 hall t hm)
theorem wholeFramesCard_holds:Rows.WholeFramesCardSaid:=
 Claim7.holds_tied_plain_at .later [] _ _ _ _ zFH (fun _ h=>by cases h) (by as_aux_lemma=>kernel_rfl) (fun _ h=>by cases h) wholeFrames_row_tie rfl ⟨rfl,rfl⟩ (by as_aux_lemma=>kernel_rfl) rfl zET (by as_aux_lemma=>kernel_rfl)
end Go.Proofs.YteldcbljedeeiaaGreatDoor
