/- Of any bytes, in whatever chunks, all that is told, and of a word that is none that: proved of every text, every row of sizes and every word, the library's own variables as the program lays them. -/
import Derived.Test.YtenojajfacacoaaGreatDoorCards
import Derived.Test.YtenojajfacacoaaGreatDoorTie
import Derived.Deep.DeepHandedRow
import Derived.SevenTiedAt
import Derived.OpenShut
import Derived.Test.YtenojajfacacoaaGreatDoorGReportRawsCard17
import Derived.Test.YtenojajfacacoaaGreatDoorGReportRawsCard1
/- Of any bytes, in whatever chunks, all that is told, and of a word that is none that: proved of every text, every row of sizes and every word, the library's own variables as the program lays them. -/
namespace Go.Proofs.YtenojajfacacoaaGreatDoor
set_option maxHeartbeats 4000000
open Go.ChangeShapes Go.WideShapes Go.ChangeAt Go.ChangeMaps Go.RowKit
set_option maxRecDepth 100000
theorem zGl(os:Os):laidMet Tryz.prog Rows.reportRawsRow.laid ((scWorld os).forCall (fun _ _=>0) ⟨#[],#[.string ⟨#[]⟩,.slice none 0 0,.string ⟨#[]⟩],[]⟩).memory:=laidMet_of_run' 8 (by as_aux_lemma=>kernel_rfl) (by as_aux_lemma=>kernel_rfl)
theorem zEK(os:Os){H:Type}(enc:TypeId×Value→H):∃places,DataW.whole enc Tryz.prog ((scWorld os).forCall (fun _ _=>0) ⟨#[],#[.string ⟨#[]⟩,.slice none 0 0,.string ⟨#[]⟩],[]⟩).memory Tryz.f4.params.toList Rows.reportRawsSpec.vars false #[.string ⟨#[]⟩,.slice none 0 0,.string ⟨#[]⟩].toList 8=some ([.lit (.string []),.nil,.lit (.string [])],[],places):=⟨[],by as_aux_lemma=>kernel_rfl⟩
theorem zEb(os:Os)(started:os.Started)(H:Type)(enc:TypeId×Value→H)(F:Stop.Interp):
  ReturnsInHanded {} Tryz.checked os 4 .any ((OpenSpec.ofChange Rows.reportRawsSpec).preRow enc Tryz.prog Tryz.f4 Rows.reportRawsRow.domain false Rows.reportRawsRow.laid) (((OpenSpec.ofChange Rows.reportRawsSpec).at F).post enc Tryz.prog Tryz.f4 false true false false):=by
 obtain⟨places,hx⟩:=zEK os enc
 refine returnsInHanded_of_row (C:=Tryz.checked) (s:=OpenSpec.ofChange Rows.reportRawsSpec) Tryz.own started (by as_aux_lemma=>kernel_rfl) Tryz.func4
  (witness_row_at (enc:=enc) (C:=Tryz.checked) false (scWorld os) #[.string ⟨#[]⟩,.slice none 0 0,.string ⟨#[]⟩] rfl (by as_aux_lemma=>kernel_rfl) (by as_aux_lemma=>kernel_rfl) (by as_aux_lemma=>kernel_rfl)
   (OpenSpec.preRow_of_cond 8 hx (by as_aux_lemma=>kernel_rfl) (fun k hk=>by cases hk) (by as_aux_lemma=>kernel_rfl) (zGl os))) ?_
 intro W base args ds gs before hval0 hW _ _ hsz0 hL hSh _;have hval:∀(j:Nat) t v,Tryz.f4.params[j]? =some t→args[j]? =some v→Value.okWide Tryz.prog W .any base t v:=hval0;clear hval0;have hlib:=zJX hL hSh;refine zIQ (n:=3) (tb:=4) (s:=Rows.reportRawsSpec) rfl rfl rfl Tryz.underlying4 (by intro ds h;match ds,h with|[d0,d1,d2],_=>rfl) (by as_aux_lemma=>kernel_rfl) hW ?_;intro p hA0 hlt;have hA:DataW.TrodAll enc Tryz.prog W 0 (fun _=>true) true Tryz.f4.params.toList args.toList ds p:=hA0;clear hA0;rw[Tryz.params4]at hA hval;obtain⟨v0,v1,v2,d0,d1,d2,p0,p1,p2,rfl,rfl,rfl,h0,h1,h2⟩:=trodAll_three hA;have hsz:(DataW.weightsEach Tryz.prog (Tryz.f4.params.toList++(OpenSpec.ofChange Rows.reportRawsSpec).bare.plain.varTypes Tryz.prog) ([d0,d1,d2]++gs)).all (· ≤reachBytes)=true:=hsz0;rw[Tryz.params4]at hsz;obtain⟨s0,rfl,rfl,rfl,ws0⟩:=open_string Tryz.underlying9 (hval 0 9 v0 rfl rfl) h0;obtain⟨c1,e1,k1,rfl⟩:=okWide_slice Tryz.underlying23 (hval 1 23 v1 rfl rfl);have lg1:zLZ 23 d1:=zM1 hsz (j:=1) rfl rfl;obtain⟨fuel1,hf1⟩:=h1;obtain⟨w1,l1,hw1,hrq1,hbl1,hl1⟩:=zLA (R:=fun w cs x=>(fun _ cs x=>RInt cs x) w cs x∧Rn x) (N:=W.heap.size) Tryz.underlying23 zNz (by decide) zLi hf1 lg1 (fun y hy=>hlt y (by simp[hy])) (Nat.le_refl _);obtain⟨hr1,hq1⟩:=hrq1.part;obtain rfl:w1=Value.slice c1 e1 k1:=by simpa [Value.cells]using hw1.symm
 obtain⟨s2,rfl,rfl,rfl,ws2⟩:=open_string Tryz.underlying9 (hval 2 9 v2 rfl rfl) h2;exact zGm s0.data.toList s2.data.toList l1 _ W hq1 hlib hr1
theorem zFm:Rows.ReportRawsSaid:=
 OpenClaim.holds_of_cond 4 Tryz.f4 rfl rfl rfl rfl rfl rfl rfl ⟨rfl,rfl,rfl,rfl,rfl⟩ rfl rfl rfl rfl rfl (by as_aux_lemma=>kernel_rfl) Tryz.func4 (by as_aux_lemma=>kernel_rfl)
  (of_decide_eq_true (by as_aux_lemma=>kernel_rfl)) (by as_aux_lemma=>(unfold Func.isWrapper;rw[if_neg (by as_aux_lemma=>decide+kernel)];exact⟨rfl,rfl⟩))
  (fun os started H enc _ F=>by rw[OpenClaim.pre_eq_preRow];exact zEb os started H enc F)
theorem zEL(f:FuncId)(fn:Func)(hf:Tryz.pinned.checked.prog.funcNamed "cursitor/cursitorlaw26.ReportRaws" =some f)(hfn:Tryz.pinned.checked.prog.funcs[f]? =some fn):
  true=Tryz.pinned.checked.prog.looks []∧∀(j:Nat) t,fn.params[j]? =some t→Tryz.pinned.checked.prog.wantsStandIn t=false:=by
 obtain rfl:f=4:=Option.some.inj ((show Tryz.prog.funcNamed "cursitor/cursitorlaw26.ReportRaws" =some 4 by as_aux_lemma=>kernel_rfl).symm.trans hf) |>.symm;obtain rfl:fn=Tryz.f4:=(Option.some.inj (Tryz.func4.symm.trans hfn)).symm;refine⟨by as_aux_lemma=>kernel_rfl,fun j t ht=> ?_⟩;rw[Tryz.params4]at ht;have hm:t∈[9,23,9]:=by simpa using Array.mem_of_getElem? ht
 have hall:([9,23,9].all fun u=> !Tryz.prog.wantsStandIn u)=true:=by as_aux_lemma=>kernel_rfl
 exact(show Tryz.prog.wantsStandIn t=false by simpa using List.all_eq_true.1 hall t hm)
theorem reportRawsCard_holds:Rows.ReportRawsCardSaid:=
 Claim7.holds_tied_plain_at .later [] _ _ _ _ zFm (fun _ h=>by cases h) (by as_aux_lemma=>kernel_rfl) (fun _ h=>by cases h) reportRaws_row_tie rfl ⟨rfl,rfl⟩ (by as_aux_lemma=>kernel_rfl) rfl zEL (by as_aux_lemma=>kernel_rfl)
end Go.Proofs.YtenojajfacacoaaGreatDoor
