/- Which request any bytes begin with, or why with none, is the document's, and they are its bytes: proved of every text, in both versions. -/
import Derived.Test.YtnnnglklgofabaaGreatGProduceReads18
import Derived.Test.YtnnnglklgofabaaGreatGProduceReads2
/- Which request any bytes begin with, or why with none, is the document's, and they are its bytes: proved of every text, in both versions. -/
namespace Go.Proofs.YtnnnglklgofabaaGreat
open Go.ChangeShapes Go.WideShapes Go.ChangeAt Go.ChangeMaps Go.RowKit
set_option maxRecDepth 100000
theorem produceReads_lifted(os:Os)(started:os.Started)(H:Type)(enc:TypeId×Value→H):
 ReturnsInHanded {} Tryz.checked os 4 .any (Rows.produceReadsSpec.pre6 enc Tryz.prog Tryz.f4 Rows.produceReadsRow.domain false) (Rows.produceReadsSpec.post enc Tryz.prog Tryz.f4 false true false false):=by
 refine returnsInHanded_of_change (C:=Tryz.checked) Tryz.own started (by as_aux_lemma=>kernel_rfl) Tryz.func4
  (ChangeSpec.witness6 (enc:=enc) (C:=Tryz.checked) false ⟨#[],#[.string ⟨#[]⟩,.int .u8 0],[]⟩ 8 (by as_aux_lemma=>kernel_rfl) (by as_aux_lemma=>kernel_rfl) (by as_aux_lemma=>kernel_rfl) (by as_aux_lemma=>kernel_rfl)) ?_
 intro W base args ds gs before hval0 hW hcnd _;have hval:∀(j:Nat) t v,Tryz.f4.params[j]? =some t→args[j]? =some v→Value.okWide Tryz.prog W .any base t v:=hval0;clear hval0;refine zKv (n:=2) (tb:=4) rfl rfl rfl Tryz.underlying4 (by intro ds h;match ds,h with|[d0,d1],_=>rfl) (by as_aux_lemma=>kernel_rfl) hW ?_;intro p hA0 hlt;have hA:DataW.TrodAll enc Tryz.prog W 0 (fun _=>true) true Tryz.f4.params.toList args.toList ds p:=hA0;clear hA0;rw[Tryz.params4]at hA hval;obtain⟨v0,v1,d0,d1,p0,p1,rfl,rfl,rfl,h0,h1⟩:=trodAll_two hA;obtain⟨s0,rfl,rfl,rfl,ws0⟩:=open_string Tryz.underlying9 (hval 0 9 v0 rfl rfl) h0;obtain⟨a1,rfl,rfl,rfl,wa1⟩:=open_int Tryz.underlying5 (hval 1 5 v1 rfl rfl) h1;have r1:=wf_u8 wa1;exact produceReads_any s0.data.toList a1 W r1 ws0
theorem produceReads_holds:Rows.ProduceReadsSaid:=
 OpenClaim.holds_of_wide 4 Tryz.f4 rfl rfl rfl rfl rfl rfl rfl ⟨rfl,rfl,rfl,rfl,rfl⟩ rfl rfl rfl rfl rfl (by as_aux_lemma=>kernel_rfl) Tryz.func4 (by as_aux_lemma=>kernel_rfl)
  (of_decide_eq_true (by as_aux_lemma=>kernel_rfl)) (by as_aux_lemma=>(unfold Func.isWrapper;rw[if_neg (by as_aux_lemma=>decide+kernel)];exact⟨rfl,rfl⟩))
  (fun os started H enc _=>produceReads_lifted os started H enc)
end Go.Proofs.YtnnnglklgofabaaGreat
