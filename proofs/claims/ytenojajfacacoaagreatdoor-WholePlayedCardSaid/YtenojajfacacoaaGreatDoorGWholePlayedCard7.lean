/- A text. -/
import Derived.Test.YtenojajfacacoaaGreatDoorGWholePlayedCard6
import Derived.RegionTactic
import Derived.WalkMore
import Derived.Deep.RegionHeld3
import Derived.Deep.DeepCutAuto
import Derived.Deep.OwnRows
import Derived.Test.YtenojajfacacoaaGreatDoorGWholePlayedCard4
import Derived.Test.YtenojajfacacoaaGreatDoorGWholePlayedCard3
import Derived.Test.YtenojajfacacoaaGreatDoorGWholePlayedCard2
import Derived.Lib.Split
import Derived.Lib.SplitLaws
import Derived.Lib.ItoaMem
import Derived.Lib.ItoaLen
/- A text. -/
namespace Go.Proofs.YtenojajfacacoaaGreatDoor
open Go.RowKit
set_option maxHeartbeats 4000000
set_option maxRecDepth 100000
theorem zLz(s:Bs)(va vt vc:Bool)(hva:hasB s 97=va)(hvt:hasB s 116=vt)(hvc:hasB s 99=vc)(ok:Bool)(hok:(letW va vt vc==s)=ok){W0 w:World}{K:Know}{L:List Res}(h:St W0 w K L):
  Calls Tryz.prog 140 #[.string (bb s)] w fun en w'=>en=.returned (.tuple #[.agg #[.bool va,.bool vt,.bool vc],.bool ok])∧St W0 w' K L:=by
 obtain⟨rb,hrb⟩:∃b,w.heap.size=b:=⟨_,rfl⟩;have g1:=h.allocRaw #[.bool false,.bool false,.bool false] 137;rw[hrb]at g1;have H:=hQd g1;have HVA:=hQd hva;have HVT:=hQd hvt;have HVC:=hQd hvc;clear h g1 hva hvt hvc;go_enter Tryz.func140,Tryz.ntmps140;go_wp2_with fail;go_loopw [5] (fun iv wr=>(iv=.int .i64 0∧St W0 wr K (.raw rb #[.bool false,.bool false,.bool false] 137::L))∨(iv=.int .i64 1∧St W0 wr K (.raw rb #[.bool va,.bool false,.bool false] 137::L))∨(iv=.int .i64 2∧St W0 wr K (.raw rb #[.bool va,.bool vt,.bool false] 137::L))∨(iv=.int .i64 3∧St W0 wr K (.raw rb #[.bool va,.bool vt,.bool vc] 137::L))) (fun iv _=>4 - (intOf iv).toNat)
 case atStart=>exact .inl ⟨rfl,H.out⟩
 case round=>
  clear H
  rcases hrel with ⟨rfl,hst⟩|⟨rfl,hst⟩|⟨rfl,hst⟩|⟨rfl,hst⟩
  · have H:=hQd hst;have c0:=(hst).rawCell 0;have c1:=(hst).rawCell 1;have c2:=(hst).rawCell 2;simp at c0 c1 c2;have r0:=(hst).rawFree 0;have r1:=(hst).rawFree 1;have r2:=(hst).rawFree 2;clear hst;go_wp2_with (go_at_call 173;(try clear c0 c1 c2 r0 r1 r2);(with_reducible refine(zJS s _ 97 va ?_ HVA.out H.out).mono ?_);kernel_rfl;rintro e_ wn ⟨rfl,h⟩;have c0:=(h).rawCell 0;have c1:=(h).rawCell 1;have c2:=(h).rawCell 2;simp at c0 c1 c2;have r0:=(h).rawFree 0;have r1:=(h).rawFree 1;have r2:=(h).rawFree 2;replace H:=hQd h;clear h);go_roundw
    case rel=>exact .inr (.inl ⟨by go_num,H.out.rawSet 0 (.bool va)⟩)
    case measure=>first|(simp[intOf];done)|(simp[intOf];omega)
  · have H:=hQd hst;have c0:=(hst).rawCell 0;have c1:=(hst).rawCell 1;have c2:=(hst).rawCell 2;simp at c0 c1 c2;have r0:=(hst).rawFree 0;have r1:=(hst).rawFree 1;have r2:=(hst).rawFree 2;clear hst;go_wp2_with (go_at_call 173;(try clear c0 c1 c2 r0 r1 r2);(with_reducible refine(zJS s _ 116 vt ?_ HVT.out H.out).mono ?_);kernel_rfl;rintro e_ wn ⟨rfl,h⟩;have c0:=(h).rawCell 0;have c1:=(h).rawCell 1;have c2:=(h).rawCell 2;simp at c0 c1 c2;have r0:=(h).rawFree 0;have r1:=(h).rawFree 1;have r2:=(h).rawFree 2;replace H:=hQd h;clear h);go_roundw
    case rel=>exact .inr (.inr (.inl ⟨by go_num,H.out.rawSet 1 (.bool vt)⟩))
    case measure=>first|(simp[intOf];done)|(simp[intOf];omega)
  · have H:=hQd hst;have c0:=(hst).rawCell 0;have c1:=(hst).rawCell 1;have c2:=(hst).rawCell 2;simp at c0 c1 c2;have r0:=(hst).rawFree 0;have r1:=(hst).rawFree 1;have r2:=(hst).rawFree 2;clear hst;go_wp2_with (go_at_call 173;(try clear c0 c1 c2 r0 r1 r2);(with_reducible refine(zJS s _ 99 vc ?_ HVC.out H.out).mono ?_);kernel_rfl;rintro e_ wn ⟨rfl,h⟩;have c0:=(h).rawCell 0;have c1:=(h).rawCell 1;have c2:=(h).rawCell 2;simp at c0 c1 c2;have r0:=(h).rawFree 0;have r1:=(h).rawFree 1;have r2:=(h).rawFree 2;replace H:=hQd h;clear h);go_roundw
    case rel=>exact .inr (.inr (.inr ⟨by go_num,H.out.rawSet 2 (.bool vc)⟩))
    case measure=>first|(simp[intOf];done)|(simp[intOf];omega)
  · have H:=hQd hst;clear hst;go_upto_region 6 with fail;have hs:=H.out.drew;have KEEP:=hQd (show ∀w',St W0 w' K (.raw rb #[.bool va,.bool vt,.bool vc] 137::L)→(w'.cell? ⟨rb,0,none⟩=some (.bool va)∧w'.cell? ⟨rb,1,none⟩=some (.bool vt)∧w'.cell? ⟨rb,2,none⟩=some (.bool vc))from fun w' hs=>⟨hs.rawCell 0,hs.rawCell 1,hs.rawCell 2⟩);clear H;refine wp_region_held_drew (S:=fun w'=>w'.cell? ⟨rb,0,none⟩=some (.bool va)∧w'.cell? ⟨rb,1,none⟩=some (.bool vt)∧w'.cell? ⟨rb,2,none⟩=some (.bool vc)) (by kernel_rfl) (KEEP.out _ hs) (fun hHeld=> ?_);refine tQ 0 ⟨some 17,.load 137 (.tmp 2),137,_,_,none⟩ ?_;simp only[Act.put,sA,sB,sC];refine tQ 1 ⟨some 18,.load 137 (.tmp 2),137,_,_,none⟩ ?_;simp only[Act.put,sA,sB,sC];refine tQ 3 ⟨some 20,.move (.tmp 0),9,_,_,none⟩ ?_;simp only[Act.put,sA,sB,sC];refine wpAnyH_ready (rs:=[2]) (by kernel_rfl) (by simp) (AllReadyH.cons (o:=⟨some 19,.call {callee:=.value (.func 89),args:= #[.tmp 18],argTypes:= #[137]},9,_,_,none⟩) rfl (fun KK hK=> ?_) AllReadyH.nil);go_simp;go_at_call 89;with_reducible refine(zPE va vt vc hs).mono ?_;rintro e wq ⟨rfl,hs⟩;refine hK.out _ _ (KEEP.out _ hs) (fun hHeld=> ?_);clear hK KK
    try simp only[Act.put,sA,sB,sC]
    refine tQ 4 ⟨some 21,.binOp .eql 9 (.tmp 19) (.tmp 20) 9,4,_,_,none⟩ ?_;simp only[Act.put,sA,sB,sC];refine wpAnyH_ready (rs:=[5]) (by kernel_rfl) (by simp) (AllReadyH.cons (o:=⟨none,.store 137 (.tmp 2) (.tmp 17),0,_,_,none⟩) rfl (fun KK hK=> ?_) AllReadyH.nil);rw[if_pos (by rfl)];refine wp_store_mid 137 (.tmp 2) (.tmp 17) rfl rb 0 #[.bool va,.bool vt,.bool vc] (by rfl) (by rfl) hs.there (by kernel_rfl) (by simp[Value.oneCell']) ?_;obtain⟨wz,ez,hs⟩:=hs.storeEx #[.bool va,.bool vt,.bool vc];rw[ez];clear ez;have hs:St W0 wz K (.raw rb #[.bool va,.bool vt,.bool vc] 137::L):=hs;refine hK.out _ _ (KEEP.out _ hs) (fun hHeld=> ?_);clear hK KK
    try simp only[Act.put]
    refine tQ 6 ⟨some 3,.assign (.tmp 21),4,_,_,none⟩ ?_;simp only[Act.put,sA,sB,sC];refine wpAnyH_done (by kernel_rfl) ?_ _;clear hHeld;have H:=hQd hs;clear hs;go_wp2_with fail;refine bodyPost_ret (zAX rfl _ _ rb [.bool va,.bool vt,.bool vc] _ rfl (zBO H.out) Tryz.underlying137 rfl (by kernel_rfl)) rfl ?_;exact⟨rfl,H.out.drop⟩
variable {W0 w:World}{K:Know}{L:List Res}
theorem zBy(nb:Nat)(cs:Array Value)(T:TypeId)(wb off cap ncap:Nat)(ws:List Bs)(vs:List Int)(n:Nat)(hw:n=ws.length)(hvs:zAf ws=some vs)(hn:cs.size=ws.length)(hl:ws.length≤1000000)(hx:∀x∈ws,x.length≤1000000)(hlib:K.has Know.lib)(hk:K.has (Know.strw wb off ws))(h:St W0 w K (.raw nb cs T::L)):
  Calls Tryz.prog 139 #[.slice (some ⟨nb,0,none⟩) n ncap,.slice (some ⟨wb,off,none⟩) n cap] w fun en w'=>en=.returned (.bool true)∧St W0 w' K (.raw nb (vs.map fun v=>Value.int .i64 v).toArray T::L):=by
 subst hw;refine(zMZ nb cs T wb off cap ncap ws hn hl hx hlib hk h).mono ?_;rintro e w' ⟨cs',rfl,h1,h2,h3⟩;rw[hvs];refine⟨rfl,?_⟩;have h4:=h2 vs hvs;rw[←h4];exact h3
theorem rd_cut(rd wb off cap:Nat)(v ch:Value)(c n:Int)(x:Bs)(hx:zBn x=some n)(hn:0≤n)(hxl:x.length≤1000000)(hlib:K.has Know.lib)(hk:K.has (Know.strw wb off [x]))(h:St W0 w K (.raw rd #[v,.int .i64 c,ch] 122::L)):
  Calls Tryz.prog 112 #[.pointer (some ⟨rd,0,none⟩),.slice (some ⟨wb,off,none⟩) 1 cap] w fun en w'=>en=.returned (.bool true)∧St W0 w' K (.raw rd #[v,.int .i64 n,ch] 122::L):=by
 obtain⟨nb,hnb⟩:∃b,w.heap.size=b:=⟨_,rfl⟩;have g1:=h.allocRaw #[.int .i64 0] 191;rw[hnb]at g1;have H:=hQd g1;have HK:=hQd hk;have HLIB:=hQd hlib;have HNS:=hQd (show zAf [x]=some [n] by show(match zBn x with|none=>none|some v=>(zAf []).map (v:: ·))=_;rw[hx];rfl);have HXL:=hQd (show ∀y∈[x],y.length≤1000000 from fun y hy=>by rw[List.mem_singleton.1 hy];exact hxl);have HL1:=hQd (show[x].length≤1000000 by simp);have q1:¬n<0:=by omega
 have q2:decide (n<0)=false:=decide_eq_false q1;clear h g1 hk hlib hx hxl hn;go_enter Tryz.func112,Tryz.ntmps112;go_wp2_with (go_at_call 139;(with_reducible refine(zBy nb #[.int .i64 0] 191 wb off cap 1 [x] [n] 1 rfl HNS.out rfl HL1.out HXL.out HLIB.out HK.out H.out).mono ?_);rintro e_ wn ⟨rfl,h⟩;have h:St W0 wn K (.raw nb #[.int .i64 n] 191::_):=h;have c0:=h.rawCell 0;simp at c0;have d0:=(h.p1).rawCell 0;have d1:=(h.p1).rawCell 1;have d2:=(h.p1).rawCell 2;simp at d0 d1 d2;have r0:=(h.p1).rawFree 0;have r1:=(h.p1).rawFree 1;have r2:=(h.p1).rawFree 2;replace H:=hQd h;clear h);go_ret;exact⟨rfl,H.out.p1.rawSet 1 (.int .i64 n) |>.p1 |>.drop⟩
theorem zN2:zDw Tryz.prog 30 (.agg #[.int .i64 0,.int .i64 0,.bool false,.bool false,.bool false,.int .i64 0,.int .i64 0,.int .i64 0,.int .i64 0,.int .i64 0,.int .i64 0,.slice none 0 0]) 12 96:=zBv (by kernel_rfl) rfl (by decide)
theorem zPO(n0 n1 n2 n3 n4 n5 n6 n7:Int)(va vt vc:Bool)(w:World):(Instr.buildSlice 22 1 #[(0,.agg #[.int .i64 n0,.int .i64 n1,.bool va,.bool vt,.bool vc,.int .i64 n2,.int .i64 n3,.int .i64 n4,.int .i64 n5,.int .i64 n6,.int .i64 n7,.slice none 0 0])]).run Tryz.prog w=.ok (.slice (some ⟨w.heap.size,0,none⟩) 1 1) (w.alloc (.cells #[.int .i64 n0,.int .i64 n1,.bool va,.bool vt,.bool vc,.int .i64 n2,.int .i64 n3,.int .i64 n4,.int .i64 n5,.int .i64 n6,.int .i64 n7,.slice none 0 0] 30 (0,0))):=by go_simp
theorem zF4{o:Oper}{ρ:Operand→Value}(ps:Array (Nat×Value))(v:Value)(w w':World)(ho:execOp ρ o=(do pure (Next.value (←Instr.buildSlice 22 1 ps))))(hb:(Instr.buildSlice 22 1 ps).run Tryz.prog w=.ok v w'):(execOp ρ o).run Tryz.prog w=.ok (.value v) w':=by
 rw[ho];simp[hb,Result.andThen]
theorem St.setExS{W0 w:World}{K:Know}{L:List Res}{b:Nat}{c:Array Value}{T:TypeId}(h:St W0 w K (.raw b c T::L))(j:Nat)(v:Value):∃wz,w.setCell ⟨b,j,none⟩ v=wz∧St W0 wz K (.raw b (c.setIfInBounds j v) T::L):=⟨_,rfl,h.rawSet j v⟩
set_option maxHeartbeats 8000000
theorem zOT(rd wb off cap:Nat)(v ch:Value)(c:Int)(n:Nat)(xs:List Value)(ws:List Bs)(s:Bs)(n0 n1 n2 n3 n4 n5 n6 n7:Int)(va vt vc ok:Bool)(hw:8=ws.length)(hns:zAf ws=some [n0,n1,n2,n3,n4,n5,n6,n7])(hva:hasB s 97=va)(hvt:hasB s 116=vt)(hvc:hasB s 99=vc)(hok:(letW va vt vc==s)=ok)(hn:n≤1000000)(hxl:∀y∈ws,y.length≤1000000)(hcap:9≤cap){W0 w:World}{K:Know}{L:List Res}(hlib:K.has Know.lib)(hk:K.has (Know.strw wb off (ws++[s])))(h:St W0 w K (.raw rd #[v,.int .i64 c,ch] 122::.row v 30 12 n xs::L)):
  Calls Tryz.prog 113 #[.pointer (some ⟨rd,0,none⟩),.slice (some ⟨wb,off,none⟩) 9 cap] w fun en w'=>∃v',en=.returned (.bool ok)∧St W0 w' K (.raw rd #[v',.int .i64 c,ch] 122::.row v' 30 12 (n+1) (xs++[.int .i64 n0,.int .i64 n1,.bool va,.bool vt,.bool vc,.int .i64 n2,.int .i64 n3,.int .i64 n4,.int .i64 n5,.int .i64 n6,.int .i64 n7,.slice none 0 0])::L):=by
 obtain⟨nb,hnb⟩:∃b,w.heap.size=b:=⟨_,rfl⟩;have g1:=h.allocRaw #[.int .i64 0,.int .i64 0,.int .i64 0,.int .i64 0,.int .i64 0,.int .i64 0,.int .i64 0,.int .i64 0] 135;rw[hnb]at g1
 have C8:=hQd (show ∀(w':World) (L':List Res),St W0 w' K L'→w'.cell? ⟨wb,off+8,none⟩=some (.string (bb s))from fun w' L' h'=>by
  have h9:=zFj hk h' 8 (by rw[List.length_append,←hw];simp);rw[List.getElem_append_right (by omega)]at h9
  simpa [←hw]using h9)
 have HK:=hQd hk;have HK8:=hQd (show K.has (Know.strw wb off ws)from by have h9:=zBk hk 8;rw[List.take_append_of_le_length (by omega),List.take_of_length_le (by omega)]at h9;exact h9);have H:=hQd g1;have HLIB:=hQd hlib;have HW:=hQd hw;have HNS:=hQd hns;have HXL:=hQd hxl;have HZ:=hQd (show((#[.int .i64 0,.int .i64 0,.int .i64 0,.int .i64 0,.int .i64 0,.int .i64 0,.int .i64 0,.int .i64 0]:Array Value)).size=ws.length from hw);have HL1:=hQd (show ws.length≤1000000 by omega);have HVA:=hQd hva;have HVT:=hQd hvt;have HVC:=hQd hvc;have HOK:=hQd hok;have HN:=hQd hn;have hc8:(8:Int)≤(cap:Int):=by omega
 clear h g1 hk hlib hns hxl hva hvt hvc hok hw hn;go_enter Tryz.func113,Tryz.ntmps113;go_upto_region 2 with fail;have hs:=H.out.drew;clear H;refine wp_region_held_drew (S:=fun _=>True) (by kernel_rfl) trivial (fun hHeld=> ?_);refine tQ 0 ⟨some 8,.move (.tmp 1),69,_,_,none⟩ ?_;simp only[Act.put,sA,sB,sC];refine tQ 1 ⟨some 9,.call {callee:=.builtin .len,args:= #[.tmp 8],argTypes:= #[69]},3,_,_,none⟩ ?_;simp only[Act.put,sA,sB,sC];refine tQ 2 ⟨some 10,.binOp .neq 3 (.tmp 9) (.const (Value.int IntKind.i64 9)) 3,4,_,_,none⟩ ?_;simp only[Act.put,sA,sB,sC];refine tQ 3 ⟨some 11,.move (.tmp 10),4,_,_,none⟩ ?_;simp only[Act.put,sA,sB,sC];refine tQ 4 ⟨some 12,.slice 135 (.tmp 5) none none none,23,_,_,some (3,false)⟩ ?_;simp only[Act.put,sA,sB,sC];refine tQ 5 ⟨some 13,.move (.tmp 1),69,_,_,some (3,false)⟩ ?_;simp only[Act.put,sA,sB,sC];refine tQ 6 ⟨some 14,.slice 69 (.tmp 13) none (some (.const (Value.int IntKind.i64 8))) none,69,_,_,some (3,false)⟩ ?_;simp only[Act.put,sA,sB,sC];refine wpAnyH_ready (rs:=[7]) (by kernel_rfl) (by simp) (AllReadyH.cons (o:=⟨some 15,.call {callee:=.value (.func 139),args:= #[.tmp 12,.tmp 14],argTypes:= #[23,69]},4,_,_,some (3,false)⟩) rfl (fun KK hK=> ?_) AllReadyH.nil);go_simp;go_at_call 139;with_reducible refine(zBy nb #[.int .i64 0,.int .i64 0,.int .i64 0,.int .i64 0,.int .i64 0,.int .i64 0,.int .i64 0,.int .i64 0] 135 wb off cap 8 ws [n0,n1,n2,n3,n4,n5,n6,n7] 8 HW.out HNS.out HZ.out HL1.out HXL.out HLIB.out HK8.out hs).mono ?_;rintro e wq ⟨rfl,hs⟩;refine hK.out _ _ (trivial) (fun hHeld=> ?_);clear hK KK
 try simp only[Act.put,sA,sB,sC]
 have hs:St W0 wq K (.raw nb #[.int .i64 n0,.int .i64 n1,.int .i64 n2,.int .i64 n3,.int .i64 n4,.int .i64 n5,.int .i64 n6,.int .i64 n7] 135::.raw rd #[v,.int .i64 c,ch] 122::.row v 30 12 n xs::L):=hs;refine tQ 8 ⟨some 16,.unOp UnOp.not 4 (.tmp 15),4,_,_,some (3,false)⟩ ?_;simp only[Act.put,sA,sB,sC];refine tQ 9 ⟨some 17,.pick (.tmp 11) (.const (Value.bool true)) (.tmp 16),4,_,_,none⟩ ?_;simp only[Act.put,sA,sB,sC];refine wpAnyH_done (by kernel_rfl) ?_ _;clear hHeld;have H:=hQd hs;clear hs;have c8:=C8.out _ _ H.out;go_upto_region 5 with (go_at_call 140;clear c8;(with_reducible refine(zLz s va vt vc HVA.out HVT.out HVC.out ok HOK.out H.out).mono ?_);rintro e_ wn ⟨rfl,h⟩;obtain⟨lb,hlb⟩:∃y,wn.heap.size=y:=⟨_,rfl⟩;have h:=h.allocRaw #[.bool va,.bool vt,.bool vc] 137;rw[hlb]at h;replace H:=hQd h;clear h);have hs:=H.out.drew;have K5:=hQd (show ∀(w':World) (L1 L2:List Res),St W0 w' K (.raw nb #[.int .i64 n0,.int .i64 n1,.int .i64 n2,.int .i64 n3,.int .i64 n4,.int .i64 n5,.int .i64 n6,.int .i64 n7] 135::L1)→St W0 w' K (.raw lb #[.bool va,.bool vt,.bool vc] 137::L2)→(w'.cell? ⟨nb,0,none⟩=some (.int .i64 n0)∧w'.cell? ⟨nb,1,none⟩=some (.int .i64 n1)∧w'.cell? ⟨nb,2,none⟩=some (.int .i64 n2)∧w'.cell? ⟨nb,3,none⟩=some (.int .i64 n3)∧w'.cell? ⟨nb,4,none⟩=some (.int .i64 n4)∧w'.cell? ⟨nb,5,none⟩=some (.int .i64 n5)∧w'.cell? ⟨nb,6,none⟩=some (.int .i64 n6)∧w'.cell? ⟨nb,7,none⟩=some (.int .i64 n7)∧w'.cell? ⟨lb,0,none⟩=some (.bool va)∧w'.cell? ⟨lb,1,none⟩=some (.bool vt)∧w'.cell? ⟨lb,2,none⟩=some (.bool vc))from fun w' L1 L2 h1 h2=>⟨h1.rawCell 0,h1.rawCell 1,h1.rawCell 2,h1.rawCell 3,h1.rawCell 4,h1.rawCell 5,h1.rawCell 6,h1.rawCell 7,h2.rawCell 0,h2.rawCell 1,h2.rawCell 2⟩);clear H;refine wp_region_held_drew (S:=fun w'=>w'.cell? ⟨nb,0,none⟩=some (.int .i64 n0)∧w'.cell? ⟨nb,1,none⟩=some (.int .i64 n1)∧w'.cell? ⟨nb,2,none⟩=some (.int .i64 n2)∧w'.cell? ⟨nb,3,none⟩=some (.int .i64 n3)∧w'.cell? ⟨nb,4,none⟩=some (.int .i64 n4)∧w'.cell? ⟨nb,5,none⟩=some (.int .i64 n5)∧w'.cell? ⟨nb,6,none⟩=some (.int .i64 n6)∧w'.cell? ⟨nb,7,none⟩=some (.int .i64 n7)∧w'.cell? ⟨lb,0,none⟩=some (.bool va)∧w'.cell? ⟨lb,1,none⟩=some (.bool vt)∧w'.cell? ⟨lb,2,none⟩=some (.bool vc)) (by kernel_rfl) (K5.out _ _ _ (hs.p1) (hs)) (fun hHeld=> ?_);refine tQ 0 ⟨some 25,.move (.tmp 0),165,_,_,none⟩ ?_;simp only[Act.put,sA,sB,sC];refine tQ 1 ⟨some 26,.move (.tmp 0),165,_,_,none⟩ ?_;simp only[Act.put,sA,sB,sC];refine tQ 2 ⟨some 27,.nilCheck (.tmp 26),0,_,_,none⟩ ?_;simp only[Act.put,sA,sB,sC];refine tQ 3 ⟨some 28,.fieldAddr 122 (.tmp 27) 0,0,_,_,none⟩ ?_;simp only[Act.put,sA,sB,sC];refine tQ 4 ⟨some 29,.fieldAddr 25 (.tmp 28) 0,0,_,_,none⟩ ?_;simp only[Act.put,sA,sB,sC];refine tQ 6 ⟨some 31,.indexAddr 135 (.tmp 5) (.const (Value.int IntKind.i64 0)),0,_,_,none⟩ ?_;simp only[Act.put,sA,sB,sC];refine tQ 7 ⟨some 32,.load 3 (.tmp 31),3,_,_,none⟩ ?_;simp only[Act.put,sA,sB,sC];refine tQ 8 ⟨some 33,.indexAddr 135 (.tmp 5) (.const (Value.int IntKind.i64 1)),0,_,_,none⟩ ?_;simp only[Act.put,sA,sB,sC];refine tQ 9 ⟨some 34,.load 3 (.tmp 33),3,_,_,none⟩ ?_;simp only[Act.put,sA,sB,sC];refine tQ 10 ⟨some 35,.indexAddr 135 (.tmp 5) (.const (Value.int IntKind.i64 2)),0,_,_,none⟩ ?_;simp only[Act.put,sA,sB,sC];refine tQ 11 ⟨some 36,.load 3 (.tmp 35),3,_,_,none⟩ ?_;simp only[Act.put,sA,sB,sC];refine tQ 12 ⟨some 37,.indexAddr 135 (.tmp 5) (.const (Value.int IntKind.i64 3)),0,_,_,none⟩ ?_;simp only[Act.put,sA,sB,sC];refine tQ 13 ⟨some 38,.load 3 (.tmp 37),3,_,_,none⟩ ?_;simp only[Act.put,sA,sB,sC];refine tQ 14 ⟨some 39,.indexAddr 135 (.tmp 5) (.const (Value.int IntKind.i64 4)),0,_,_,none⟩ ?_;simp only[Act.put,sA,sB,sC];refine tQ 15 ⟨some 40,.load 3 (.tmp 39),3,_,_,none⟩ ?_;simp only[Act.put,sA,sB,sC];refine tQ 16 ⟨some 41,.indexAddr 135 (.tmp 5) (.const (Value.int IntKind.i64 5)),0,_,_,none⟩ ?_;simp only[Act.put,sA,sB,sC];refine tQ 17 ⟨some 42,.load 3 (.tmp 41),3,_,_,none⟩ ?_;simp only[Act.put,sA,sB,sC];refine tQ 18 ⟨some 43,.indexAddr 135 (.tmp 5) (.const (Value.int IntKind.i64 6)),0,_,_,none⟩ ?_;simp only[Act.put,sA,sB,sC];refine tQ 19 ⟨some 44,.load 3 (.tmp 43),3,_,_,none⟩ ?_;simp only[Act.put,sA,sB,sC];refine tQ 20 ⟨some 45,.indexAddr 135 (.tmp 5) (.const (Value.int IntKind.i64 7)),0,_,_,none⟩ ?_;simp only[Act.put,sA,sB,sC];refine tQ 21 ⟨some 46,.load 3 (.tmp 45),3,_,_,none⟩ ?_;simp only[Act.put,sA,sB,sC];refine tQ 22 ⟨some 47,.indexAddr 137 (.tmp 6) (.const (Value.int IntKind.i64 0)),0,_,_,none⟩ ?_;simp only[Act.put,sA,sB,sC];refine tQ 23 ⟨some 48,.load 4 (.tmp 47),4,_,_,none⟩ ?_;simp only[Act.put,sA,sB,sC];refine tQ 24 ⟨some 49,.indexAddr 137 (.tmp 6) (.const (Value.int IntKind.i64 1)),0,_,_,none⟩ ?_;simp only[Act.put,sA,sB,sC];refine tQ 25 ⟨some 50,.load 4 (.tmp 49),4,_,_,none⟩ ?_;simp only[Act.put,sA,sB,sC];refine tQ 26 ⟨some 51,.indexAddr 137 (.tmp 6) (.const (Value.int IntKind.i64 2)),0,_,_,none⟩ ?_;simp only[Act.put,sA,sB,sC];refine tQ 27 ⟨some 52,.load 4 (.tmp 51),4,_,_,none⟩ ?_;simp only[Act.put,sA,sB,sC];refine tQ 28 ⟨some 53,.build 30 #[(0,.tmp 32),(1,.tmp 34),(5,.tmp 36),(6,.tmp 38),(7,.tmp 40),(8,.tmp 42),(9,.tmp 44),(10,.tmp 46),(2,.tmp 48),(3,.tmp 50),(4,.tmp 52)],30,_,_,none⟩ ?_;simp only[Act.put,sA,sB,sC];refine wpAnyH_ready (rs:=[5,29]) (by kernel_rfl) (by simp) (AllReadyH.cons (o:=⟨some 30,.load 22 (.tmp 29),22,_,_,none⟩) rfl (fun KK hK=> ?_) (AllReadyH.cons (o:=⟨some 54,.buildSlice 22 1 #[(0,.tmp 53)],22,_,_,none⟩) rfl (fun KK hK=> ?_) AllReadyH.nil))
 focus
  have z1:=hs.p2.rawCell 0;simp at z1;go_simp;refine hK.out _ _ (K5.out _ _ _ (hs.p1) (hs)) (fun hHeld=> ?_);clear hK KK
  try simp only[Act.put,sA,sB,sC]
  clear z1;refine wpAnyH_ready (rs:=[29]) (by kernel_rfl) (by simp) (AllReadyH.cons (o:=⟨some 54,.buildSlice 22 1 #[(0,.tmp 53)],22,_,_,none⟩) rfl (fun KK hK=> ?_) AllReadyH.nil);rw[if_pos (by rfl)];refine zBm (zF4 _ _ _ _ (by kernel_rfl) (zPO n0 n1 n2 n3 n4 n5 n6 n7 va vt vc _)) ?_;obtain⟨wy,b2,ey,eb,hs⟩:=hs.allocEx #[.int .i64 n0,.int .i64 n1,.bool va,.bool vt,.bool vc,.int .i64 n2,.int .i64 n3,.int .i64 n4,.int .i64 n5,.int .i64 n6,.int .i64 n7,.slice none 0 0] 30;rw[ey,eb];clear ey eb;refine hK.out _ _ (K5.out _ _ _ (hs.p2) (hs.p1)) (fun hHeld=> ?_);clear hK KK
  try simp only[Act.put,sA,sB,sC]
 rotate_left
 focus
  rw[if_pos (by rfl)];refine zBm (zF4 _ _ _ _ (by kernel_rfl) (zPO n0 n1 n2 n3 n4 n5 n6 n7 va vt vc _)) ?_;obtain⟨wy,b2,ey,eb,hs⟩:=hs.allocEx #[.int .i64 n0,.int .i64 n1,.bool va,.bool vt,.bool vc,.int .i64 n2,.int .i64 n3,.int .i64 n4,.int .i64 n5,.int .i64 n6,.int .i64 n7,.slice none 0 0] 30;rw[ey,eb];clear ey eb;refine hK.out _ _ (K5.out _ _ _ (hs.p2) (hs.p1)) (fun hHeld=> ?_);clear hK KK
  try simp only[Act.put,sA,sB,sC]
  refine wpAnyH_ready (rs:=[5]) (by kernel_rfl) (by simp) (AllReadyH.cons (o:=⟨some 30,.load 22 (.tmp 29),22,_,_,none⟩) rfl (fun KK hK=> ?_) AllReadyH.nil);have z1:=hs.p3.rawCell 0;simp at z1;go_simp;refine hK.out _ _ (K5.out _ _ _ (hs.p2) (hs.p1)) (fun hHeld=> ?_);clear hK KK
  try simp only[Act.put,sA,sB,sC]
  clear z1
 all_goals
  refine wpAnyH_ready (rs:=[30]) (by kernel_rfl) (by simp) (AllReadyH.cons (o:=⟨some 55,.call {callee:=.builtin .append,args:= #[.tmp 30,.tmp 54],argTypes:= #[22,22]},22,_,_,none⟩) rfl (fun KK hK=> ?_) AllReadyH.nil);have hs:=hs.p4.p1;rw[if_pos (by rfl)];refine zKd (.tmp 30) (.tmp 54) 22 rfl 30 Tryz.underlying22 zN2 _ _ _ (by rfl) b2 #[.int .i64 n0,.int .i64 n1,.bool va,.bool vt,.bool vc,.int .i64 n2,.int .i64 n3,.int .i64 n4,.int .i64 n5,.int .i64 n6,.int .i64 n7,.slice none 0 0] 30 hs (by rfl) rfl (by simp[Value.oneCell']) (by have:=HN.out;unfold maxLen;omega) (by have:=HN.out;omega) (fun v' w' h=> ?_);have hs:=h;clear h;obtain⟨qv,cv,hv⟩:=hs.rowAny;subst hv;refine hK.out _ _ (K5.out _ _ _ (hs.p2) (hs.p1)) (fun hHeld=> ?_);clear hK KK
  try simp only[Act.put,sA,sB,sC]
  refine tQ 31 ⟨some 56,.nilCheck (.tmp 25),0,_,_,none⟩ ?_;simp only[Act.put,sA,sB,sC];refine tQ 32 ⟨some 57,.fieldAddr 122 (.tmp 56) 0,0,_,_,none⟩ ?_;simp only[Act.put,sA,sB,sC];refine tQ 33 ⟨some 58,.fieldAddr 25 (.tmp 57) 0,0,_,_,none⟩ ?_;simp only[Act.put,sA,sB,sC];refine wpAnyH_ready (rs:=[34]) (by kernel_rfl) (by simp) (AllReadyH.cons (o:=⟨none,.store 22 (.tmp 58) (.tmp 55),0,_,_,none⟩) rfl (fun KK hK=> ?_) AllReadyH.nil);have hs:=hs.p3;have q1:=hs.rawFree 0;have z1:=hs.rawCell 0;simp at z1;rw[if_pos (by rfl)];refine zFR (w':=w'.setCell ⟨rd,0,none⟩ (.slice qv (n+1) cv)) (by go_simp) ?_;obtain⟨wz,ez,hs⟩:=hs.setExS 0 (.slice qv (n+1) cv);rw[ez];clear ez q1 z1;refine hK.out _ _ (K5.out _ _ _ (hs.p3) (hs.p2)) (fun hHeld=> ?_);clear hK KK
  try simp only[Act.put]
  refine wpAnyH_done (by kernel_rfl) ?_ _;clear hHeld;have H:=hQd hs;clear hs;go_wp2_with fail;go_ret;exact⟨rfl,_,H.out.p3.drop.p2.drop⟩
theorem zCb(nb:Nat)(cs:Array Value)(T:TypeId)(wb off cap ncap:Nat)(ws:List Bs)(n:Nat)(hw:n=ws.length)(hvs:zAf ws=none)(hn:cs.size=ws.length)(hl:ws.length≤1000000)(hx:∀x∈ws,x.length≤1000000)(hlib:K.has Know.lib)(hk:K.has (Know.strw wb off ws))(h:St W0 w K (.raw nb cs T::L)):
  Calls Tryz.prog 139 #[.slice (some ⟨nb,0,none⟩) n ncap,.slice (some ⟨wb,off,none⟩) n cap] w fun en w'=>en=.returned (.bool false)∧St W0 w' K L:=by
 subst hw;refine(zMZ nb cs T wb off cap ncap ws hn hl hx hlib hk h).mono ?_;rintro e w' ⟨cs',rfl,h1,h2,h3⟩;rw[hvs];exact⟨rfl,h3.drop⟩
theorem zIu(nb n m:Nat)(wb off cap ncap:Nat)(ws:List Bs)(hm:m=ws.length)(hne:m≠n)(h:St W0 w K L):
  Calls Tryz.prog 139 #[.slice (some ⟨nb,0,none⟩) n ncap,.slice (some ⟨wb,off,none⟩) m cap] w fun en w'=>en=.returned (.bool false)∧St W0 w' K L:=by
 subst hm;exact zJV nb n wb off cap ncap ws hne h
theorem zKg(nw:Nat)(hn:nw≤1000000)(w:World):(Instr.makeSlice 23 (.int .i64 (nw:Int)) (.int .i64 (nw:Int))).run Tryz.prog w=.ok (.slice (some ⟨w.heap.size,0,none⟩) nw nw) (w.alloc (.cells (madeCells #[Value.int .i64 0] nw) 3 (0,0))):=by
 have h:=run_make_row' 23 3 (.int .i64 0) 8 Tryz.underlying23 (by kernel_rfl) rfl .i64 .i64 nw (by omega) (by omega) w;have e:(madeCells (Value.int .i64 0).cells nw)=(madeCells #[Value.int .i64 0] nw):=rfl
 first|exact h|(rw[e]at h;exact h)|(simpa using h)
theorem zK6(nw:Nat):(madeCells #[Value.int .i64 0] nw).size=nw:=by simp[madeCells]
structure BtR where
  b:BatS
  l:List (RecS×Value)
  v:Value
def zC8 (b:BatS) (v:Value):List Value:=[.int .i64 b.base,.int .i64 b.leader,.bool b.app,.bool b.txn,.bool b.ctl,.int .i64 b.last,.int .i64 b.first,.int .i64 b.maxt,.int .i64 b.prod,.int .i64 b.epoch,.int .i64 b.seq,v]
def zAC (x:BtR):List Value:=zC8 x.b x.v
def RBt (cs:List Value) (x:BtR):Prop:=cs=zAC x
def Know.btrs (v:Value) (l:List BtR):Know:=(Know.flat RBt v 12 l).and (Know.all l fun x=>Know.recs x.v x.l)
inductive BSt
  |zero
  |bat (d:List BtR) (b:BatS)
  |recd (d:List BtR) (b:BatS) (l:List (RecS×Value)) (r:RecS)
def BSt.n:BSt→Nat
  | .zero=>0
  | .bat d _=>d.length+1
  | .recd d _ _ _=>d.length+1
def BSt.m:BSt→Nat
  | .recd _ _ l _=>l.length+1
  | _=>0
def BSt.p:BSt→Nat
  | .recd _ _ _ r=>r.hdrs.length
  | _=>0
def BSt.xs:BSt→Value→List Value
  | .zero,_=>[]
  | .bat d b,v=>d.flatMap zAC++zC8 b v
  | .recd d b _ _,v=>d.flatMap zAC++zC8 b v
def BSt.ys:BSt→Value→List Value
  | .recd _ _ l r,v=>l.flatMap zAW++zAW (r,v)
  | _,_=>[]
def BSt.zs:BSt→List Value
  | .recd _ _ _ r=>r.hdrs.flatMap hcells
  | _=>[]
def BSt.known (K:Know):BSt→Prop
  | .zero=>True
  | .bat d _=>∀x∈d,K.has (Know.recs x.v x.l)
  | .recd d _ l _=>(∀x∈d,K.has (Know.recs x.v x.l))∧∀x∈l,K.has (Know.flat RHdr x.2 3 x.1.hdrs)
def BSt.rows (s:BSt) (vB vR vH:Value) (L:List Res):List Res:=.row vB 30 12 s.n (s.xs vR)::.row vR 54 7 s.m (s.ys vH)::.row vH 73 3 s.p s.zs::L
theorem BSt.known.mono{K K':Know}{s:BSt}(h:s.known K)(hk:K'.has K):s.known K':=by
 cases s with
 |zero=>trivial
 |bat d b=>exact fun x hx=>Know.has_trans hk (h x hx)
 |recd d b l r=>exact⟨fun x hx=>Know.has_trans hk (h.1 x hx),fun x hx=>Know.has_trans hk (h.2 x hx)⟩
theorem zBR:∀d:List BtR,(d.flatMap zAC).length=d.length*12
  |[]=>rfl
  |x::t=>by rw[List.flatMap_cons,List.length_append,zBR t,List.length_cons];show 12+_=_;omega
theorem zB1:∀d:List (RecS×Value),(d.flatMap zAW).length=d.length*7
  |[]=>rfl
  |x::t=>by rw[List.flatMap_cons,List.length_append,zB1 t,List.length_cons];show 7+_=_;omega
theorem zPQ(d:List BtR)(b:BatS)(v:Value):(d.flatMap zAC++zC8 b v)[d.length*12+11]? =some v:=by
 rw[List.getElem?_append_right (by rw[zBR];omega),zBR,show d.length*12+11 - d.length*12=11 by omega]
 rfl
theorem xs_set(d:List BtR)(b:BatS)(v u:Value):(d.flatMap zAC++zC8 b v).set (d.length*12+11) u=d.flatMap zAC++zC8 b u:=by
 rw[List.set_append_right _ _ (by rw[zBR];omega),zBR,show d.length*12+11 - d.length*12=11 by omega]
 rfl
theorem ys_at(l:List (RecS×Value))(r:RecS)(v:Value):(l.flatMap zAW++zAW (r,v))[l.length*7+6]? =some v:=by
 rw[List.getElem?_append_right (by rw[zB1];omega),zB1,show l.length*7+6 - l.length*7=6 by omega]
 rfl
theorem ys_set(l:List (RecS×Value))(r:RecS)(v u:Value):(l.flatMap zAW++zAW (r,v)).set (l.length*7+6) u=l.flatMap zAW++zAW (r,u):=by
 rw[List.set_append_right _ _ (by rw[zB1];omega),zB1,show l.length*7+6 - l.length*7=6 by omega]
 rfl
theorem zCL{α:Type}(l:List α)(x:α)(f:α→List Value):(l++[x]).flatMap f=l.flatMap f++f x:=by simp
theorem shutH{vH:Value}{T:TypeId}{r:RecS}(h:St W0 w K (.row vH T 3 r.hdrs.length (r.hdrs.flatMap hcells)::L)):St W0 w (K.and (Know.flat RHdr vH 3 r.hdrs)) L:=
 h.freezeRow fun _ _=>⟨rfl,rfl⟩
theorem shutR{vR:Value}{T:TypeId}{l:List (RecS×Value)}(h:St W0 w K (.row vR T 7 l.length (l.flatMap zAW)::L))(hl:∀x∈l,K.has (Know.flat RHdr x.2 3 x.1.hdrs)):∃K',K'.has K∧K'.has (Know.recs vR l)∧St W0 w K' L:=by
 have h1:=h.freezeRow (R:=RRec) (f:=zAW) fun x _=>⟨rfl,rfl⟩
 refine⟨_,Know.has_left (Know.has_refl _),fun w F hw=>⟨hw.2,fun x hx=>hl x hx w F hw.1⟩,h1⟩
theorem shutB{vB:Value}{T:TypeId}{l:List BtR}(h:St W0 w K (.row vB T 12 l.length (l.flatMap zAC)::L))(hl:∀x∈l,K.has (Know.recs x.v x.l)):∃K',K'.has K∧K'.has (Know.btrs vB l)∧St W0 w K' L:=by
 have h1:=h.freezeRow (R:=RBt) (f:=zAC) fun x _=>⟨rfl,rfl⟩
 refine⟨_,Know.has_left (Know.has_refl _),fun w F hw=>⟨hw.2,fun x hx=>hl x hx w F hw.1⟩,h1⟩
theorem zNZ:zDw Tryz.prog 54 (.agg #[.int .i64 0,.int .i64 0,.bool false,.string ⟨#[]⟩,.bool false,.string ⟨#[]⟩,.slice none 0 0]) 7 88:=zBv (by kernel_rfl) rfl (by decide)
theorem zPM(t o:Int)(kn vn:Bool)(kd vd:ByteArray)(w:World):(Instr.buildSlice 28 1 #[(0,.agg #[.int .i64 t,.int .i64 o,.bool kn,.string kd,.bool vn,.string vd,.slice none 0 0])]).run Tryz.prog w=.ok (.slice (some ⟨w.heap.size,0,none⟩) 1 1) (w.alloc (.cells #[.int .i64 t,.int .i64 o,.bool kn,.string kd,.bool vn,.string vd,.slice none 0 0] 54 (0,0))):=by go_simp
theorem zF2{o:Oper}{ρ:Operand→Value}(ps:Array (Nat×Value))(v:Value)(w w':World)(ho:execOp ρ o=(do pure (Next.value (←Instr.buildSlice 28 1 ps))))(hb:(Instr.buildSlice 28 1 ps).run Tryz.prog w=.ok v w'):(execOp ρ o).run Tryz.prog w=.ok (.value v) w':=by
 rw[ho];simp[hb,Result.andThen]
theorem St.rowSetEx{W0 w:World}{K:Know}{L:List Res}{g n cap sz:Nat}{T:TypeId}{xs:List Value}(h:St W0 w K (.row (.slice (some ⟨g,0,none⟩) n cap) T sz n xs::L))(j:Nat)(v:Value):∃wz,w.setCell ⟨g,j,none⟩ v=wz∧St W0 wz K (.row (.slice (some ⟨g,0,none⟩) n cap) T sz n (xs.set j v)::L):=⟨_,rfl,h.rowSet j v⟩
theorem St.p6{W0 w:World}{K:Know}{a b c d e f g:Res}{L:List Res}(h:St W0 w K (a::b::c::d::e::f::g::L)):St W0 w K (g::a::b::c::d::e::f::L):=St.p5 (h.map fun _ h=>h.cons fun _ h=>h.cons fun _ h=>h.cons fun _ h=>h.cons fun _ h=>h.cons fun _=>Holds.swap)
theorem zAr{W0:World}{K:Know}{wb off:Nat}{ws:List Bs}(hk:K.has (Know.strw wb off ws))(j:Nat)(x:Bs)(hx:ws[j]? =some x):∀(w':World) (L':List Res),St W0 w' K L'→w'.cell? ⟨wb,off+j,none⟩=some (.string (bb x)):=fun w' L' h'=>by
  obtain⟨F,hF,_⟩:=h'.get;exact(hk _ _ hF).2.2 j x hx
theorem zJT(s a b:Bs)(f:Bool)(hc:Lib.cut s [10]=(a,b,f))(hs:s.length≤1000000)(hk:K.has Know.lib)(h:St W0 w K L):
 Calls Tryz.prog 80 #[.string (bb s),.string ⟨#[10]⟩] w fun e w'=>e=.returned (.tuple #[.string (bb a),.string (bb b),.bool f])∧St W0 w' K L:=sl_cut s [10] a b f hc hs hk h
theorem zIr(s:Bs)(ws:List Bs)(n:Nat)(hn:ws.length=n)(hw:zDc s=ws.map bb)(hs:s.length≤1000000)(hk:K.has Know.lib)(h:St W0 w K L):
  Calls Tryz.prog 82 #[.string (bb s),.string ⟨#[32]⟩] w fun e w'=>∃b,e=.returned (.slice (some ⟨b,0,none⟩) n n)∧St W0 w' K (.raw b (ws.map fun x=>Value.string (bb x)).toArray 9::L):=by
 subst hn;exact zOC s ws hw hs hk h
def zAI (s:Bs):Bool×Bs×Bool:=if s=[110,111,110,101]then(true,[],true)else(false,(hexV s).1,(hexV s).2)
inductive Said
  |chunks (l:List Int)
  |cut (n:Int)
  |bat (b:BatS)
  |recd (r:RecS)
  |hdr (h:HdrS)
def zDp (r:List Bs):Option BatS:=match zAf (r.take 8),r.drop 8 with
  |some [n0,n1,n2,n3,n4,n5,n6,n7],[t]=>if zNE t then some ⟨n0,n1,hasB t 97,hasB t 116,hasB t 99,n2,n3,n4,n5,n6,n7,[]⟩else none
  | _,_=>none
def zBW:List Bs→Option RecS
  |[a,b,kw,vw]=>match zAf [a,b]with
    |some [t,o]=>if (zAI kw).2.2 && (zAI vw).2.2 then some ⟨t,o,⟨(zAI kw).1,(zAI kw).2.1⟩,⟨(zAI vw).1,(zAI vw).2.1⟩,[]⟩else none
    | _=>none
  | _=>none
def zDn:List Bs→Option HdrS
  |[kw,vw]=>if (hexV kw).2 && (zAI vw).2.2 then some ⟨(hexV kw).1,⟨(zAI vw).1,(zAI vw).2.1⟩⟩else none
  | _=>none
def zDo:List Bs→Option Int
  |[x]=>match zBn x with
    |some n=>if n<0 then none else some n
    |none=>none
  | _=>none
def zAU (r:List Bs):Option (List Int):=if r=[]then none else zAf r
def zAO (n m:Nat) (c:Int) (ch:List Int):List Bs→Option Said
  |[]=>none
  |w::r=>if ch≠[]then none
    else if w=[99,104,117,110,107,115]then(zAU r).map .chunks
    else if c≠ -1 then none
    else if w=[99,117,116]then(zDo r).map .cut
    else if w=[98,97,116,99,104]then(zDp r).map .bat
    else if w=[114,101,99,111,114,100]then(if n=0 then none else(zBW r).map .recd)
    else if w=[104,101,97,100,101,114]then(if n=0∨m=0 then none else(zDn r).map .hdr)
    else none
def BSt.close:BSt→Value→Value→List BtR
  | .zero,_,_=>[]
  | .bat d b,vR,_=>d++[⟨b,[],vR⟩]
  | .recd d b l r,vR,vH=>d++[⟨b,l++[(r,vH)],vR⟩]
def BSt.put (s:BSt) (vR vH:Value):Said→BSt
  | .chunks _=>s
  | .cut _=>s
  | .bat b=> .bat (s.close vR vH) b
  | .recd r=>match s with
    | .zero=>s
    | .bat d b=> .recd d b [] r
    | .recd d b l r0=> .recd d b (l++[(r0,vH)]) r
  | .hdr h=>match s with
    | .recd d b l r=> .recd d b l ⟨r.time,r.off,r.key,r.val,r.hdrs++[h]⟩
    |s=>s
def zEw (c:Int):Said→Int
  | .cut n=>n
  | _=>c
def chOf (ch:List Int):Said→List Int
  | .chunks l=>l
  | _=>ch
def RInt (cs:List Value) (x:Int):Prop:=cs=[.int .i64 x]
def MemS (rd:Nat) (s:BSt) (c:Int) (ch:List Int) (W0 w:World) (K:Know) (L:List Res):Prop:=∃vB vR vH q cap,St W0 w K (.raw rd #[vB,.int .i64 c,.slice q ch.length cap] 122::s.rows vB vR vH L)∧s.known K∧K.has (Know.flat RInt (.slice q ch.length cap) 1 ch)
theorem zPL{x:Res}{s:BSt}{vB vR vH:Value}(hs:s.known K)(h:St W0 w K (x::s.rows vB vR vH L)):∃K',K'.has K∧(∀y∈s.close vR vH,K'.has (Know.recs y.v y.l))∧St W0 w K' (x::.row vB 30 12 (s.close vR vH).length ((s.close vR vH).flatMap zAC)::L):=by
 cases s with
 |zero=>exact⟨K,Know.has_refl _,(fun y hy=>by cases hy),(h.p2.drop).p2.drop⟩
 |bat d b=>
  have h1:St W0 w K (.row vR 54 7 ([]:List (RecS×Value)).length (([]:List (RecS×Value)).flatMap zAW)::x::.row vB 30 12 (d.length+1) (d.flatMap zAC++zC8 b vR)::L):=h.p3.drop.p2;obtain⟨K',hk,hr,h2⟩:=shutR h1 (fun y hy=>by cases hy);refine⟨K',hk,fun y hy=> ?_,?_⟩
  · rcases List.mem_append.1 hy with hy|hy
    · exact Know.has_trans hk (hs y hy)
    · rw[List.mem_singleton.1 hy];exact hr
  · have e:(BSt.close (.bat d b) vR vH).flatMap zAC=d.flatMap zAC++zC8 b vR:=zCL _ _ _;have e2:(BSt.close (.bat d b) vR vH).length=d.length+1:=by simp[BSt.close]
    rw[e,e2];exact h2
 |recd d b l r=>
  have h1:St W0 w K (.row vH 73 3 r.hdrs.length (r.hdrs.flatMap hcells)::x::.row vB 30 12 (d.length+1) (d.flatMap zAC++zC8 b vR)::.row vR 54 7 (l.length+1) (l.flatMap zAW++zAW (r,vH))::L):=h.p3;have h2:=shutH h1
  have h3:St W0 w (K.and (Know.flat RHdr vH 3 r.hdrs)) (.row vR 54 7 (l++[(r,vH)]).length ((l++[(r,vH)]).flatMap zAW)::x::.row vB 30 12 (d.length+1) (d.flatMap zAC++zC8 b vR)::L):=by
    rw[zCL,List.length_append];exact h2.p2
  obtain⟨K',hk,hr,h4⟩:=shutR h3 (fun y hy=>by
    rcases List.mem_append.1 hy with hy|hy
    · exact Know.has_left (hs.2 y hy)
    · rw[List.mem_singleton.1 hy];exact Know.has_right (Know.has_refl _))
  have hk2:K'.has K:=Know.has_trans hk (Know.has_left (Know.has_refl _));refine⟨K',hk2,fun y hy=> ?_,?_⟩
  · rcases List.mem_append.1 hy with hy|hy
    · exact Know.has_trans hk2 (hs.1 y hy)
    · rw[List.mem_singleton.1 hy];exact hr
  · have e:(BSt.close (.recd d b l r) vR vH).flatMap zAC=d.flatMap zAC++zC8 b vR:=zCL _ _ _;have e2:(BSt.close (.recd d b l r) vR vH).length=d.length+1:=by simp[BSt.close]
    rw[e,e2];exact h4
theorem closeR{x:Res}{d:List BtR}{b:BatS}{l:List (RecS×Value)}{r:RecS}{vB vR vH:Value}(hs:(BSt.recd d b l r).known K)(h:St W0 w K (x::(BSt.recd d b l r).rows vB vR vH L)):(∀y∈l++[(r,vH)],(K.and (Know.flat RHdr vH 3 r.hdrs)).has (Know.flat RHdr y.2 3 y.1.hdrs))∧St W0 w (K.and (Know.flat RHdr vH 3 r.hdrs)) (x::.row vB 30 12 (d.length+1) (d.flatMap zAC++zC8 b vR)::.row vR 54 7 (l++[(r,vH)]).length ((l++[(r,vH)]).flatMap zAW)::L):=by
 refine⟨fun y hy=> ?_,?_⟩
 · rcases List.mem_append.1 hy with hy|hy
   · exact Know.has_left (hs.2 y hy)
   · rw[List.mem_singleton.1 hy];exact Know.has_right (Know.has_refl _)
 · rw[zCL,List.length_append];exact shutH (r:=r) (show St W0 w K (.row vH 73 3 r.hdrs.length (r.hdrs.flatMap hcells)::x::.row vB 30 12 (d.length+1) (d.flatMap zAC++zC8 b vR)::.row vR 54 7 (l.length+1) (l.flatMap zAW++zAW (r,vH))::L)from h.p3)
def Came (rd:Nat) (s:BSt) (c:Int) (ch:List Int) (o:Option Said) (W0:World) (K:Know) (L:List Res) (b:Bool) (w':World):Prop:=∃K',K'.has K∧match o with
  |none=>b=false∧St W0 w' K' L
  |some k=>b=true∧∃vR vH,MemS rd (s.put vR vH k) (zEw c k) (chOf ch k) W0 w' K' L
theorem Came.no{rd:Nat}{s:BSt}{c:Int}{ch:List Int}{o:Option Said}{W0 w':World}{K:Know}{L:List Res}(ho:o=none)(h:St W0 w' K L):Came rd s c ch o W0 K L false w':=by
 subst ho;exact⟨K,Know.has_refl _,rfl,h⟩
theorem Came.no'{rd:Nat}{s:BSt}{c:Int}{ch:List Int}{o:Option Said}{W0 w':World}{K K':Know}{L:List Res}(ho:o=none)(hk:K'.has K)(h:St W0 w' K' L):Came rd s c ch o W0 K L false w':=by
 subst ho;exact⟨K',hk,rfl,h⟩
theorem Came.yes{rd:Nat}{s:BSt}{c:Int}{ch:List Int}{o:Option Said}{k:Said}{W0 w':World}{K K':Know}{L:List Res}(ho:o=some k)(hk:K'.has K)(vR vH:Value)(h:MemS rd (s.put vR vH k) (zEw c k) (chOf ch k) W0 w' K' L):Came rd s c ch o W0 K L true w':=by
 subst ho;exact⟨K',hk,rfl,vR,vH,h⟩
theorem shutI{cb:Nat}{vs:List Int}(h:St W0 w K (.raw cb (vs.map fun v=>Value.int .i64 v).toArray 3::L)):∃K',K'.has K∧K'.has (Know.flat RInt (.slice (some ⟨cb,0,none⟩) vs.length vs.length) 1 vs)∧St W0 w K' L:=by
 refine⟨_,Know.has_left (Know.has_refl _),Know.has_right (Know.has_refl _),h.freeze fun F S1 _ hr=> ?_⟩;refine⟨_,_,rfl,fun _=>⟨cb,0,rfl,.inr ⟨(hr.2 cb).2 rfl,zAy hr.1⟩,zAy hr.1,fun i hi=>⟨[.int .i64 vs[i]],rfl,rfl,fun f u hu=> ?_⟩⟩⟩
 rcases f with _|f
 · rw[zAx hr.1];simp at hu;simp[hi,hu]
 · simp at hu
theorem zAt{s:BSt}{vB vR vH:Value}(h:St W0 w K (s.rows vB vR vH L)):St W0 w K L:=h.drop.drop.drop
theorem list8{vs:List Int}(h:vs.length=8):∃n0 n1 n2 n3 n4 n5 n6 n7,vs=[n0,n1,n2,n3,n4,n5,n6,n7]:=by
 rcases vs with _|⟨n0,_|⟨n1,_|⟨n2,_|⟨n3,_|⟨n4,_|⟨n5,_|⟨n6,_|⟨n7,_|⟨n8,t⟩⟩⟩⟩⟩⟩⟩⟩⟩<;>simp at h
 exact⟨n0,n1,n2,n3,n4,n5,n6,n7,rfl⟩
theorem list2{vs:List Int}(h:vs.length=2):∃t o,vs=[t,o]:=by
 rcases vs with _|⟨n0,_|⟨n1,_|⟨n2,t⟩⟩⟩<;>simp at h
 exact⟨n0,n1,rfl⟩
theorem zNm(r:List Bs)(h:r.length≠9):zDp r=none:=by
 unfold zDp
 split
 · rename_i h1 h2
   exfalso
   have:=congrArg List.length h2;simp at this
   omega
 · rfl
theorem zIJ(ws:List Bs)(t:Bs)(h:8=ws.length):zDp (ws++[t])=match zAf ws with
    |some [n0,n1,n2,n3,n4,n5,n6,n7]=>if zNE t then some ⟨n0,n1,hasB t 97,hasB t 116,hasB t 99,n2,n3,n4,n5,n6,n7,[]⟩else none
    | _=>none:=by
  unfold zDp;rw[List.take_left' h.symm,List.drop_left' h.symm]
  cases hn:zAf ws with
  |none=>rfl
  |some vs=>
    obtain⟨n0,n1,n2,n3,n4,n5,n6,n7,rfl⟩:=list8 ((zBj ws vs hn).trans h.symm)
    rfl
theorem split9(r:List Bs)(h:r.length=9):∃ws t,r=ws++[t]∧8=ws.length:=by
 refine⟨r.take 8,r[8],?_,by simp;omega⟩;rw[←List.take_succ_eq_append_getElem (by omega:8<r.length),List.take_of_length_le (by omega)]
def zAe (c:UInt8):Bs→List Bs
  |[]=>[[]]
  |x::t=>if x=c then[]::zAe c t else match zAe c t with
    |[]=>[[x]]
    |h::r=>(x::h)::r
theorem zBB(c:UInt8):∀s:Bs,∃h r,zAe c s=h::r
  |[]=>⟨_,_,rfl⟩
  |x::t=>by
    obtain⟨h,r,e⟩:=zBB c t;unfold zAe
    by_cases hx:x=c
    · rw[if_pos hx];exact⟨_,_,rfl⟩
    · rw[if_neg hx,e];exact⟨_,_,rfl⟩
theorem zCV(c:UInt8)(x:UInt8)(t:Bs)(hx:x=c):zAe c (x::t)=[]::zAe c t:=by
 show(if x=c then[]::zAe c t else match zAe c t with|[]=>[[x]]|h::r=>(x::h)::r)=_
 rw[if_pos hx]
theorem zA1(c:UInt8)(x:UInt8)(t h:Bs)(r:List Bs)(hx:¬x=c)(e:zAe c t=h::r):zAe c (x::t)=(x::h)::r:=by
 show(if x=c then[]::zAe c t else match zAe c t with|[]=>[[x]]|h::r=>(x::h)::r)=_
 rw[if_neg hx,e]
theorem zFQ(c:UInt8):∀s:Bs,(Lib.index s [c]= -1∧zAe c s=[s])∨∃i:Nat,Lib.index s [c]=i∧i<s.length∧zAe c s=s.take i::zAe c (s.drop (i+1))
  |[]=> .inl ⟨rfl,rfl⟩
  |x::t=>by
    by_cases hx:x=c
    · refine .inr ⟨0,?_,by simp,?_⟩
      · unfold Lib.index;rw[if_pos (by simp[List.isPrefixOf,hx])];rfl
      · rw[zCV c x t hx];rfl
    · have h0:([c]:Bs).isPrefixOf (x::t)=false:=by
        have:(c==x)=false:=by rw[beq_eq_false_iff_ne];exact fun h=>hx h.symm
        simp[List.isPrefixOf,this]
      rcases zFQ c t with ⟨h1,h2⟩|⟨i,h1,h2,h3⟩
      · refine .inl ⟨?_,?_⟩
        · unfold Lib.index;rw[h0,h1];rfl
        · rcases t with _|⟨y,t⟩
          · exact zA1 c x [] [] [] hx rfl
          · exact zA1 c x _ _ _ hx h2
      · refine .inr ⟨i+1,?_,by simp;omega,?_⟩
        · unfold Lib.index;rw[h0,h1];have:((i:Int)== -1)=false:=by rw[beq_eq_false_iff_ne];omega
          simp[this]
        · exact zA1 c x _ _ _ hx h3
theorem zN6(c:UInt8)(s:Bs):(zAe c s=[s]∧Lib.cut s [c]=(s,[],false))∨∃i,i<s.length∧zAe c s=s.take i::zAe c (s.drop (i+1))∧Lib.cut s [c]=(s.take i,s.drop (i+1),true):=by
 rcases zFQ c s with ⟨h1,h2⟩|⟨i,h1,h2,h3⟩
 · exact .inl ⟨h2,by unfold Lib.cut;rw[h1];rfl⟩
 · refine .inr ⟨i,h2,h3,?_⟩;unfold Lib.cut;rw[h1,if_pos (by omega)]
   rfl
theorem zEG(c:UInt8):∀(n:Nat) (s:Bs),s.length≤n→Lib.splitK [c] 0 (Lib.count s [c]) s=zAe c s
  |0,s,h=>by
    obtain rfl:s=[]:=List.length_eq_zero_iff.1 (by omega)
    rfl
  |n+1,s,h=>by
    rcases zFQ c s with ⟨h1,h2⟩|⟨i,h1,h2,h3⟩
    · rw[Lib.count_miss h1,h2];rfl
    · rw[Lib.count_hit (by simp) h1,Nat.add_comm,h3];have hm:¬(Lib.index s [c]== -1)=true:=fun e=>by have:=beq_iff_eq.1 e;omega
      have e:(Lib.index s [c]).toNat=i:=by omega
      unfold Lib.splitK;rw[if_neg hm,e];have ih:=zEG c n (s.drop (i+1)) (by simp;omega)
      show s.take (i+0)::Lib.splitK [c] 0 (Lib.count (s.drop (i+1)) [c]) (s.drop (i+1))=_
      rw[ih]
      rfl
theorem zIq(c:UInt8)(s:Bs):Lib.splitB (bb [c]) 0 (Lib.countB (bb s) (bb [c])) (bb s)=(zAe c s).map bb:=by
 have d1:(bb s).data.toList=s:=by simp
 have d2:(bb [c]).data.toList=[c]:=by simp
 have h:=Lib.splitB_data (bb [c]) 0 (Lib.countB (bb s) (bb [c])) (bb s);unfold Lib.countB at h ⊢;rw[d1,d2]at h ⊢;rw[zEG c s.length s (Nat.le_refl _)]at h;rw[←h,List.map_map]
 conv=>lhs;rw[←List.map_id (Lib.splitB _ _ _ _)]
 refine List.map_congr_left fun x _=> ?_
 show x=bb x.data.toList
 rcases x with ⟨⟨l⟩⟩
 rfl
theorem zHe(s:Bs):zDc s=(zAe 32 s).map bb:=zIq 32 s
def zAB (c:UInt8):List Bs→Bs
  |[]=>[]
  |[w]=>w
  |w::t=>w++c::zAB c t
theorem zC0(c:UInt8)(w h:Bs)(t:List Bs):zAB c (w::h::t)=w++c::zAB c (h::t):=rfl
theorem zCZ(c:UInt8):∀s:Bs,zAB c (zAe c s)=s
  |[]=>rfl
  |x::t=>by
    have ih:=zCZ c t;obtain⟨h,r,e⟩:=zBB c t
    by_cases hx:x=c
    · rw[zCV c x t hx,e,zC0,←e,ih,hx];rfl
    · rw[zA1 c x t h r hx e];rw[e]at ih
      rcases r with _|⟨h2,r⟩
      · show x::h=x::t
        rw[show h=t from ih]
      · show zAB c ((x::h)::h2::r)=_
        rw[zC0]at ih ⊢;rw[←ih];rfl
theorem zEm(c:UInt8):∀s:Bs,(zAe c s).length≤s.length+1∧∀y∈zAe c s,y.length≤s.length
  |[]=>⟨Nat.le_refl _,fun y hy=>by rw[List.mem_singleton.1 hy];exact Nat.le_refl _⟩
  |x::t=>by
    obtain⟨h1,h2⟩:=zEm c t;obtain⟨h,r,e⟩:=zBB c t
    by_cases hx:x=c
    · rw[zCV c x t hx];exact⟨by simp;omega,fun y hy=>by rcases List.mem_cons.1 hy with rfl|hy;exact Nat.zero_le _;have:=h2 y hy;simp;omega⟩
    · rw[zA1 c x t h r hx e];rw[e]at h1 h2;refine⟨by simp at h1 ⊢;omega,fun y hy=> ?_⟩
      rcases List.mem_cons.1 hy with rfl|hy
      · have:=h2 h (by simp);simp;omega
      · have:=h2 y (by simp[hy]);simp;omega
def nOf (n:Nat):Said→Nat
  | .bat _=>n+1
  | _=>n
def mOf (m:Nat):Said→Nat
  | .bat _=>0
  | .recd _=>m+1
  | _=>m
def zBF (n m:Nat) (c:Int) (ch:List Int) (ln:Nat):List Bs→Nat
  |[]=>0
  |[l]=>if l=[]then 0 else ln
  |l::r=>match zAO n m c ch (zAe 32 l)with
    |none=>ln
    |some k=>zBF (nOf n k) (mOf m k) (zEw c k) (chOf ch k) (ln+1) r
def numW (n:Int):Bs:=Lib.itoa n
def zAM (b:BlobS):Bs:=if b.null then[110,111,110,101]else hexW b.data
def hdrT (h:HdrS):Bs:=[104,101,97,100,101,114]++32::(hexW h.key++32::(zAM h.val++[10]))
def recH (r:RecS):Bs:=[114,101,99,111,114,100]++32::(numW r.time++32::(numW r.off++32::(zAM r.key++32::(zAM r.val++[10]))))
def recT (r:RecS):Bs:=recH r++r.hdrs.flatMap hdrT
def zI0 (l:List Int):Bs:=l.flatMap fun n=>32::numW n
def batN (b:BatS):List Int:=[b.base,b.leader,b.last,b.first,b.maxt,b.prod,b.epoch,b.seq]
def batL (b:BatS):Bs:=[98,97,116,99,104]++(zI0 (batN b)++32::(letW b.app b.txn b.ctl++[10]))
def btT (x:BtR):Bs:=batL x.b++x.l.flatMap fun y=>recT y.1
def cutT (c:Int):Bs:=if c<0 then[]else[99,117,116]++32::(numW c++[10])
def chT (l:List Int):Bs:=if l=[]then[]else[99,104,117,110,107,115]++(zI0 l++[10])
def BSt.txt:BSt→Bs
  | .zero=>[]
  | .bat d b=>d.flatMap btT++batL b
  | .recd d b l r=>d.flatMap btT++(batL b++(l.flatMap (fun y=>recT y.1)++recT r))
def txtS (s:BSt) (c:Int) (ch:List Int):Bs:=s.txt++(cutT c++chT ch)
def oddB (b:BlobS):Bool:=b.null && !b.data.isEmpty
def zCe (r:RecS):Prop:=oddB r.key=false∧oddB r.val=false∧(∀h∈r.hdrs,oddB h.val=false)∧Rn r.time∧Rn r.off
def batR (b:BatS):Prop:=∀n∈batN b,Rn n
def zBG (x:BtR):Prop:=batR x.b∧∀y∈x.l,zCe y.1
def BSt.fine:BSt→Prop
  | .zero=>True
  | .bat d b=>(∀x∈d,zBG x)∧batR b
  | .recd d b l r=>(∀x∈d,zBG x)∧batR b∧(∀y∈l,zCe y.1)∧zCe r
theorem zI2{x:Bs}{v:Int}(h:zBn x=some v):numW v=x:=by
 unfold zBn at h
 split at h
 · rename_i e
   injection h with h;subst h;exact e
 · cases h
theorem zEn:∀{l:List Bs}{vs:List Int},zAf l=some vs→vs.map numW=l
  |[],vs,h=>by unfold zAf at h;injection h with h;subst h;rfl
  |a::t,vs,h=>by
    unfold zAf at h
    cases ha:zBn a with
    |none=>rw[ha]at h;cases h
    |some x=>
      rw[ha]at h;simp only at h
      cases ht:zAf t with
      |none=>rw[ht]at h;cases h
      |some y=>rw[ht]at h;injection h with h;subst h;rw[List.map_cons,zI2 ha,zEn ht]
theorem zGZ{l:List Bs}{vs:List Int}(h:zAf l=some vs):zI0 vs=l.flatMap fun w=>32::w:=by
 rw[←zEn h,List.flatMap_map];rfl
theorem zI1{x:Bs}{v:Int}(h:zBn x=some v):Rn v:=by
 unfold zBn at h
 split at h
 · injection h with h;subst h;exact zJK x
 · cases h
theorem zCY:∀{l:List Bs}{vs:List Int},zAf l=some vs→∀v∈vs,Rn v
  |[],vs,h=>by unfold zAf at h;injection h with h;subst h;exact fun v hv=>by cases hv
  |a::t,vs,h=>by
    unfold zAf at h
    cases ha:zBn a with
    |none=>rw[ha]at h;cases h
    |some x=>
      rw[ha]at h;simp only at h
      cases ht:zAf t with
      |none=>rw[ht]at h;cases h
      |some y=>
        rw[ht]at h;injection h with h;subst h;intro v hv
        rcases List.mem_cons.1 hv with rfl|hv
        · exact zI1 ha
        · exact zCY ht v hv
theorem zA6(w:Bs):∀r:List Bs,zAB 32 (w::r)=w++r.flatMap fun w=>32::w
  |[]=>by simp[zAB]
  |h::t=>by
    rw[zC0,zA6 h t,List.flatMap_cons]
    rfl
theorem zLc{w d:Bs}(h:hexV w=(d,true)):hexW d=w:=by
 unfold hexV at h
 cases hr:zHO w with
 |none=>rw[hr]at h;cases h
 |some c=>rw[hr]at h;injection h with h1 h2;subst h1;exact zNJ hr
theorem zOl{w d:Bs}{nl:Bool}(h:zAI w=(nl,d,true)):zAM ⟨nl,d⟩=w∧oddB ⟨nl,d⟩=false:=by
 unfold zAI at h
 by_cases hw:w=[110,111,110,101]
 · rw[if_pos hw]at h;injection h with h1 h2;injection h2 with h2 h3;subst h1 h2 hw;exact⟨rfl,rfl⟩
 · rw[if_neg hw]at h;injection h with h1 h2;injection h2 with h2 h3;subst h1;refine⟨?_,rfl⟩
   show hexW d=w
   exact zLc (Prod.ext h2 h3)
theorem zNI(w:Bs)(h:(hexV w).2=true):hexW (hexV w).1=w:=zLc (Prod.ext rfl h)
theorem zEA(w:Bs)(h:(zAI w).2.2=true):zAM ⟨(zAI w).1,(zAI w).2.1⟩=w∧oddB ⟨(zAI w).1,(zAI w).2.1⟩=false:=zOl (Prod.ext rfl (Prod.ext rfl h))
theorem zNk{r:List Bs}{h:HdrS}(e:zDn r=some h):hdrT h=[104,101,97,100,101,114]++(r.flatMap fun w=>32::w)++[10]∧oddB h.val=false:=by
 unfold zDn at e
 split at e
 · rename_i kw vw
   split at e
   · rename_i hb
     rw[Bool.and_eq_true]at hb;injection e with e;subst e;obtain⟨h1,h2⟩:=zEA vw hb.2;refine⟨?_,h2⟩;unfold hdrT;simp only;rw[zNI kw hb.1,h1]
     simp
   · cases e
 · cases e
theorem zNj{r:List Bs}{x:RecS}(e:zBW r=some x):recT x=[114,101,99,111,114,100]++(r.flatMap fun w=>32::w)++[10]∧zCe x:=by
 unfold zBW at e
 split at e
 · rename_i a b kw vw
   split at e
   · rename_i t o hn
     split at e
     · rename_i hb
       rw[Bool.and_eq_true]at hb;injection e with e;subst e;obtain⟨h1,h2⟩:=zEA kw hb.1;obtain⟨h3,h4⟩:=zEA vw hb.2;have hg:=zCY hn;refine⟨?_,h2,h4,(fun h hh=>by cases hh),hg t (by simp),hg o (by simp)⟩;have h5:=zEn hn;simp only[List.map_cons,List.map_nil,List.cons.injEq,and_true]at h5;unfold recT recH;simp only;rw[h5.1,h5.2,h1,h3]
       simp
     · cases e
   · cases e
 · cases e
theorem zII{r:List Bs}{b:BatS}(e:zDp r=some b):batL b=[98,97,116,99,104]++(r.flatMap fun w=>32::w)++[10]∧batR b:=by
 unfold zDp at e
 split at e
 · rename_i n0 n1 n2 n3 n4 n5 n6 n7 t hn hd
   split at e
   · rename_i hl
     injection e with e;subst e;have h1:=zGZ hn;have h2:letW (hasB t 97) (hasB t 116) (hasB t 99)=t:=eq_of_beq hl;have hg:=zCY hn;refine⟨?_,fun n hn=>hg n (by simp only[batN,List.mem_cons,List.not_mem_nil,or_false]at hn ⊢;omega)⟩;unfold batL batN;simp only;rw[h1,h2];have h3:r=r.take 8++[t]:=by rw[←hd,List.take_append_drop]
     conv=>rhs;rw[h3]
     simp
   · cases e
 · cases e
theorem zNl{r:List Bs}{n:Int}(e:zDo r=some n):cutT n=[99,117,116]++(r.flatMap fun w=>32::w)++[10]∧0≤n∧Rn n:=by
 unfold zDo at e
 split at e
 · rename_i x
   split at e
   · rename_i v hv
     split at e
     · cases e
     · rename_i h0
       injection e with e;subst e;refine⟨?_,by omega,zI1 hv⟩;unfold cutT;rw[if_neg h0,zI2 hv]
       simp
   · cases e
 · cases e
theorem zEI{r:List Bs}{l:List Int}(e:zAU r=some l):chT l=[99,104,117,110,107,115]++(r.flatMap fun w=>32::w)++[10]∧∀v∈l,Rn v:=by
 unfold zAU at e
 split at e
 · cases e
 · rename_i h0
   have h1:=zBj _ _ e;refine⟨?_,zCY e⟩;unfold chT;rw[if_neg (by intro h;subst h;exact h0 (List.length_eq_zero_iff.1 h1.symm)),zGZ e]
   simp
theorem zJp(s:BSt)(vR vH:Value):(s.close vR vH).flatMap btT=s.txt:=by
 cases s with
 |zero=>rfl
 |bat d b=>show(d++[_]).flatMap btT=_;rw[List.flatMap_append];simp[btT,BSt.txt]
 |recd d b l r=>show(d++[_]).flatMap btT=_;rw[List.flatMap_append];simp[btT,BSt.txt]
theorem zHa(s:BSt)(vR vH:Value)(h:s.fine):∀x∈s.close vR vH,zBG x:=by
 cases s with
 |zero=>exact fun x hx=>by cases hx
 |bat d b=>
  intro x hx
  rcases List.mem_append.1 hx with hx|hx
  · exact h.1 x hx
  · rw[List.mem_singleton.1 hx];exact⟨h.2,fun y hy=>by cases hy⟩
 |recd d b l r=>
  intro x hx
  rcases List.mem_append.1 hx with hx|hx
  · exact h.1 x hx
  · rw[List.mem_singleton.1 hx];refine⟨h.2.1,fun y hy=> ?_⟩
    rcases List.mem_append.1 hy with hy|hy
    · exact h.2.2.1 y hy
    · rw[List.mem_singleton.1 hy];exact h.2.2.2
theorem zQy(s:BSt)(vR vH:Value):(s.close vR vH).length=s.n:=by cases s<;>simp[BSt.close,BSt.n]
theorem zBr(n m:Nat)(c:Int)(ch:List Int)(w:Bs)(r:List Bs):zAO n m c ch (w::r)=if ch≠[]then none
    else if w=[99,104,117,110,107,115]then(zAU r).map .chunks
    else if c≠ -1 then none
    else if w=[99,117,116]then(zDo r).map .cut
    else if w=[98,97,116,99,104]then(zDp r).map .bat
    else if w=[114,101,99,111,114,100]then(if n=0 then none else(zBW r).map .recd)
    else if w=[104,101,97,100,101,114]then(if n=0∨m=0 then none else(zDn r).map .hdr)
    else none:=rfl
theorem zO8(s:BSt)(c:Int)(ch:List Int)(l:Bs)(k:Said)(vR vH:Value)(hc: -1≤c)(hcr:Rn c)(hcs:∀v∈ch,Rn v)(hf:s.fine)(e:zAO s.n s.m c ch (zAe 32 l)=some k):
   txtS (s.put vR vH k) (zEw c k) (chOf ch k)=txtS s c ch++(l++[10])∧(s.put vR vH k).n=nOf s.n k∧(s.put vR vH k).m=mOf s.m k∧(s.put vR vH k).p≤s.p+1∧ -1≤zEw c k∧Rn (zEw c k)∧(∀v∈chOf ch k,Rn v)∧(s.put vR vH k).fine:=by
 obtain⟨w,r,hp⟩:=zBB 32 l;have hl:l=w++r.flatMap fun w=>32::w:=by rw[←zCZ 32 l,hp,zA6]
 rw[hp,zBr]at e
 split at e
 · cases e
 rename_i hch
 have hch:ch=[]:=Classical.not_not.1 hch;subst hch
 split at e
 · rename_i hw
   cases h1:zAU r with
   |none=>rw[h1]at e;cases e
   |some v=>
    rw[h1]at e;injection e with e;subst e;refine⟨?_,rfl,rfl,Nat.le_succ _,hc,hcr,(zEI h1).2,hf⟩
    show s.txt++(cutT c++chT v)=s.txt++(cutT c++chT [])++_
    rw[(zEI h1).1,hl,hw];simp[chT]
 split at e
 · cases e
 rename_i hc1
 have hc1:c= -1:=Classical.not_not.1 hc1;subst hc1;have t0:txtS s (-1) []=s.txt:=by simp[txtS,cutT,chT]
 split at e
 · rename_i hw
   cases h1:zDo r with
   |none=>rw[h1]at e;cases e
   |some v=>
    rw[h1]at e;injection e with e;subst e;obtain⟨h2,h3,h4⟩:=zNl h1;refine⟨?_,rfl,rfl,Nat.le_succ _,(show -1≤v by omega),h4,hcs,hf⟩;rw[t0]
    show s.txt++(cutT v++chT [])=_
    rw[h2,hl,hw];simp[chT]
 split at e
 · rename_i hw
   cases h1:zDp r with
   |none=>rw[h1]at e;cases e
   |some v=>
    rw[h1]at e;injection e with e;subst e;refine⟨?_,by show(s.close vR vH).length+1=s.n+1;rw[zQy],rfl,Nat.zero_le _,hc,hcr,hcs,zHa s vR vH hf,(zII h1).2⟩;rw[t0]
    show(BSt.bat (s.close vR vH) v).txt++(cutT (-1)++chT [])=_
    show((s.close vR vH).flatMap btT++batL v)++(cutT (-1)++chT [])=_
    rw[zJp,(zII h1).1,hl,hw];simp[chT,cutT]
 split at e
 · rename_i hw
   split at e
   · cases e
   rename_i hn
   cases h1:zBW r with
   |none=>rw[h1]at e;cases e
   |some v=>
    rw[h1]at e;injection e with e;subst e;obtain⟨h2,h3⟩:=zNj h1
    have h0:v.hdrs.length=0:=by
     unfold zBW at h1
     split at h1
     · split at h1
       · split at h1
         · injection h1 with h1;subst h1;rfl
         · cases h1
       · cases h1
     · cases h1
    cases s with
    |zero=>exact absurd rfl hn
    |bat d b=>
     refine⟨?_,rfl,rfl,(show v.hdrs.length≤_ by omega),hc,hcr,hcs,hf.1,hf.2,(fun y hy=>by cases hy),h3⟩;rw[t0]
     show(d.flatMap btT++(batL b++(([]:List (RecS×Value)).flatMap (fun y=>recT y.1)++recT v)))++(cutT (-1)++chT [])=_
     rw[h2,hl,hw];simp[chT,cutT,BSt.txt]
    |recd d b l0 r0=>
     refine⟨?_,rfl,by show(l0++[_]).length+1=_;simp[mOf,BSt.m],(show v.hdrs.length≤_ by omega),hc,hcr,hcs,hf.1,hf.2.1,(fun y hy=> ?_),h3⟩
     · rw[t0]
       show(d.flatMap btT++(batL b++((l0++[(r0,vH)]).flatMap (fun y=>recT y.1)++recT v)))++(cutT (-1)++chT [])=_
       rw[h2,hl,hw];simp[chT,cutT,BSt.txt]
     · rcases List.mem_append.1 hy with hy|hy
       · exact hf.2.2.1 y hy
       · rw[List.mem_singleton.1 hy];exact hf.2.2.2
 split at e
 · rename_i hw
   split at e
   · cases e
   rename_i hn
   cases h1:zDn r with
   |none=>rw[h1]at e;cases e
   |some v=>
    rw[h1]at e;injection e with e;subst e;obtain⟨h2,h3⟩:=zNk h1
    cases s with
    |zero=>exact absurd (.inl rfl) hn
    |bat d b=>exact absurd (.inr rfl) hn
    |recd d b l0 r0=>
     refine⟨?_,rfl,rfl,(show(r0.hdrs++[v]).length≤r0.hdrs.length+1 by simp),hc,hcr,hcs,hf.1,hf.2.1,hf.2.2.1,hf.2.2.2.1,hf.2.2.2.2.1,(fun h hh=> ?_),hf.2.2.2.2.2.2⟩
     · rw[t0]
       show(d.flatMap btT++(batL b++(l0.flatMap (fun y=>recT y.1)++(recH r0++(r0.hdrs++[v]).flatMap hdrT))))++(cutT (-1)++chT [])=_
       rw[List.flatMap_append];have h9:[v].flatMap hdrT=hdrT v:=by simp
       rw[h9,h2,hl,hw];simp[chT,cutT,BSt.txt,recT]
     · rcases List.mem_append.1 hh with hh|hh
       · exact hf.2.2.2.2.2.1 h hh
       · rw[List.mem_singleton.1 hh];exact h3
 · cases e
theorem zDV{u:Nat}(h:u<10):Lib.decDigits u=[UInt8.ofNat (48+u)]:=by rw[Lib.decDigits,dif_pos h]
theorem zHZ(v:Nat)(h:v≤9223372036854775807):(Lib.decDigits v).length≤29:=by
 have h1:=Lib.itoa_length_le v (by omega) (by omega);rw[Lib.itoa_nonneg]at h1
 omega
theorem zH0{u:Nat}(h:¬u<10):Lib.decDigits u=Lib.decDigits (u / 10)++[UInt8.ofNat (48+u % 10)]:=by rw[Lib.decDigits,dif_neg h]
theorem zDU(d:Nat)(h:d<10):(UInt8.ofNat (48+d)).toNat=48+d:=by rw[UInt8.toNat_ofNat'];omega
theorem zIV:∀(n u:Nat),u≤n→u≤9223372036854775808→∀r:Bs,Lib.parseUint10 0 (Lib.decDigits u++r)=Lib.parseUint10 u r
  |0,u,h,hu,r=>by
    obtain rfl:u=0:=by omega
    rw[zDV (by omega)]
    rfl
  |n+1,u,h,hu,r=>by
    by_cases hs:u<10
    · rw[zDV hs]
      show Lib.parseUint10 0 (UInt8.ofNat (48+u)::r)=_
      unfold Lib.parseUint10;rw[zDU u hs,if_pos (by omega),if_neg (by omega),if_neg (by omega),show 0*10+(48+u - 48)=u by omega]
      cases r<;>rfl
    · rw[zH0 hs,List.append_assoc,zIV n (u / 10) (by omega) (by omega)]
      show Lib.parseUint10 (u / 10) (UInt8.ofNat (48+u % 10)::r)=_
      conv=>lhs;unfold Lib.parseUint10
      rw[zDU (u % 10) (by omega),if_pos (by omega),if_neg (by omega),if_neg (by omega),show u / 10*10+(48+u % 10 - 48)=u by omega]
theorem zPK(u:Nat):∃(d:Nat) (r:Bs),d<10∧Lib.decDigits u=UInt8.ofNat (48+d)::r:=by
 induction u using Nat.strongRecOn with
 | _ u ih=>
  by_cases hs:u<10
  · exact⟨u,[],hs,zDV hs⟩
  · obtain⟨d,r,h1,h2⟩:=ih (u / 10) (by omega);exact⟨d,r++[UInt8.ofNat (48+u % 10)],h1,by rw[zH0 hs,h2];rfl⟩
theorem zEK(u:Nat)(hu:u≤9223372036854775808):Lib.parseMag (Lib.decDigits u)=.ok u:=by
 unfold Lib.parseMag;obtain⟨d,r,_,h2⟩:=zPK u;rw[if_neg (by rw[h2];simp)];have h:=zIV u u (Nat.le_refl _) hu [];rw[List.append_nil]at h;rw[h];rfl
theorem zOq(n:Int)(hn:Rn n):Lib.atoiAll (Lib.itoa n)=.ok n:=by
 unfold Rn at hn
 by_cases h0:n<0
 · obtain⟨u,rfl⟩:∃u:Nat,n= -(u:Int):=⟨n.natAbs,by omega⟩;rw[Lib.itoa_neg u (by omega)];unfold Lib.atoiAll;simp only;rw[if_pos (.inr rfl),zEK u (by omega)];have e:(45:UInt8).toNat=45:=rfl;simp only[e];rw[if_neg (by simp),if_neg (by omega),if_pos (by simp)]
 · obtain⟨u,rfl⟩:∃u:Nat,n=(u:Int):=⟨n.natAbs,by omega⟩;rw[Lib.itoa_nonneg];obtain⟨d,r,h1,h2⟩:=zPK u;have hm:=zEK u (by omega);rw[h2]at hm ⊢;unfold Lib.atoiAll;simp only;rw[zDU d h1,if_neg (by omega),hm];simp only;rw[if_neg (by omega),if_neg (by omega),if_neg (by omega)]
theorem zG1(n:Int)(hn:Rn n):zBn (numW n)=some n:=by
 have e:zDv (numW n)=n:=by unfold zDv numW;rw[zOq n hn]
 unfold zBn;rw[e];exact if_pos rfl
theorem zCl:∀(l:List Int),(∀n∈l,Rn n)→zAf (l.map numW)=some l
  |[],_=>rfl
  |n::t,h=>by
    show(match zBn (numW n)with|none=>none|some v=>(zAf (t.map numW)).map (v:: ·))=_
    rw[zG1 n (h n (by simp)),zCl t (fun x hx=>h x (by simp[hx]))]
    rfl
variable {W0 w:World}{K:Know}{L:List Res}
theorem zIG(rd wb off cap nw:Nat)(c:Array Value)(hnw:nw≠9)(h:St W0 w K (.raw rd c 122::L)):
  Calls Tryz.prog 113 #[.pointer (some ⟨rd,0,none⟩),.slice (some ⟨wb,off,none⟩) nw cap] w fun en w'=>en=.returned (.bool false)∧St W0 w' K L:=by
 obtain⟨nb,hnb⟩:∃b,w.heap.size=b:=⟨_,rfl⟩;have g1:=h.allocRaw #[.int .i64 0,.int .i64 0,.int .i64 0,.int .i64 0,.int .i64 0,.int .i64 0,.int .i64 0,.int .i64 0] 135;rw[hnb]at g1;have H:=hQd g1;have e1:((nw:Int)==9)=false:=by rw[beq_eq_false_iff_ne];omega
 have e2:((nw:Int) !=9)=true:=by simp[bne,e1]
 clear h g1 hnw;go_enter Tryz.func113,Tryz.ntmps113;go_upto_region 2 with fail;have hs:=H.out.drew;clear H;refine wp_region_held_drew (S:=fun _=>True) (by kernel_rfl) trivial (fun hHeld=> ?_);refine tQ 0 ⟨some 8,.move (.tmp 1),69,_,_,none⟩ ?_;simp only[Act.put,sA,sB,sC];refine tQ 1 ⟨some 9,.call {callee:=.builtin .len,args:= #[.tmp 8],argTypes:= #[69]},3,_,_,none⟩ ?_;simp only[Act.put,sA,sB,sC];refine tQ 2 ⟨some 10,.binOp .neq 3 (.tmp 9) (.const (Value.int IntKind.i64 9)) 3,4,_,_,none⟩ ?_;simp only[Act.put,sA,sB,sC];refine tQ 3 ⟨some 11,.move (.tmp 10),4,_,_,none⟩ ?_;simp only[Act.put,sA,sB,sC];refine wpAnyH_take (i:=4) (oi:=⟨some 12,.slice 135 (.tmp 5) none none none,23,_,_,some (3,false)⟩) (v:=undef) rfl (by kernel_rfl) (by kernel_rfl) (by kernel_rfl) (fun _ _ _ h=>h) (Or.inr ⟨by rfl,rfl⟩) (by assumption) ?_;simp only[Act.put,sA,sB,sC];refine wpAnyH_take (i:=5) (oi:=⟨some 13,.move (.tmp 1),69,_,_,some (3,false)⟩) (v:=undef) rfl (by kernel_rfl) (by kernel_rfl) (by kernel_rfl) (fun _ _ _ h=>h) (Or.inr ⟨by rfl,rfl⟩) (by assumption) ?_;simp only[Act.put,sA,sB,sC];refine wpAnyH_take (i:=6) (oi:=⟨some 14,.slice 69 (.tmp 13) none (some (.const (Value.int IntKind.i64 8))) none,69,_,_,some (3,false)⟩) (v:=undef) rfl (by kernel_rfl) (by kernel_rfl) (by kernel_rfl) (fun _ _ _ h=>h) (Or.inr ⟨by rfl,rfl⟩) (by assumption) ?_;simp only[Act.put,sA,sB,sC];refine wpAnyH_take (i:=7) (oi:=⟨some 15,.call {callee:=.value (.func 139),args:= #[.tmp 12,.tmp 14],argTypes:= #[23,69]},4,_,_,some (3,false)⟩) (v:=undef) rfl (by kernel_rfl) (by kernel_rfl) (by kernel_rfl) (fun _ _ _ h=>h) (Or.inr ⟨by rfl,rfl⟩) (by assumption) ?_;simp only[Act.put,sA,sB,sC];refine wpAnyH_take (i:=8) (oi:=⟨some 16,.unOp UnOp.not 4 (.tmp 15),4,_,_,some (3,false)⟩) (v:=undef) rfl (by kernel_rfl) (by kernel_rfl) (by kernel_rfl) (fun _ _ _ h=>h) (Or.inr ⟨by rfl,rfl⟩) (by assumption) ?_;simp only[Act.put,sA,sB,sC];refine tQ 9 ⟨some 17,.pick (.tmp 11) (.const (Value.bool true)) (.tmp 16),4,_,_,none⟩ ?_;simp only[Act.put,sA,sB,sC];refine wpAnyH_done (by kernel_rfl) ?_ _;clear hHeld;have H:=hQd hs;clear hs;go_wp2_with fail;go_ret;exact⟨rfl,H.out.drop.drop⟩
theorem zIH(rd wb off cap:Nat)(c:Array Value)(ws:List Bs)(s:Bs)(hw:8=ws.length)(hns:zAf ws=none)(hxl:∀y∈ws,y.length≤1000000)(hcap:9≤cap)(hlib:K.has Know.lib)(hk:K.has (Know.strw wb off (ws++[s])))(h:St W0 w K (.raw rd c 122::L)):
  Calls Tryz.prog 113 #[.pointer (some ⟨rd,0,none⟩),.slice (some ⟨wb,off,none⟩) 9 cap] w fun en w'=>en=.returned (.bool false)∧St W0 w' K L:=by
 obtain⟨nb,hnb⟩:∃b,w.heap.size=b:=⟨_,rfl⟩;have g1:=h.allocRaw #[.int .i64 0,.int .i64 0,.int .i64 0,.int .i64 0,.int .i64 0,.int .i64 0,.int .i64 0,.int .i64 0] 135;rw[hnb]at g1;have H:=hQd g1;have HK2:=hQd (show K.has (Know.strw wb off ws)from by have h9:=zBk hk 8;rw[List.take_append_of_le_length (by omega),List.take_of_length_le (by omega)]at h9;exact h9);have HLIB:=hQd hlib;have HW:=hQd hw;have HNS:=hQd hns;have HXL:=hQd hxl;have HZ:=hQd (show((#[.int .i64 0,.int .i64 0,.int .i64 0,.int .i64 0,.int .i64 0,.int .i64 0,.int .i64 0,.int .i64 0]:Array Value)).size=ws.length from hw);have HL1:=hQd (show ws.length≤1000000 by omega);have hc8:(8:Int)≤(cap:Int):=by omega
 clear h g1 hk hlib hns hxl hw hcap;go_enter Tryz.func113,Tryz.ntmps113;go_upto_region 2 with fail;have hs:=H.out.drew;clear H;refine wp_region_held_drew (S:=fun _=>True) (by kernel_rfl) trivial (fun hHeld=> ?_);refine tQ 0 ⟨some 8,.move (.tmp 1),69,_,_,none⟩ ?_;simp only[Act.put,sA,sB,sC];refine tQ 1 ⟨some 9,.call {callee:=.builtin .len,args:= #[.tmp 8],argTypes:= #[69]},3,_,_,none⟩ ?_;simp only[Act.put,sA,sB,sC];refine tQ 2 ⟨some 10,.binOp .neq 3 (.tmp 9) (.const (Value.int IntKind.i64 9)) 3,4,_,_,none⟩ ?_;simp only[Act.put,sA,sB,sC];refine tQ 3 ⟨some 11,.move (.tmp 10),4,_,_,none⟩ ?_;simp only[Act.put,sA,sB,sC];refine tQ 4 ⟨some 12,.slice 135 (.tmp 5) none none none,23,_,_,some (3,false)⟩ ?_;simp only[Act.put,sA,sB,sC];refine tQ 5 ⟨some 13,.move (.tmp 1),69,_,_,some (3,false)⟩ ?_;simp only[Act.put,sA,sB,sC];refine tQ 6 ⟨some 14,.slice 69 (.tmp 13) none (some (.const (Value.int IntKind.i64 8))) none,69,_,_,some (3,false)⟩ ?_;simp only[Act.put,sA,sB,sC];refine wpAnyH_ready (rs:=[7]) (by kernel_rfl) (by simp) (AllReadyH.cons (o:=⟨some 15,.call {callee:=.value (.func 139),args:= #[.tmp 12,.tmp 14],argTypes:= #[23,69]},4,_,_,some (3,false)⟩) rfl (fun KK hK=> ?_) AllReadyH.nil);go_simp;go_at_call 139;with_reducible refine(zCb nb #[.int .i64 0,.int .i64 0,.int .i64 0,.int .i64 0,.int .i64 0,.int .i64 0,.int .i64 0,.int .i64 0] 135 wb off cap 8 ws 8 HW.out HNS.out HZ.out HL1.out HXL.out HLIB.out HK2.out hs).mono ?_;rintro e wq ⟨rfl,hs⟩;refine hK.out _ _ (trivial) (fun hHeld=> ?_);clear hK KK
 try simp only[Act.put,sA,sB,sC]
 refine tQ 8 ⟨some 16,.unOp UnOp.not 4 (.tmp 15),4,_,_,some (3,false)⟩ ?_;simp only[Act.put,sA,sB,sC];refine tQ 9 ⟨some 17,.pick (.tmp 11) (.const (Value.bool true)) (.tmp 16),4,_,_,none⟩ ?_;simp only[Act.put,sA,sB,sC];refine wpAnyH_done (by kernel_rfl) ?_ _;clear hHeld;have H:=hQd hs;clear hs;go_wp2_with fail;go_ret;exact⟨rfl,H.out.drop⟩
theorem zGn(rd wb off cap n bcap:Nat)(q:Option Addr)(ch:Value)(c:Int)(nw:Nat)(hn:n=0)(h:St W0 w K (.raw rd #[.slice q n bcap,.int .i64 c,ch] 122::L)):
  Calls Tryz.prog 114 #[.pointer (some ⟨rd,0,none⟩),.slice (some ⟨wb,off,none⟩) nw cap] w fun en w'=>en=.returned (.bool false)∧St W0 w' K L:=by
 obtain⟨nb,hnb⟩:∃b,w.heap.size=b:=⟨_,rfl⟩;have g1:=h.allocRaw #[.int .i64 0,.int .i64 0] 194;rw[hnb]at g1;have H:=hQd g1;subst hn;clear h g1;go_enter Tryz.func114,Tryz.ntmps114;go_upto_region 2 with fail;have hs:=H.out.drew;have KEEP:=hQd (show ∀(w':World) (L':List Res),St W0 w' K (.raw rd #[.slice q 0 bcap,.int .i64 c,ch] 122::L')→w'.cell? ⟨rd,0,none⟩=some (.slice q 0 bcap)from fun w' L' h'=>h'.rawCell 0);clear H;refine wp_region_held_drew (S:=fun w'=>w'.cell? ⟨rd,0,none⟩=some (.slice q 0 bcap)) (by kernel_rfl) (KEEP.out _ _ hs.p1) (fun hHeld=> ?_);refine tQ 0 ⟨some 11,.move (.tmp 0),165,_,_,none⟩ ?_;simp only[Act.put,sA,sB,sC];refine tQ 1 ⟨some 12,.nilCheck (.tmp 11),0,_,_,none⟩ ?_;simp only[Act.put,sA,sB,sC];refine tQ 2 ⟨some 13,.fieldAddr 122 (.tmp 12) 0,0,_,_,none⟩ ?_;simp only[Act.put,sA,sB,sC];refine tQ 3 ⟨some 14,.fieldAddr 25 (.tmp 13) 0,0,_,_,none⟩ ?_;simp only[Act.put,sA,sB,sC];refine tQ 4 ⟨some 15,.load 22 (.tmp 14),22,_,_,none⟩ ?_;simp only[Act.put,sA,sB,sC];refine tQ 5 ⟨some 16,.call {callee:=.builtin .len,args:= #[.tmp 15],argTypes:= #[22]},3,_,_,none⟩ ?_;simp only[Act.put,sA,sB,sC];refine tQ 6 ⟨some 17,.binOp .eql 3 (.tmp 16) (.const (Value.int IntKind.i64 0)) 3,4,_,_,none⟩ ?_;simp only[Act.put,sA,sB,sC];refine tQ 7 ⟨some 18,.move (.tmp 17),4,_,_,none⟩ ?_;simp only[Act.put,sA,sB,sC];refine wpAnyH_take (i:=8) (oi:=⟨some 19,.move (.tmp 1),69,_,_,some (7,false)⟩) (v:=undef) rfl (by kernel_rfl) (by kernel_rfl) (by kernel_rfl) (fun _ _ _ h=>h) (Or.inr ⟨by rfl,rfl⟩) (by assumption) ?_;simp only[Act.put,sA,sB,sC];refine wpAnyH_take (i:=9) (oi:=⟨some 20,.call {callee:=.builtin .len,args:= #[.tmp 19],argTypes:= #[69]},3,_,_,some (7,false)⟩) (v:=undef) rfl (by kernel_rfl) (by kernel_rfl) (by kernel_rfl) (fun _ _ _ h=>h) (Or.inr ⟨by rfl,rfl⟩) (by assumption) ?_;simp only[Act.put,sA,sB,sC];refine wpAnyH_take (i:=10) (oi:=⟨some 21,.binOp .neq 3 (.tmp 20) (.const (Value.int IntKind.i64 4)) 3,4,_,_,some (7,false)⟩) (v:=undef) rfl (by kernel_rfl) (by kernel_rfl) (by kernel_rfl) (fun _ _ _ h=>h) (Or.inr ⟨by rfl,rfl⟩) (by assumption) ?_;simp only[Act.put,sA,sB,sC];refine tQ 11 ⟨some 22,.pick (.tmp 18) (.const (Value.bool true)) (.tmp 21),4,_,_,none⟩ ?_;simp only[Act.put,sA,sB,sC];refine tQ 12 ⟨some 23,.move (.tmp 22),4,_,_,none⟩ ?_;simp only[Act.put,sA,sB,sC];refine wpAnyH_take (i:=13) (oi:=⟨some 24,.slice 194 (.tmp 5) none none none,23,_,_,some (12,false)⟩) (v:=undef) rfl (by kernel_rfl) (by kernel_rfl) (by kernel_rfl) (fun _ _ _ h=>h) (Or.inr ⟨by rfl,rfl⟩) (by assumption) ?_;simp only[Act.put,sA,sB,sC];refine wpAnyH_take (i:=14) (oi:=⟨some 25,.move (.tmp 1),69,_,_,some (12,false)⟩) (v:=undef) rfl (by kernel_rfl) (by kernel_rfl) (by kernel_rfl) (fun _ _ _ h=>h) (Or.inr ⟨by rfl,rfl⟩) (by assumption) ?_;simp only[Act.put,sA,sB,sC];refine wpAnyH_take (i:=15) (oi:=⟨some 26,.slice 69 (.tmp 25) none (some (.const (Value.int IntKind.i64 2))) none,69,_,_,some (12,false)⟩) (v:=undef) rfl (by kernel_rfl) (by kernel_rfl) (by kernel_rfl) (fun _ _ _ h=>h) (Or.inr ⟨by rfl,rfl⟩) (by assumption) ?_;simp only[Act.put,sA,sB,sC];refine wpAnyH_take (i:=16) (oi:=⟨some 27,.call {callee:=.value (.func 139),args:= #[.tmp 24,.tmp 26],argTypes:= #[23,69]},4,_,_,some (12,false)⟩) (v:=undef) rfl (by kernel_rfl) (by kernel_rfl) (by kernel_rfl) (fun _ _ _ h=>h) (Or.inr ⟨by rfl,rfl⟩) (by assumption) ?_;simp only[Act.put,sA,sB,sC];refine wpAnyH_take (i:=17) (oi:=⟨some 28,.unOp UnOp.not 4 (.tmp 27),4,_,_,some (12,false)⟩) (v:=undef) rfl (by kernel_rfl) (by kernel_rfl) (by kernel_rfl) (fun _ _ _ h=>h) (Or.inr ⟨by rfl,rfl⟩) (by assumption) ?_;simp only[Act.put,sA,sB,sC];refine tQ 18 ⟨some 29,.pick (.tmp 23) (.const (Value.bool true)) (.tmp 28),4,_,_,none⟩ ?_;simp only[Act.put,sA,sB,sC];refine wpAnyH_done (by kernel_rfl) ?_ _;clear hHeld;have H:=hQd hs;clear hs;go_wp2_with fail;go_ret;exact⟨rfl,H.out.drop.drop⟩
theorem zHD(rd wb off cap n bcap:Nat)(q:Option Addr)(ch:Value)(c:Int)(nw:Nat)(hn:n≠0)(hnw:nw≠4)(h:St W0 w K (.raw rd #[.slice q n bcap,.int .i64 c,ch] 122::L)):
  Calls Tryz.prog 114 #[.pointer (some ⟨rd,0,none⟩),.slice (some ⟨wb,off,none⟩) nw cap] w fun en w'=>en=.returned (.bool false)∧St W0 w' K L:=by
 obtain⟨nb,hnb⟩:∃b,w.heap.size=b:=⟨_,rfl⟩;have g1:=h.allocRaw #[.int .i64 0,.int .i64 0] 194;rw[hnb]at g1;have H:=hQd g1;have q0:((n:Int)==0)=false:=by rw[beq_eq_false_iff_ne];omega
 have e1:((nw:Int)==4)=false:=by rw[beq_eq_false_iff_ne];omega
 have e2:((nw:Int) !=4)=true:=by simp[bne,e1]
 clear h g1 hn hnw;go_enter Tryz.func114,Tryz.ntmps114;go_upto_region 2 with fail;have hs:=H.out.drew;have KEEP:=hQd (show ∀(w':World) (L':List Res),St W0 w' K (.raw rd #[.slice q n bcap,.int .i64 c,ch] 122::L')→w'.cell? ⟨rd,0,none⟩=some (.slice q n bcap)from fun w' L' h'=>h'.rawCell 0);clear H;refine wp_region_held_drew (S:=fun w'=>w'.cell? ⟨rd,0,none⟩=some (.slice q n bcap)) (by kernel_rfl) (KEEP.out _ _ hs.p1) (fun hHeld=> ?_);refine tQ 0 ⟨some 11,.move (.tmp 0),165,_,_,none⟩ ?_;simp only[Act.put,sA,sB,sC];refine tQ 1 ⟨some 12,.nilCheck (.tmp 11),0,_,_,none⟩ ?_;simp only[Act.put,sA,sB,sC];refine tQ 2 ⟨some 13,.fieldAddr 122 (.tmp 12) 0,0,_,_,none⟩ ?_;simp only[Act.put,sA,sB,sC];refine tQ 3 ⟨some 14,.fieldAddr 25 (.tmp 13) 0,0,_,_,none⟩ ?_;simp only[Act.put,sA,sB,sC];refine tQ 4 ⟨some 15,.load 22 (.tmp 14),22,_,_,none⟩ ?_;simp only[Act.put,sA,sB,sC];refine tQ 5 ⟨some 16,.call {callee:=.builtin .len,args:= #[.tmp 15],argTypes:= #[22]},3,_,_,none⟩ ?_;simp only[Act.put,sA,sB,sC];refine tQ 6 ⟨some 17,.binOp .eql 3 (.tmp 16) (.const (Value.int IntKind.i64 0)) 3,4,_,_,none⟩ ?_;simp only[Act.put,sA,sB,sC];refine tQ 7 ⟨some 18,.move (.tmp 17),4,_,_,none⟩ ?_;simp only[Act.put,sA,sB,sC];refine tQ 8 ⟨some 19,.move (.tmp 1),69,_,_,some (7,false)⟩ ?_;simp only[Act.put,sA,sB,sC];refine tQ 9 ⟨some 20,.call {callee:=.builtin .len,args:= #[.tmp 19],argTypes:= #[69]},3,_,_,some (7,false)⟩ ?_;simp only[Act.put,sA,sB,sC];refine tQ 10 ⟨some 21,.binOp .neq 3 (.tmp 20) (.const (Value.int IntKind.i64 4)) 3,4,_,_,some (7,false)⟩ ?_;simp only[Act.put,sA,sB,sC];refine tQ 11 ⟨some 22,.pick (.tmp 18) (.const (Value.bool true)) (.tmp 21),4,_,_,none⟩ ?_;simp only[Act.put,sA,sB,sC];refine tQ 12 ⟨some 23,.move (.tmp 22),4,_,_,none⟩ ?_;simp only[Act.put,sA,sB,sC];refine wpAnyH_take (i:=13) (oi:=⟨some 24,.slice 194 (.tmp 5) none none none,23,_,_,some (12,false)⟩) (v:=undef) rfl (by kernel_rfl) (by kernel_rfl) (by kernel_rfl) (fun _ _ _ h=>h) (Or.inr ⟨by rfl,rfl⟩) (by assumption) ?_;simp only[Act.put,sA,sB,sC];refine wpAnyH_take (i:=14) (oi:=⟨some 25,.move (.tmp 1),69,_,_,some (12,false)⟩) (v:=undef) rfl (by kernel_rfl) (by kernel_rfl) (by kernel_rfl) (fun _ _ _ h=>h) (Or.inr ⟨by rfl,rfl⟩) (by assumption) ?_;simp only[Act.put,sA,sB,sC];refine wpAnyH_take (i:=15) (oi:=⟨some 26,.slice 69 (.tmp 25) none (some (.const (Value.int IntKind.i64 2))) none,69,_,_,some (12,false)⟩) (v:=undef) rfl (by kernel_rfl) (by kernel_rfl) (by kernel_rfl) (fun _ _ _ h=>h) (Or.inr ⟨by rfl,rfl⟩) (by assumption) ?_;simp only[Act.put,sA,sB,sC];refine wpAnyH_take (i:=16) (oi:=⟨some 27,.call {callee:=.value (.func 139),args:= #[.tmp 24,.tmp 26],argTypes:= #[23,69]},4,_,_,some (12,false)⟩) (v:=undef) rfl (by kernel_rfl) (by kernel_rfl) (by kernel_rfl) (fun _ _ _ h=>h) (Or.inr ⟨by rfl,rfl⟩) (by assumption) ?_;simp only[Act.put,sA,sB,sC];refine wpAnyH_take (i:=17) (oi:=⟨some 28,.unOp UnOp.not 4 (.tmp 27),4,_,_,some (12,false)⟩) (v:=undef) rfl (by kernel_rfl) (by kernel_rfl) (by kernel_rfl) (fun _ _ _ h=>h) (Or.inr ⟨by rfl,rfl⟩) (by assumption) ?_;simp only[Act.put,sA,sB,sC];refine tQ 18 ⟨some 29,.pick (.tmp 23) (.const (Value.bool true)) (.tmp 28),4,_,_,none⟩ ?_;simp only[Act.put,sA,sB,sC];refine wpAnyH_done (by kernel_rfl) ?_ _;clear hHeld;have H:=hQd hs;clear hs;go_wp2_with fail;go_ret;exact⟨rfl,H.out.drop.drop⟩
theorem zHE(rd wb off cap n bcap:Nat)(q:Option Addr)(ch:Value)(c:Int)(a b kw vw:Bs)(hn:n≠0)(hns:zAf [a,b]=none)(hxl:∀y∈[a,b],y.length≤1000000)(hcap:4≤cap)(hlib:K.has Know.lib)(hk:K.has (Know.strw wb off [a,b,kw,vw]))(h:St W0 w K (.raw rd #[.slice q n bcap,.int .i64 c,ch] 122::L)):
  Calls Tryz.prog 114 #[.pointer (some ⟨rd,0,none⟩),.slice (some ⟨wb,off,none⟩) 4 cap] w fun en w'=>en=.returned (.bool false)∧St W0 w' K L:=by
 obtain⟨nb,hnb⟩:∃b,w.heap.size=b:=⟨_,rfl⟩;have g1:=h.allocRaw #[.int .i64 0,.int .i64 0] 194;rw[hnb]at g1;have H:=hQd g1;have q0:((n:Int)==0)=false:=by rw[beq_eq_false_iff_ne];omega
 have q4:(2:Int)≤(cap:Int):=by omega
 have HK2:=hQd (show K.has (Know.strw wb off [a,b])from zBk hk 2);have HLIB:=hQd hlib;have HW:=hQd (show 2=[a,b].length from rfl);have HNS:=hQd hns;have HXL:=hQd hxl;have HZ:=hQd (show(#[Value.int .i64 0,.int .i64 0]:Array Value).size=[a,b].length from rfl);have HL1:=hQd (show[a,b].length≤1000000 by simp);clear h g1 hn hns hxl hcap hk hlib;go_enter Tryz.func114,Tryz.ntmps114;go_upto_region 2 with fail;have hs:=H.out.drew;have KEEP:=hQd (show ∀(w':World) (L':List Res),St W0 w' K (.raw rd #[.slice q n bcap,.int .i64 c,ch] 122::L')→w'.cell? ⟨rd,0,none⟩=some (.slice q n bcap)from fun w' L' h'=>h'.rawCell 0);clear H;refine wp_region_held_drew (S:=fun w'=>w'.cell? ⟨rd,0,none⟩=some (.slice q n bcap)) (by kernel_rfl) (KEEP.out _ _ hs.p1) (fun hHeld=> ?_);refine tQ 0 ⟨some 11,.move (.tmp 0),165,_,_,none⟩ ?_;simp only[Act.put,sA,sB,sC];refine tQ 1 ⟨some 12,.nilCheck (.tmp 11),0,_,_,none⟩ ?_;simp only[Act.put,sA,sB,sC];refine tQ 2 ⟨some 13,.fieldAddr 122 (.tmp 12) 0,0,_,_,none⟩ ?_;simp only[Act.put,sA,sB,sC];refine tQ 3 ⟨some 14,.fieldAddr 25 (.tmp 13) 0,0,_,_,none⟩ ?_;simp only[Act.put,sA,sB,sC];refine tQ 4 ⟨some 15,.load 22 (.tmp 14),22,_,_,none⟩ ?_;simp only[Act.put,sA,sB,sC];refine tQ 5 ⟨some 16,.call {callee:=.builtin .len,args:= #[.tmp 15],argTypes:= #[22]},3,_,_,none⟩ ?_;simp only[Act.put,sA,sB,sC];refine tQ 6 ⟨some 17,.binOp .eql 3 (.tmp 16) (.const (Value.int IntKind.i64 0)) 3,4,_,_,none⟩ ?_;simp only[Act.put,sA,sB,sC];refine tQ 7 ⟨some 18,.move (.tmp 17),4,_,_,none⟩ ?_;simp only[Act.put,sA,sB,sC];refine tQ 8 ⟨some 19,.move (.tmp 1),69,_,_,some (7,false)⟩ ?_;simp only[Act.put,sA,sB,sC];refine tQ 9 ⟨some 20,.call {callee:=.builtin .len,args:= #[.tmp 19],argTypes:= #[69]},3,_,_,some (7,false)⟩ ?_;simp only[Act.put,sA,sB,sC];refine tQ 10 ⟨some 21,.binOp .neq 3 (.tmp 20) (.const (Value.int IntKind.i64 4)) 3,4,_,_,some (7,false)⟩ ?_;simp only[Act.put,sA,sB,sC];refine tQ 11 ⟨some 22,.pick (.tmp 18) (.const (Value.bool true)) (.tmp 21),4,_,_,none⟩ ?_;simp only[Act.put,sA,sB,sC];refine tQ 12 ⟨some 23,.move (.tmp 22),4,_,_,none⟩ ?_;simp only[Act.put,sA,sB,sC];refine tQ 13 ⟨some 24,.slice 194 (.tmp 5) none none none,23,_,_,some (12,false)⟩ ?_;simp only[Act.put,sA,sB,sC];refine tQ 14 ⟨some 25,.move (.tmp 1),69,_,_,some (12,false)⟩ ?_;simp only[Act.put,sA,sB,sC];refine tQ 15 ⟨some 26,.slice 69 (.tmp 25) none (some (.const (Value.int IntKind.i64 2))) none,69,_,_,some (12,false)⟩ ?_;simp only[Act.put,sA,sB,sC];refine wpAnyH_ready (rs:=[16]) (by kernel_rfl) (by simp) (AllReadyH.cons (o:=⟨some 27,.call {callee:=.value (.func 139),args:= #[.tmp 24,.tmp 26],argTypes:= #[23,69]},4,_,_,some (12,false)⟩) rfl (fun KK hK=> ?_) AllReadyH.nil);go_simp;go_at_call 139;with_reducible refine(zCb nb #[.int .i64 0,.int .i64 0] 194 wb off cap 2 [a,b] 2 HW.out HNS.out HZ.out HL1.out HXL.out HLIB.out HK2.out hs).mono ?_;rintro e wq ⟨rfl,hs⟩;refine hK.out _ _ (KEEP.out _ _ hs) (fun hHeld=> ?_);clear hK KK
 try simp only[Act.put,sA,sB,sC]
 refine tQ 17 ⟨some 28,.unOp UnOp.not 4 (.tmp 27),4,_,_,some (12,false)⟩ ?_;simp only[Act.put,sA,sB,sC];refine tQ 18 ⟨some 29,.pick (.tmp 23) (.const (Value.bool true)) (.tmp 28),4,_,_,none⟩ ?_;simp only[Act.put,sA,sB,sC];refine wpAnyH_done (by kernel_rfl) ?_ _;clear hHeld;have H:=hQd hs;clear hs;go_wp2_with fail;go_ret;exact⟨rfl,H.out.drop⟩
theorem zGo(rd wb off cap n bcap:Nat)(q:Option Addr)(ch:Value)(c:Int)(nw:Nat)(hn:n=0)(h:St W0 w K (.raw rd #[.slice q n bcap,.int .i64 c,ch] 122::L)):
  Calls Tryz.prog 115 #[.pointer (some ⟨rd,0,none⟩),.slice (some ⟨wb,off,none⟩) nw cap] w fun en w'=>en=.returned (.bool false)∧St W0 w' K L:=by
 subst hn;have H:=hQd h;have z0:=(h).rawCell 0;simp at z0;clear h;go_enter Tryz.func115,Tryz.ntmps115;go_wp2_with fail;go_ret;exact⟨rfl,H.out.drop⟩
theorem zDI(rd wb off cap n bcap:Nat)(q:Option Addr)(ch:Value)(c:Int)(nw:Nat)(hn:n≠0)(hnw:nw≠2)(h:St W0 w K (.raw rd #[.slice q n bcap,.int .i64 c,ch] 122::L)):
  Calls Tryz.prog 115 #[.pointer (some ⟨rd,0,none⟩),.slice (some ⟨wb,off,none⟩) nw cap] w fun en w'=>en=.returned (.bool false)∧St W0 w' K L:=by
 have q0:((n:Int)==0)=false:=by rw[beq_eq_false_iff_ne];omega
 have e1:((nw:Int)==2)=false:=by rw[beq_eq_false_iff_ne];omega
 have e2:((nw:Int) !=2)=true:=by simp[bne,e1]
 have H:=hQd h;have z0:=(h).rawCell 0;simp at z0;clear h hn hnw;go_enter Tryz.func115,Tryz.ntmps115;go_wp2_with fail;go_ret;exact⟨rfl,H.out.drop⟩
theorem k_bat(rd wb off cap:Nat)(s:BSt)(q:Option Addr)(vB vR vH:Value)(r:List Bs)(hx:∀y∈r,y.length≤1000000)(hr:r.length≤1000000)(hb:s.n≤1000000∧s.m≤1000000∧s.p≤1000000){W0 w:World}{K:Know}{L:List Res}(hlib:K.has Know.lib)(hs:s.known K)(hk:K.has (Know.strw wb off r))(h:St W0 w K (.raw rd #[vB,.int .i64 (-1),.slice q 0 cap] 122::s.rows vB vR vH L)):
   Calls Tryz.prog 113 #[.pointer (some ⟨rd,0,none⟩),.slice (some ⟨wb,off,none⟩) r.length r.length] w fun en w'=>∃b,en=.returned (.bool b)∧Came rd s (-1) [] ((zDp r).map .bat) W0 K L b w':=by
 by_cases h9:r.length=9
 · obtain⟨ws,t,rfl,hw⟩:=split9 r h9;have e:=zIJ ws t hw;rw[h9]
   cases hn:zAf ws with
   |none=>
    rw[hn]at e;refine(zIH rd wb off 9 _ ws t hw hn (fun y hy=>hx y (List.mem_append_left _ hy)) (by omega) hlib hk h).mono ?_;rintro en w' ⟨rfl,h⟩;exact⟨_,rfl,.no (by rw[e];rfl) (zAt h)⟩
   |some vs=>
    obtain⟨n0,n1,n2,n3,n4,n5,n6,n7,rfl⟩:=list8 ((zBj ws vs hn).trans hw.symm);rw[hn]at e;simp only at e;obtain⟨K',hk',hc,h1⟩:=zPL hs h
    have hlen:(s.close vR vH).length≤1000000:=by
     have:(s.close vR vH).length=s.n:=by cases s<;>simp[BSt.close,BSt.n]
     rw[this];exact hb.1
    refine(zOT rd wb off 9 vB (.slice q 0 cap) (-1) (s.close vR vH).length ((s.close vR vH).flatMap zAC) ws t n0 n1 n2 n3 n4 n5 n6 n7 (hasB t 97) (hasB t 116) (hasB t 99) (zNE t) hw hn rfl rfl rfl rfl hlen (fun y hy=>hx y (List.mem_append_left _ hy)) (by omega) (Know.has_trans hk' hlib) (Know.has_trans hk' hk) h1).mono ?_;rintro en w' ⟨v',rfl,h2⟩;refine⟨_,rfl,?_⟩
    cases hl:zNE t with
    |false=>
     rw[hl]at e;exact .no' (by rw[e];rfl) hk' h2.drop.drop
    |true=>
     rw[hl]at e;have e9:(zDp (ws++[t])).map Said.bat=some (.bat ⟨n0,n1,hasB t 97,hasB t 116,hasB t 99,n2,n3,n4,n5,n6,n7,[]⟩):=by rw[e];rfl
     refine .yes e9 hk' vR vH ⟨v',.slice none 0 0,.slice none 0 0,q,cap,?_,hc,?_⟩
     · exact((h2.nilRow 54 7).p2.p2.nilRow 73 3).p3.p3.p3
     · exact fun w F hh=>⟨q,cap,rfl,fun h0=>absurd h0 (Nat.lt_irrefl 0)⟩
 · refine(zIG rd wb off r.length r.length _ h9 h).mono ?_;rintro en w' ⟨rfl,h⟩;exact⟨_,rfl,.no (by rw[zNm r h9];rfl) (zAt h)⟩
end Go.Proofs.YtenojajfacacoaaGreatDoor
