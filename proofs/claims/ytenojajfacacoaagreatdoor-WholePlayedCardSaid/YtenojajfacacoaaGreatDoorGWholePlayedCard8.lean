/- A text. -/
import Derived.Test.YtenojajfacacoaaGreatDoorGWholePlayedCard7
import Derived.Test.YtenojajfacacoaaGreatDoorGWholePlayedCard6
import Derived.RegionTactic
import Derived.WalkMore
import Derived.Deep.RegionHeld3
import Derived.Deep.DeepCutAuto
import Derived.Lib.Join
/- A text. -/
namespace Go.Proofs.YtenojajfacacoaaGreatDoor
open Go.RowKit
set_option maxHeartbeats 4000000
set_option maxRecDepth 100000
variable {W0 w:World}{K:Know}{L:List Res}
theorem zGq(rd wb off cap nw:Nat)(v x2:Value)(c:Int)(ws:List Bs)(vs:List Int)(hw:nw=ws.length)(hpos:0<nw)(hns:zAf ws=some vs)(hxl:∀y∈ws,y.length≤1000000)(hl:nw≤1000000)(hlib:K.has Know.lib)(hk:K.has (Know.strw wb off ws))(h:St W0 w K (.raw rd #[v,.int .i64 c,x2] 122::L)):
  Calls Tryz.prog 111 #[.pointer (some ⟨rd,0,none⟩),.slice (some ⟨wb,off,none⟩) nw cap] w fun en w'=>∃cb,en=.returned (.bool true)∧St W0 w' K (.raw cb (vs.map fun v=>Value.int .i64 v).toArray 3::.raw rd #[v,.int .i64 c,.slice (some ⟨cb,0,none⟩) nw nw] 122::L):=by
 obtain⟨cb,hcb⟩:∃b,w.heap.size=b:=⟨_,rfl⟩;have hmk:=zKg nw hl;have g0:=h.allocRaw (madeCells #[Value.int .i64 0] nw) 3;rw[hcb]at g0;have c2:=g0.p1.rawCell 2;have r2:=g0.p1.rawFree 2;simp at c2;have hz:=(g0.p1.rawSet 2 (.slice (some ⟨cb,0,none⟩) nw nw)).p1;have H:=hQd (show St W0 _ K (.raw cb (madeCells #[Value.int .i64 0] nw) 3::.raw rd #[v,.int .i64 c,.slice (some ⟨cb,0,none⟩) nw nw] 122::L)from hz);have d2:=H.out.p1.rawCell 2;simp at d2;have HLIB:=hQd hlib;have HK:=hQd hk;have HW:=hQd hw;have HNS:=hQd hns;have HXL:=hQd hxl;have HZ:=hQd (show(madeCells #[Value.int .i64 0] nw).size=ws.length by rw[zK6,hw]);have HL1:=hQd (show ws.length≤1000000 by omega);have q1:0<nw:=hpos;have q2:decide (0<nw)=true:=decide_eq_true hpos;have q3:(0:Int)<(nw:Int):=by omega
 have q4:decide ((0:Int)<(nw:Int))=true:=decide_eq_true q3;clear h g0 hk hlib hz hns hxl hw hl hpos;go_enter Tryz.func111,Tryz.ntmps111;go_wp2_with (go_at_call 139;(with_reducible refine(zBy cb (madeCells #[Value.int .i64 0] nw) 3 wb off cap nw ws vs nw HW.out HNS.out HZ.out HL1.out HXL.out HLIB.out HK.out H.out).mono ?_);rintro e_ wn ⟨rfl,h⟩;replace H:=hQd h;clear h);go_ret;exact⟨_,rfl,H.out⟩
theorem zHF(rd wb off cap nw:Nat)(v x2:Value)(c:Int)(ws:List Bs)(hw:nw=ws.length)(hpos:0<nw)(hns:zAf ws=none)(hxl:∀y∈ws,y.length≤1000000)(hl:nw≤1000000)(hlib:K.has Know.lib)(hk:K.has (Know.strw wb off ws))(h:St W0 w K (.raw rd #[v,.int .i64 c,x2] 122::L)):
  Calls Tryz.prog 111 #[.pointer (some ⟨rd,0,none⟩),.slice (some ⟨wb,off,none⟩) nw cap] w fun en w'=>en=.returned (.bool false)∧St W0 w' K L:=by
 obtain⟨cb,hcb⟩:∃b,w.heap.size=b:=⟨_,rfl⟩;have hmk:=zKg nw hl;have g0:=h.allocRaw (madeCells #[Value.int .i64 0] nw) 3;rw[hcb]at g0;have c2:=g0.p1.rawCell 2;have r2:=g0.p1.rawFree 2;simp at c2;have hz:=(g0.p1.rawSet 2 (.slice (some ⟨cb,0,none⟩) nw nw)).p1;have H:=hQd (show St W0 _ K (.raw cb (madeCells #[Value.int .i64 0] nw) 3::.raw rd #[v,.int .i64 c,.slice (some ⟨cb,0,none⟩) nw nw] 122::L)from hz);have d2:=H.out.p1.rawCell 2;simp at d2;have HLIB:=hQd hlib;have HK:=hQd hk;have HW:=hQd hw;have HNS:=hQd hns;have HXL:=hQd hxl;have HZ:=hQd (show(madeCells #[Value.int .i64 0] nw).size=ws.length by rw[zK6,hw]);have HL1:=hQd (show ws.length≤1000000 by omega);have q1:0<nw:=hpos;have q2:decide (0<nw)=true:=decide_eq_true hpos;have q3:(0:Int)<(nw:Int):=by omega
 have q4:decide ((0:Int)<(nw:Int))=true:=decide_eq_true q3;clear h g0 hk hlib hz hns hxl hw hl hpos;go_enter Tryz.func111,Tryz.ntmps111;go_wp2_with (go_at_call 139;(with_reducible refine(zCb cb (madeCells #[Value.int .i64 0] nw) 3 wb off cap nw ws nw HW.out HNS.out HZ.out HL1.out HXL.out HLIB.out HK.out H.out).mono ?_);rintro e_ wn ⟨rfl,h⟩;replace H:=hQd h;clear h);go_ret;exact⟨rfl,H.out.drop⟩
theorem zGp(rd wb off cap:Nat)(v x2:Value)(c:Int)(ws:List Bs)(hlib:K.has Know.lib)(hk:K.has (Know.strw wb off ws))(h:St W0 w K (.raw rd #[v,.int .i64 c,x2] 122::L)):
  Calls Tryz.prog 111 #[.pointer (some ⟨rd,0,none⟩),.slice (some ⟨wb,off,none⟩) 0 cap] w fun en w'=>en=.returned (.bool false)∧St W0 w' K L:=by
 obtain⟨cb,hcb⟩:∃b,w.heap.size=b:=⟨_,rfl⟩;have hmk:=zKg 0 (by omega);simp only[Int.natCast_zero]at hmk;have g0:=h.allocRaw (madeCells #[Value.int .i64 0] 0) 3;rw[hcb]at g0;have c2:=g0.p1.rawCell 2;have r2:=g0.p1.rawFree 2;simp at c2;have hz:=(g0.p1.rawSet 2 (.slice (some ⟨cb,0,none⟩) 0 0)).p1;have H:=hQd (show St W0 _ K (.raw cb (madeCells #[Value.int .i64 0] 0) 3::.raw rd #[v,.int .i64 c,.slice (some ⟨cb,0,none⟩) 0 0] 122::L)from hz);have d2:=H.out.p1.rawCell 2;simp at d2;have HLIB:=hQd hlib;have HK:=hQd hk;clear h g0 hk hlib hz;go_enter Tryz.func111,Tryz.ntmps111;go_wp2_with fail;go_ret;exact⟨rfl,H.out.drop.drop⟩
theorem zLV(rd wb off cap nw:Nat)(v ch:Value)(c:Int)(ws:List Bs)(hw:nw=ws.length)(hne:nw≠1)(h:St W0 w K (.raw rd #[v,.int .i64 c,ch] 122::L)):
  Calls Tryz.prog 112 #[.pointer (some ⟨rd,0,none⟩),.slice (some ⟨wb,off,none⟩) nw cap] w fun en w'=>en=.returned (.bool false)∧St W0 w' K L:=by
 obtain⟨nb,hnb⟩:∃b,w.heap.size=b:=⟨_,rfl⟩;have g1:=h.allocRaw #[.int .i64 0] 191;rw[hnb]at g1;have H:=hQd g1;have HW:=hQd hw;have HNE:=hQd hne;clear h g1 hw hne;go_enter Tryz.func112,Tryz.ntmps112;go_wp2_with (go_at_call 139;(with_reducible refine(zIu nb 1 nw wb off cap 1 ws HW.out HNE.out H.out).mono ?_);rintro e_ wn ⟨rfl,h⟩;replace H:=hQd h;clear h);go_ret;exact⟨rfl,H.out.drop.drop⟩
theorem zLW(rd wb off cap:Nat)(v ch:Value)(c:Int)(x:Bs)(hx:zBn x=none)(hxl:x.length≤1000000)(hlib:K.has Know.lib)(hk:K.has (Know.strw wb off [x]))(h:St W0 w K (.raw rd #[v,.int .i64 c,ch] 122::L)):
  Calls Tryz.prog 112 #[.pointer (some ⟨rd,0,none⟩),.slice (some ⟨wb,off,none⟩) 1 cap] w fun en w'=>en=.returned (.bool false)∧St W0 w' K L:=by
 obtain⟨nb,hnb⟩:∃b,w.heap.size=b:=⟨_,rfl⟩;have g1:=h.allocRaw #[.int .i64 0] 191;rw[hnb]at g1;have H:=hQd g1;have HK:=hQd hk;have HLIB:=hQd hlib;have HXL:=hQd (show ∀y∈[x],y.length≤1000000 from fun y hy=>by rw[List.mem_singleton.1 hy];exact hxl);have HL1:=hQd (show[x].length≤1000000 by simp);have HNS:=hQd (show zAf [x]=none by show(match zBn x with|none=>none|some v=>(zAf []).map (v:: ·))=_;rw[hx]);clear h g1 hk hlib hx hxl;go_enter Tryz.func112,Tryz.ntmps112;go_wp2_with (go_at_call 139;(with_reducible refine(zCb nb #[.int .i64 0] 191 wb off cap 1 [x] 1 rfl HNS.out rfl HL1.out HXL.out HLIB.out HK.out H.out).mono ?_);rintro e_ wn ⟨rfl,h⟩;replace H:=hQd h;clear h);go_ret;exact⟨rfl,H.out.drop⟩
theorem zLU(rd wb off cap:Nat)(v ch:Value)(c:Int)(x:Bs)(n:Int)(hx:zBn x=some n)(hn:n<0)(hxl:x.length≤1000000)(hlib:K.has Know.lib)(hk:K.has (Know.strw wb off [x]))(h:St W0 w K (.raw rd #[v,.int .i64 c,ch] 122::L)):
  Calls Tryz.prog 112 #[.pointer (some ⟨rd,0,none⟩),.slice (some ⟨wb,off,none⟩) 1 cap] w fun en w'=>en=.returned (.bool false)∧St W0 w' K L:=by
 obtain⟨nb,hnb⟩:∃b,w.heap.size=b:=⟨_,rfl⟩;have g1:=h.allocRaw #[.int .i64 0] 191;rw[hnb]at g1;have H:=hQd g1;have HK:=hQd hk;have HLIB:=hQd hlib;have HXL:=hQd (show ∀y∈[x],y.length≤1000000 from fun y hy=>by rw[List.mem_singleton.1 hy];exact hxl);have HL1:=hQd (show[x].length≤1000000 by simp);have HNS:=hQd (show zAf [x]=some [n] by show(match zBn x with|none=>none|some v=>(zAf []).map (v:: ·))=_;rw[hx];rfl);have q2:decide (n<0)=true:=decide_eq_true hn;clear h g1 hk hlib hx hxl;go_enter Tryz.func112,Tryz.ntmps112;go_wp2_with (go_at_call 139;(with_reducible refine(zBy nb #[.int .i64 0] 191 wb off cap 1 [x] [n] 1 rfl HNS.out rfl HL1.out HXL.out HLIB.out HK.out H.out).mono ?_);rintro e_ wn ⟨rfl,h⟩;have h:St W0 wn K (.raw nb #[.int .i64 n] 191::_):=h;have c0:=h.rawCell 0;simp at c0;replace H:=hQd h;clear h);go_ret;exact⟨rfl,H.out.drop.drop⟩
theorem zFB(rd wb off cap g bcap k n rcap:Nat)(qr:Option Addr)(ch:Value)(c:Int)(xs:List Value)(hn:n=k+1)(hn6:n≤1000000)(hxs:xs[k*12+11]? =some (.slice qr 0 rcap))(h:St W0 w K (.raw rd #[(.slice (some ⟨g,0,none⟩) n bcap),.int .i64 c,ch] 122::.row (.slice (some ⟨g,0,none⟩) n bcap) 30 12 n xs::L)):
  Calls Tryz.prog 115 #[.pointer (some ⟨rd,0,none⟩),.slice (some ⟨wb,off,none⟩) 2 cap] w fun en w'=>en=.returned (.bool false)∧St W0 w' K L:=by
 have H:=hQd h;have HJ:=hQd (show k*12+11<n*12 by omega);have z0:w.cell? ⟨rd,0,none⟩=some (.slice (some ⟨g,0,none⟩) n bcap):=h.rawCell 0;have z1:w.cell? ⟨g,k*12+11,none⟩=some (.slice qr 0 rcap):=(h.p1.rowCell (k*12+11) HJ.out).trans hxs;have q0:((n:Int)==0)=false:=by rw[beq_eq_false_iff_ne];omega
 have q1:(n:Int) - 1=(k:Int):=by omega
 have q3:(k:Int)<(n:Int):=by omega
 have q5:(k:Int)≤1000000:=by omega
 clear h hxs hn hn6;go_enter Tryz.func115,Tryz.ntmps115;go_upto_region 3 with fail
 go_region
 all_goals
  go_wp2_with fail;go_ret;exact⟨rfl,H.out.drew.drop.drop⟩
theorem k_cut(rd wb off cap:Nat)(s:BSt)(q:Option Addr)(vB vR vH:Value)(r:List Bs)(hx:∀y∈r,y.length≤1000000)(hr:r.length≤1000000)(_:s.n≤1000000∧s.m≤1000000∧s.p≤1000000)(hlib:K.has Know.lib)(hs:s.known K)(hk:K.has (Know.strw wb off r))(h:St W0 w K (.raw rd #[vB,.int .i64 (-1),.slice q 0 cap] 122::s.rows vB vR vH L)):
   Calls Tryz.prog 112 #[.pointer (some ⟨rd,0,none⟩),.slice (some ⟨wb,off,none⟩) r.length r.length] w fun en w'=>∃b,en=.returned (.bool b)∧Came rd s (-1) [] ((zDo r).map .cut) W0 K L b w':=by
 by_cases h1:r.length=1
 · obtain⟨x,rfl⟩:∃x,r=[x]:=List.length_eq_one_iff.1 h1;have hxl:x.length≤1000000:=hx x (by simp)
   cases hn:zBn x with
   |none=>
    refine(zLW rd wb off 1 vB _ (-1) x hn hxl hlib hk h).mono ?_;rintro en w' ⟨rfl,h⟩;exact⟨_,rfl,.no (by simp[zDo,hn]) (zAt h)⟩
   |some n=>
    by_cases h0:n<0
    · refine(zLU rd wb off 1 vB _ (-1) x n hn h0 hxl hlib hk h).mono ?_;rintro en w' ⟨rfl,h⟩;exact⟨_,rfl,.no (by simp[zDo,hn,h0]) (zAt h)⟩
    · refine(rd_cut rd wb off 1 vB _ (-1) n x hn (by omega) hxl hlib hk h).mono ?_;rintro en w' ⟨rfl,h⟩;have e9:(zDo [x]).map Said.cut=some (.cut n):=by simp[zDo,hn,h0]
      exact⟨_,rfl,.yes e9 (Know.has_refl _) vR vH ⟨vB,vR,vH,q,cap,h,hs,fun w F hh=>⟨q,cap,rfl,fun h0=>absurd h0 (Nat.lt_irrefl 0)⟩⟩⟩
 · refine(zLV rd wb off r.length r.length vB _ (-1) r rfl h1 h).mono ?_;rintro en w' ⟨rfl,h⟩;refine⟨_,rfl,.no ?_ (zAt h)⟩
   rcases r with _|⟨a,_|⟨b,t⟩⟩
   · rfl
   · exact absurd rfl h1
   · rfl
theorem zK9(rd wb off cap:Nat)(s:BSt)(c:Int)(q:Option Addr)(vB vR vH:Value)(r:List Bs)(hx:∀y∈r,y.length≤1000000)(hr:r.length≤1000000)(_:s.n≤1000000∧s.m≤1000000∧s.p≤1000000)(hlib:K.has Know.lib)(hs:s.known K)(hk:K.has (Know.strw wb off r))(h:St W0 w K (.raw rd #[vB,.int .i64 c,.slice q 0 cap] 122::s.rows vB vR vH L)):
   Calls Tryz.prog 111 #[.pointer (some ⟨rd,0,none⟩),.slice (some ⟨wb,off,none⟩) r.length r.length] w fun en w'=>∃b,en=.returned (.bool b)∧Came rd s c [] ((zAU r).map .chunks) W0 K L b w':=by
 by_cases h0:r=[]
 · subst h0;refine(zGp rd wb off 0 vB _ c [] hlib hk h).mono ?_;rintro en w' ⟨rfl,h⟩;exact⟨_,rfl,.no rfl (zAt h)⟩
 · have hpos:0<r.length:=List.length_pos_iff.2 h0
   cases hn:zAf r with
   |none=>
    refine(zHF rd wb off r.length r.length vB _ c r rfl hpos hn hx hr hlib hk h).mono ?_;rintro en w' ⟨rfl,h⟩;exact⟨_,rfl,.no (by unfold zAU;rw[if_neg h0,hn];rfl) (zAt h)⟩
   |some vs=>
    refine(zGq rd wb off r.length r.length vB _ c r vs rfl hpos hn hx hr hlib hk h).mono ?_;rintro en w' ⟨cb,rfl,h⟩;have e9:(zAU r).map Said.chunks=some (.chunks vs):=by unfold zAU;rw[if_neg h0,hn];rfl
    obtain⟨K',hk',hf,h2⟩:=shutI h;rw[zBj r vs hn]at hf;refine⟨_,rfl,.yes e9 hk' vR vH ⟨vB,vR,vH,some ⟨cb,0,none⟩,r.length,?_,hs.mono hk',?_⟩⟩
    · have e8:(chOf [] (Said.chunks vs)).length=r.length:=zBj r vs hn;rw[e8];exact h2
    · have e8:(chOf [] (Said.chunks vs)).length=r.length:=zBj r vs hn;rw[e8];exact hf
theorem zN0:zDw Tryz.prog 73 (.agg #[.string ⟨#[]⟩,.bool false,.string ⟨#[]⟩]) 3 40:=zBv (by kernel_rfl) rfl (by decide)
theorem zPN(vn:Bool)(kd vd:ByteArray)(w:World):(Instr.buildSlice 52 1 #[(0,.agg #[.string kd,.bool vn,.string vd])]).run Tryz.prog w=.ok (.slice (some ⟨w.heap.size,0,none⟩) 1 1) (w.alloc (.cells #[.string kd,.bool vn,.string vd] 73 (0,0))):=by go_simp
theorem zF3{o:Oper}{ρ:Operand→Value}(ps:Array (Nat×Value))(v:Value)(w w':World)(ho:execOp ρ o=(do pure (Next.value (←Instr.buildSlice 52 1 ps))))(hb:(Instr.buildSlice 52 1 ps).run Tryz.prog w=.ok v w'):(execOp ρ o).run Tryz.prog w=.ok (.value v) w':=by
 rw[ho];simp[hb,Result.andThen]
variable {W0 w:World}{K:Know}{L:List Res}
theorem zQa(h:St W0 w K L):
  Calls Tryz.prog 141 #[.string (bb [110,111,110,101])] w fun en w'=>en=.returned (.tuple #[.agg #[.bool true,.string (bb [])],.bool true])∧St W0 w' K L:=by
 obtain⟨rb,hrb⟩:∃b,w.heap.size=b:=⟨_,rfl⟩;have g1:=h.allocRaw #[.bool false,.string ⟨#[]⟩] 51;rw[hrb]at g1;have hz:=h.allocRaw #[.bool true,.string (bb [])] 51;rw[hrb]at hz;have H:=hQd g1;have c0:=(g1).rawCell 0;have c1:=(g1).rawCell 1;simp at c0 c1;have r0:=(g1).rawFree 0;have r1:=(g1).rawFree 1;clear h g1;go_enter Tryz.func141,Tryz.ntmps141;go_wp2_with fail;refine bodyPost_ret (zAX rfl _ _ rb [.bool true,.string (bb [])] _ rfl (zBO hz) Tryz.underlying51 rfl (by kernel_rfl)) rfl ?_;exact⟨rfl,hz.drop⟩
theorem zP9(s d:Bs)(ok:Bool)(hne:s≠[110,111,110,101])(hv:hexV s=(d,ok))(hl:s.length≤1000000)(h:St W0 w K L):
  Calls Tryz.prog 141 #[.string (bb s)] w fun en w'=>en=.returned (.tuple #[.agg #[.bool false,.string (bb d)],.bool ok])∧St W0 w' K L:=by
 obtain⟨rb,hrb⟩:∃b,w.heap.size=b:=⟨_,rfl⟩;have g1:=h.allocRaw #[.bool false,.string ⟨#[]⟩] 51;rw[hrb]at g1;have H:=hQd g1;have HV:=hQd hv;have HL:=hQd hl;have e1:([110,111,110,101]==s)=false:=by rw[beq_eq_false_iff_ne];exact fun h=>hne h.symm
 have e2:(s==[110,111,110,101])=false:=by rw[beq_eq_false_iff_ne];exact hne
 clear h g1 hv hl hne;go_enter Tryz.func141,Tryz.ntmps141;go_wp2_with (go_at_call 18;(with_reducible refine(zHr s HL.out H.out).mono ?_);rintro e_ wn ⟨rfl,h⟩;rw[HV.out];have c0:=(h).rawCell 0;have c1:=(h).rawCell 1;simp at c0 c1;have r0:=(h).rawFree 0;have r1:=(h).rawFree 1;replace H:=hQd h;clear h);have hz:St W0 _ K (.raw rb #[.bool false,.string (bb d)] 51::L):=(H.out.rawSet 0 (.bool false)).rawSet 1 (.string (bb d));refine bodyPost_ret (zAX rfl _ _ rb [.bool false,.string (bb d)] _ rfl (zBO hz) Tryz.underlying51 rfl (by kernel_rfl)) rfl ?_;exact⟨rfl,hz.drop⟩
theorem zDf(s d:Bs)(nl ok:Bool)(hv:zAI s=(nl,d,ok))(hl:s.length≤1000000)(h:St W0 w K L):
   Calls Tryz.prog 141 #[.string (bb s)] w fun en w'=>en=.returned (.tuple #[.agg #[.bool nl,.string (bb d)],.bool ok])∧St W0 w' K L:=by
 unfold zAI at hv
 by_cases hs:s=[110,111,110,101]
 · rw[if_pos hs]at hv;injection hv with h1 h2;injection h2 with h2 h3;subst h1 h2 h3 hs;exact zQa h
 · rw[if_neg hs]at hv;injection hv with h1 h2;injection h2 with h2 h3;subst h1;exact zP9 s d ok hs (Prod.ext h2 h3) hl h
set_option maxHeartbeats 8000000
theorem zNi(rd wb off cap g bcap k n gr rcap j m p:Nat)(vH ch:Value)(c:Int)(xs rs us:List Value)(kw vw kd vd:Bs)(vn kok vok:Bool)(hn:n=k+1)(hm1:m=j+1)(hxs:xs[k*12+11]? =some (.slice (some ⟨gr,0,none⟩) m rcap))(hrs:rs[j*7+6]? =some vH)(hkb:hexV kw=(kd,kok))(hvb:zAI vw=(vn,vd,vok))(hxl:∀y∈[kw,vw],y.length≤1000000)(hn6:n≤1000000)(hm:m≤1000000)(hp:p≤1000000)(_hcap:2≤cap){W0 w:World}{K:Know}{L:List Res}(hlib:K.has Know.lib)(hk:K.has (Know.strw wb off [kw,vw]))(h:St W0 w K (.raw rd #[(.slice (some ⟨g,0,none⟩) n bcap),.int .i64 c,ch] 122::.row (.slice (some ⟨g,0,none⟩) n bcap) 30 12 n xs::.row (.slice (some ⟨gr,0,none⟩) m rcap) 54 7 m rs::.row vH 73 3 p us::L)):
  Calls Tryz.prog 115 #[.pointer (some ⟨rd,0,none⟩),.slice (some ⟨wb,off,none⟩) 2 cap] w fun en w'=>∃vH',en=.returned (.bool (kok && vok))∧St W0 w' K (.raw rd #[(.slice (some ⟨g,0,none⟩) n bcap),.int .i64 c,ch] 122::.row (.slice (some ⟨g,0,none⟩) n bcap) 30 12 n xs::.row (.slice (some ⟨gr,0,none⟩) m rcap) 54 7 m (rs.set (j*7+6) vH')::.row vH' 73 3 (p+1) (us++[.string (bb kd),.bool vn,.string (bb vd)])::L):=by
 have H:=hQd h;have C0:=hQd (show ∀(w':World) (L':List Res),St W0 w' K L'→w'.cell? ⟨wb,off,none⟩=some (.string (bb kw))from zAr hk 0 kw rfl);have C1:=hQd (zAr (W0:=W0) hk 1 vw rfl);have HLIB:=hQd hlib;have HRS:=hQd hrs;have HKB:=hQd hkb;have HVB:=hQd hvb;have HKWL:=hQd (hxl kw (by simp));have HVWL:=hQd (hxl vw (by simp));have HP:=hQd hp;have HJ:=hQd (show k*12+11<n*12 by omega);have HJR:=hQd (show j*7+6<m*7 by omega);have z0:w.cell? ⟨rd,0,none⟩=some (.slice (some ⟨g,0,none⟩) n bcap):=h.rawCell 0;have z1:w.cell? ⟨g,k*12+11,none⟩=some (.slice (some ⟨gr,0,none⟩) m rcap):=(h.p1.rowCell (k*12+11) HJ.out).trans hxs;have q0:((n:Int)==0)=false:=by rw[beq_eq_false_iff_ne];omega
 have q1:(n:Int) - 1=(k:Int):=by omega
 have q3:(k:Int)<(n:Int):=by omega
 have q5:(k:Int)≤1000000:=by omega
 have r0:((m:Int)==0)=false:=by rw[beq_eq_false_iff_ne];omega
 have r1:(m:Int) - 1=(j:Int):=by omega
 have r3:(j:Int)<(m:Int):=by omega
 have r5:(j:Int)≤1000000:=by omega
 clear h hk hlib hxs hrs hkb hvb hxl _hcap hm hn hn6 hm1 hp;go_enter Tryz.func115,Tryz.ntmps115;go_upto_region 3 with fail
 go_region
 all_goals
  have c0:=C0.out _ _ H.out.drew;replace H:=hQd H.out.drew;clear z0 z1
  go_upto_region 9 with (first
  |(go_at_call 18;(try clear c0);(with_reducible refine(zHr kw HKWL.out H.out).mono ?_);rintro e_ wn ⟨rfl,h⟩;rw[HKB.out];have c1:=C1.out _ _ h;replace H:=hQd h;clear h)
  |(go_at_call 141;(try clear c1);(with_reducible refine(zDf vw vd vn vok HVB.out HVWL.out H.out).mono ?_);rintro e_ wn ⟨rfl,h⟩;obtain⟨vb,hvb⟩:∃y,wn.heap.size=y:=⟨_,rfl⟩;have h:=h.allocRaw #[.bool vn,.string (bb vd)] 51;rw[hvb]at h;replace H:=hQd h;clear h))
 have K9:=hQd (show ∀(w1:World) (L1:List Res),St W0 w1 K (.raw vb #[.bool vn,.string (bb vd)] 51::L1)→(w1.cell? ⟨vb,0,none⟩=some (.bool vn)∧w1.cell? ⟨vb,1,none⟩=some (.string (bb vd)))from fun w1 L1 h1=>⟨h1.rawCell 0,h1.rawCell 1⟩);have hs:=H.out.drew;clear H;refine wp_region_held_drew (S:=fun w'=>w'.cell? ⟨vb,0,none⟩=some (.bool vn)∧w'.cell? ⟨vb,1,none⟩=some (.string (bb vd))) (by kernel_rfl) (K9.out _ _ (hs)) (fun hHeld=> ?_);refine tQ 0 ⟨some 60,.move (.tmp 10),198,_,_,none⟩ ?_;simp only[Act.put,sA,sB,sC];refine tQ 1 ⟨some 61,.move (.tmp 10),198,_,_,none⟩ ?_;simp only[Act.put,sA,sB,sC];refine tQ 2 ⟨some 62,.nilCheck (.tmp 61),0,_,_,none⟩ ?_;simp only[Act.put,sA,sB,sC];refine tQ 3 ⟨some 63,.fieldAddr 54 (.tmp 62) 4,0,_,_,none⟩ ?_;simp only[Act.put,sA,sB,sC];refine tQ 5 ⟨some 65,.move (.tmp 6),9,_,_,none⟩ ?_;simp only[Act.put,sA,sB,sC];refine tQ 6 ⟨some 66,.load 51 (.tmp 8),51,_,_,none⟩ ?_;simp only[Act.put,sA,sB,sC];refine tQ 7 ⟨some 67,.build 73 #[(0,.tmp 65),(1,.tmp 66)],73,_,_,none⟩ ?_;simp only[Act.put,sA,sB,sC];refine wpAnyH_ready (rs:=[4,8]) (by kernel_rfl) (by simp) (AllReadyH.cons (o:=⟨some 64,.load 52 (.tmp 63),52,_,_,none⟩) rfl (fun KK hK=> ?_) (AllReadyH.cons (o:=⟨some 68,.buildSlice 52 1 #[(0,.tmp 67)],52,_,_,none⟩) rfl (fun KK hK=> ?_) AllReadyH.nil))
 focus
  have z3:=(hs.p3.rowCell (j*7+6) HJR.out).trans HRS.out;go_simp;refine hK.out _ _ (K9.out _ _ (hs)) (fun hHeld=> ?_);clear hK KK
  try simp only[Act.put,sA,sB,sC]
  clear z3;refine wpAnyH_ready (rs:=[8]) (by kernel_rfl) (by simp) (AllReadyH.cons (o:=⟨some 68,.buildSlice 52 1 #[(0,.tmp 67)],52,_,_,none⟩) rfl (fun KK hK=> ?_) AllReadyH.nil);rw[if_pos (by rfl)];refine zBm (zF3 _ _ _ _ (by kernel_rfl) (zPN vn (bb kd) (bb vd) _)) ?_;obtain⟨wy,b2,ey,eb,hs⟩:=hs.allocEx #[.string (bb kd),.bool vn,.string (bb vd)] 73;rw[ey,eb];clear ey eb;refine hK.out _ _ (K9.out _ _ (hs.p1)) (fun hHeld=> ?_);clear hK KK
  try simp only[Act.put,sA,sB,sC]
 rotate_left
 focus
  rw[if_pos (by rfl)];refine zBm (zF3 _ _ _ _ (by kernel_rfl) (zPN vn (bb kd) (bb vd) _)) ?_;obtain⟨wy,b2,ey,eb,hs⟩:=hs.allocEx #[.string (bb kd),.bool vn,.string (bb vd)] 73;rw[ey,eb];clear ey eb;refine hK.out _ _ (K9.out _ _ (hs.p1)) (fun hHeld=> ?_);clear hK KK
  try simp only[Act.put,sA,sB,sC]
  refine wpAnyH_ready (rs:=[4]) (by kernel_rfl) (by simp) (AllReadyH.cons (o:=⟨some 64,.load 52 (.tmp 63),52,_,_,none⟩) rfl (fun KK hK=> ?_) AllReadyH.nil);have z3:=(hs.p4.rowCell (j*7+6) HJR.out).trans HRS.out;go_simp;refine hK.out _ _ (K9.out _ _ (hs.p1)) (fun hHeld=> ?_);clear hK KK
  try simp only[Act.put,sA,sB,sC]
  clear z3
 all_goals
  refine wpAnyH_ready (rs:=[9]) (by kernel_rfl) (by simp) (AllReadyH.cons (o:=⟨some 69,.call {callee:=.builtin .append,args:= #[.tmp 64,.tmp 68],argTypes:= #[52,52]},52,_,_,none⟩) rfl (fun KK hK=> ?_) AllReadyH.nil);have hs:=hs.p5.p1;rw[if_pos (by rfl)];refine zKd (.tmp 64) (.tmp 68) 52 rfl 73 Tryz.underlying52 zN0 _ _ _ (by rfl) b2 #[.string (bb kd),.bool vn,.string (bb vd)] 73 hs (by rfl) rfl (by simp[Value.oneCell']) (by have:=HP.out;unfold maxLen;omega) (by have:=HP.out;omega) (fun v' w' h=> ?_);have hs:=h;clear h;obtain⟨qv,cv,hv⟩:=hs.rowAny;subst hv;refine hK.out _ _ (K9.out _ _ (hs.p1)) (fun hHeld=> ?_);clear hK KK
  try simp only[Act.put,sA,sB,sC]
  refine tQ 10 ⟨some 70,.nilCheck (.tmp 60),0,_,_,none⟩ ?_;simp only[Act.put,sA,sB,sC];refine tQ 11 ⟨some 71,.fieldAddr 54 (.tmp 70) 4,0,_,_,none⟩ ?_;simp only[Act.put,sA,sB,sC];refine wpAnyH_ready (rs:=[12]) (by kernel_rfl) (by simp) (AllReadyH.cons (o:=⟨none,.store 52 (.tmp 71) (.tmp 69),0,_,_,none⟩) rfl (fun KK hK=> ?_) AllReadyH.nil);have hs:=hs.p4;have q1:=hs.rowFree (j*7+6);have z3:=(hs.rowCell (j*7+6) HJR.out).trans HRS.out;rw[if_pos (by rfl)];refine zFR (w':=w'.setCell ⟨gr,j*7+6,none⟩ (.slice qv (p+1) cv)) (by go_simp) ?_;obtain⟨wz,ez,hs⟩:=hs.rowSetEx (j*7+6) (.slice qv (p+1) cv);rw[ez];clear ez q1 z3;refine hK.out _ _ (K9.out _ _ (hs.p2)) (fun hHeld=> ?_);clear hK KK
  try simp only[Act.put]
  refine wpAnyH_done (by kernel_rfl) ?_ _;clear hHeld;have H:=hQd hs;clear hs
  cases kok<;>(go_wp2_with fail;go_ret;exact⟨rfl,_,H.out.p2.drop.p3.p3⟩)
theorem k_hdr(rd wb off cap:Nat)(s:BSt)(q:Option Addr)(vB vR vH:Value)(r:List Bs)(hx:∀y∈r,y.length≤1000000)(hr:r.length≤1000000)(hb:s.n≤1000000∧s.m≤1000000∧s.p≤1000000){W0 w:World}{K:Know}{L:List Res}(hlib:K.has Know.lib)(hs:s.known K)(hk:K.has (Know.strw wb off r))(h:St W0 w K (.raw rd #[vB,.int .i64 (-1),.slice q 0 cap] 122::s.rows vB vR vH L)):
  Calls Tryz.prog 115 #[.pointer (some ⟨rd,0,none⟩),.slice (some ⟨wb,off,none⟩) r.length r.length] w fun en w'=>∃b,en=.returned (.bool b)∧Came rd s (-1) [] (if s.n=0∨s.m=0 then none else(zDn r).map .hdr) W0 K L b w':=by
 cases s with
 |zero=>
  obtain⟨qb,cb,hv⟩:=h.p1.rowAny;subst hv;refine(zGo rd wb off r.length 0 cb qb _ (-1) r.length rfl h).mono ?_;rintro en w' ⟨rfl,h⟩;exact⟨_,rfl,.no rfl (zAt (s:=.zero) h)⟩
 |bat d b=>
  obtain⟨g,bcap,hv⟩:=h.p1.rowSlice (Nat.succ_pos _);subst hv
  by_cases h2:r.length=2
  · rw[h2];obtain⟨qr,rcap,hv⟩:=h.p2.rowAny;subst hv;refine(zFB rd wb off 2 g bcap d.length (d.length+1) rcap qr _ (-1) _ rfl hb.1 (zPQ d b _) h).mono ?_;rintro en w' ⟨rfl,h⟩;exact⟨_,rfl,.no (if_pos (.inr rfl)) h.drop.drop⟩
  · refine(zDI rd wb off r.length (d.length+1) bcap _ _ (-1) r.length (by omega) h2 h).mono ?_;rintro en w' ⟨rfl,h⟩;exact⟨_,rfl,.no (if_pos (.inr rfl)) (zAt (s:=.bat d b) h)⟩
 |recd d b l r0=>
  obtain⟨g,bcap,hv⟩:=h.p1.rowSlice (Nat.succ_pos _);subst hv;have hif:(if (BSt.recd d b l r0).n=0∨(BSt.recd d b l r0).m=0 then none else(zDn r).map Said.hdr)=(zDn r).map Said.hdr:=if_neg (by simp[BSt.n,BSt.m]);rw[hif]
  by_cases h2:r.length=2
  · obtain⟨kw,vw,rfl⟩:∃kw vw,r=[kw,vw]:=by
     rcases r with _|⟨a,_|⟨b,_|⟨c,t⟩⟩⟩<;>simp at h2
     exact⟨a,b,rfl⟩
    obtain⟨gr,rcap,hv⟩:=h.p2.rowSlice (Nat.succ_pos _);subst hv;obtain⟨kd,kok,hkd⟩:∃kd kok,hexV kw=(kd,kok):=⟨_,_,rfl⟩;obtain⟨vn,vd,vok,hvd⟩:∃vn vd vok,zAI vw=(vn,vd,vok):=⟨_,_,_,rfl⟩;refine(zNi rd wb off 2 g bcap d.length (d.length+1) gr rcap l.length (l.length+1) r0.hdrs.length vH _ (-1) _ _ _ kw vw kd vd vn kok vok rfl rfl (zPQ d b _) (ys_at l r0 vH) hkd hvd hx hb.1 hb.2.1 hb.2.2 (Nat.le_refl 2) hlib hk h).mono ?_;rintro en w' ⟨vH',rfl,h2⟩;refine⟨_,rfl,?_⟩;have e:zDn [kw,vw]=if kok && vok then some ⟨kd,⟨vn,vd⟩⟩else none:=by show(if (hexV kw).2 && (zAI vw).2.2 then some (⟨(hexV kw).1,⟨(zAI vw).1,(zAI vw).2.1⟩⟩:HdrS)else none)=_;rw[hkd,hvd]
    rw[ys_set]at h2
    cases hl:(kok && vok)with
    |false=>
     rw[hl]at e;exact .no (by rw[e];rfl) h2.drop.drop.drop.drop
    |true=>
     rw[hl]at e;have e9:(zDn [kw,vw]).map Said.hdr=some (.hdr ⟨kd,⟨vn,vd⟩⟩):=by rw[e];rfl
     refine .yes e9 (Know.has_refl _) (.slice (some ⟨gr,0,none⟩) (l.length+1) rcap) vH ⟨.slice (some ⟨g,0,none⟩) (d.length+1) bcap,.slice (some ⟨gr,0,none⟩) (l.length+1) rcap,vH',q,cap,?_,hs,fun w F hh=>⟨q,cap,rfl,fun h0=>absurd h0 (Nat.lt_irrefl 0)⟩⟩;have e7:(r0.hdrs++[(⟨kd,⟨vn,vd⟩⟩:HdrS)]).flatMap hcells=r0.hdrs.flatMap hcells++[.string (bb kd),.bool vn,.string (bb vd)]:=zCL _ _ _;have e6:(r0.hdrs++[(⟨kd,⟨vn,vd⟩⟩:HdrS)]).length=r0.hdrs.length+1:=by simp
     show St _ _ _ (_::_::_::.row vH' _ 3 (r0.hdrs++[(⟨kd,⟨vn,vd⟩⟩:HdrS)]).length ((r0.hdrs++[(⟨kd,⟨vn,vd⟩⟩:HdrS)]).flatMap hcells)::_)
     rw[e7,e6];exact h2
  · refine(zDI rd wb off r.length (d.length+1) bcap _ _ (-1) r.length (by omega) h2 h).mono ?_;rintro en w' ⟨rfl,h⟩;refine⟨_,rfl,.no ?_ (zAt (s:=.recd d b l r0) h)⟩
    have e:zDn r=none:=by
     rcases r with _|⟨a,_|⟨b,_|⟨c,t⟩⟩⟩
     · rfl
     · rfl
     · exact absurd rfl h2
     · rfl
    rw[e];rfl
theorem zNg(rd wb off cap g bcap k n m:Nat)(vR ch:Value)(c t o:Int)(xs rs:List Value)(a b kw vw kd vd:Bs)(kn vn kok vok:Bool)(hn:n=k+1)(hxs:xs[k*12+11]? =some vR)(hns:zAf [a,b]=some [t,o])(hkb:zAI kw=(kn,kd,kok))(hvb:zAI vw=(vn,vd,vok))(hxl:∀y∈[a,b,kw,vw],y.length≤1000000)(hn6:n≤1000000)(hm:m≤1000000)(_hcap:4≤cap){W0 w:World}{K:Know}{L:List Res}(hlib:K.has Know.lib)(hk:K.has (Know.strw wb off [a,b,kw,vw]))(h:St W0 w K (.raw rd #[(.slice (some ⟨g,0,none⟩) n bcap),.int .i64 c,ch] 122::.row (.slice (some ⟨g,0,none⟩) n bcap) 30 12 n xs::.row vR 54 7 m rs::L)):
  Calls Tryz.prog 114 #[.pointer (some ⟨rd,0,none⟩),.slice (some ⟨wb,off,none⟩) 4 cap] w fun en w'=>∃vR',en=.returned (.bool (kok && vok))∧St W0 w' K (.raw rd #[(.slice (some ⟨g,0,none⟩) n bcap),.int .i64 c,ch] 122::.row (.slice (some ⟨g,0,none⟩) n bcap) 30 12 n (xs.set (k*12+11) vR')::.row vR' 54 7 (m+1) (rs++[.int .i64 t,.int .i64 o,.bool kn,.string (bb kd),.bool vn,.string (bb vd),.slice none 0 0])::L):=by
 obtain⟨nb,hnb⟩:∃b,w.heap.size=b:=⟨_,rfl⟩;have g1:=h.allocRaw #[.int .i64 0,.int .i64 0] 194;rw[hnb]at g1;have H:=hQd g1;have C2:=hQd (zAr (W0:=W0) hk 2 kw rfl);have C3:=hQd (zAr (W0:=W0) hk 3 vw rfl);have HK2:=hQd (show K.has (Know.strw wb off [a,b])from zBk hk 2);have HLIB:=hQd hlib;have HNS:=hQd hns;have HXS:=hQd hxs;have HKB:=hQd hkb;have HVB:=hQd hvb;have HXL:=hQd (show ∀y∈[a,b],y.length≤1000000 from fun y hy=>hxl y (by simp only[List.mem_cons,List.not_mem_nil,or_false]at hy ⊢;rcases hy with rfl|rfl<;>simp));have HKWL:=hQd (hxl kw (by simp));have HVWL:=hQd (hxl vw (by simp));have HL1:=hQd (show[a,b].length≤1000000 by simp);have HM:=hQd hm;have HJ:=hQd (show k*12+11<n*12 by omega);have q0:((n:Int)==0)=false:=by rw[beq_eq_false_iff_ne];omega
 have q1:(n:Int) - 1=(k:Int):=by omega
 have q3:(k:Int)<(n:Int):=by omega
 have q4:(2:Int)≤(cap:Int):=by omega
 have q5:(k:Int)≤1000000:=by omega
 clear h g1 hk hlib hns hxs hkb hvb hxl _hcap hm hn hn6;go_enter Tryz.func114,Tryz.ntmps114;go_upto_region 2 with fail;have hs:=H.out.drew;have KEEP:=hQd (show ∀(w':World) (L':List Res),St W0 w' K (.raw rd #[(.slice (some ⟨g,0,none⟩) n bcap),.int .i64 c,ch] 122::L')→w'.cell? ⟨rd,0,none⟩=some (.slice (some ⟨g,0,none⟩) n bcap)from fun w' L' h'=>h'.rawCell 0);clear H;refine wp_region_held_drew (S:=fun w'=>w'.cell? ⟨rd,0,none⟩=some (.slice (some ⟨g,0,none⟩) n bcap)) (by kernel_rfl) (KEEP.out _ _ hs.p1) (fun hHeld=> ?_);refine tQ 0 ⟨some 11,.move (.tmp 0),165,_,_,none⟩ ?_;simp only[Act.put,sA,sB,sC];refine tQ 1 ⟨some 12,.nilCheck (.tmp 11),0,_,_,none⟩ ?_;simp only[Act.put,sA,sB,sC];refine tQ 2 ⟨some 13,.fieldAddr 122 (.tmp 12) 0,0,_,_,none⟩ ?_;simp only[Act.put,sA,sB,sC];refine tQ 3 ⟨some 14,.fieldAddr 25 (.tmp 13) 0,0,_,_,none⟩ ?_;simp only[Act.put,sA,sB,sC];refine tQ 4 ⟨some 15,.load 22 (.tmp 14),22,_,_,none⟩ ?_;simp only[Act.put,sA,sB,sC];refine tQ 5 ⟨some 16,.call {callee:=.builtin .len,args:= #[.tmp 15],argTypes:= #[22]},3,_,_,none⟩ ?_;simp only[Act.put,sA,sB,sC];refine tQ 6 ⟨some 17,.binOp .eql 3 (.tmp 16) (.const (Value.int IntKind.i64 0)) 3,4,_,_,none⟩ ?_;simp only[Act.put,sA,sB,sC];refine tQ 7 ⟨some 18,.move (.tmp 17),4,_,_,none⟩ ?_;simp only[Act.put,sA,sB,sC];refine tQ 8 ⟨some 19,.move (.tmp 1),69,_,_,some (7,false)⟩ ?_;simp only[Act.put,sA,sB,sC];refine tQ 9 ⟨some 20,.call {callee:=.builtin .len,args:= #[.tmp 19],argTypes:= #[69]},3,_,_,some (7,false)⟩ ?_;simp only[Act.put,sA,sB,sC];refine tQ 10 ⟨some 21,.binOp .neq 3 (.tmp 20) (.const (Value.int IntKind.i64 4)) 3,4,_,_,some (7,false)⟩ ?_;simp only[Act.put,sA,sB,sC];refine tQ 11 ⟨some 22,.pick (.tmp 18) (.const (Value.bool true)) (.tmp 21),4,_,_,none⟩ ?_;simp only[Act.put,sA,sB,sC];refine tQ 12 ⟨some 23,.move (.tmp 22),4,_,_,none⟩ ?_;simp only[Act.put,sA,sB,sC];refine tQ 13 ⟨some 24,.slice 194 (.tmp 5) none none none,23,_,_,some (12,false)⟩ ?_;simp only[Act.put,sA,sB,sC];refine tQ 14 ⟨some 25,.move (.tmp 1),69,_,_,some (12,false)⟩ ?_;simp only[Act.put,sA,sB,sC];refine tQ 15 ⟨some 26,.slice 69 (.tmp 25) none (some (.const (Value.int IntKind.i64 2))) none,69,_,_,some (12,false)⟩ ?_;simp only[Act.put,sA,sB,sC];refine wpAnyH_ready (rs:=[16]) (by kernel_rfl) (by simp) (AllReadyH.cons (o:=⟨some 27,.call {callee:=.value (.func 139),args:= #[.tmp 24,.tmp 26],argTypes:= #[23,69]},4,_,_,some (12,false)⟩) rfl (fun KK hK=> ?_) AllReadyH.nil);go_simp;go_at_call 139;with_reducible refine(zBy nb #[.int .i64 0,.int .i64 0] 194 wb off cap 2 [a,b] [t,o] 2 rfl HNS.out rfl HL1.out HXL.out HLIB.out HK2.out hs).mono ?_;rintro e wq ⟨rfl,hs⟩;refine hK.out _ _ (KEEP.out _ _ hs.p1) (fun hHeld=> ?_);clear hK KK
 try simp only[Act.put,sA,sB,sC]
 have hs:St W0 wq K (.raw nb #[.int .i64 t,.int .i64 o] 194::.raw rd #[(.slice (some ⟨g,0,none⟩) n bcap),.int .i64 c,ch] 122::.row (.slice (some ⟨g,0,none⟩) n bcap) 30 12 n xs::.row vR 54 7 m rs::L):=hs;refine tQ 17 ⟨some 28,.unOp UnOp.not 4 (.tmp 27),4,_,_,some (12,false)⟩ ?_;simp only[Act.put,sA,sB,sC];refine tQ 18 ⟨some 29,.pick (.tmp 23) (.const (Value.bool true)) (.tmp 28),4,_,_,none⟩ ?_;simp only[Act.put,sA,sB,sC];refine wpAnyH_done (by kernel_rfl) ?_ _;clear hHeld;have H:=hQd hs;clear hs;have c2:=C2.out _ _ H.out
 go_upto_region 6 with (first
 |(go_at_call 141;(try clear c2);(with_reducible refine(zDf kw kd kn kok HKB.out HKWL.out H.out).mono ?_);rintro e_ wn ⟨rfl,h⟩;obtain⟨kb,hkb⟩:∃y,wn.heap.size=y:=⟨_,rfl⟩;have h:=h.allocRaw #[.bool kn,.string (bb kd)] 51;rw[hkb]at h;have c3:=C3.out _ _ h;replace H:=hQd h;clear h)
 |(go_at_call 141;(try clear c3);(with_reducible refine(zDf vw vd vn vok HVB.out HVWL.out H.out).mono ?_);rintro e_ wn ⟨rfl,h⟩;obtain⟨vb,hvb⟩:∃y,wn.heap.size=y:=⟨_,rfl⟩;have h:=h.allocRaw #[.bool vn,.string (bb vd)] 51;rw[hvb]at h;have z0:=KEEP.out _ _ h.p3;replace H:=hQd h;clear h))
 go_region
 have K7:=hQd (show ∀(w1:World) (L1 L2 L3:List Res),St W0 w1 K (.raw vb #[.bool vn,.string (bb vd)] 51::L1)→St W0 w1 K (.raw kb #[.bool kn,.string (bb kd)] 51::L2)→St W0 w1 K (.raw nb #[.int .i64 t,.int .i64 o] 194::L3)→(w1.cell? ⟨nb,0,none⟩=some (.int .i64 t)∧w1.cell? ⟨nb,1,none⟩=some (.int .i64 o)∧w1.cell? ⟨kb,0,none⟩=some (.bool kn)∧w1.cell? ⟨kb,1,none⟩=some (.string (bb kd))∧w1.cell? ⟨vb,0,none⟩=some (.bool vn)∧w1.cell? ⟨vb,1,none⟩=some (.string (bb vd)))from fun w1 L1 L2 L3 h1 h2 h3=>⟨h3.rawCell 0,h3.rawCell 1,h2.rawCell 0,h2.rawCell 1,h1.rawCell 0,h1.rawCell 1⟩);clear z0;go_upto_region 7 with fail;have hs:=H.out.drew.drew;clear H;refine wp_region_held_drew (S:=fun w'=>w'.cell? ⟨nb,0,none⟩=some (.int .i64 t)∧w'.cell? ⟨nb,1,none⟩=some (.int .i64 o)∧w'.cell? ⟨kb,0,none⟩=some (.bool kn)∧w'.cell? ⟨kb,1,none⟩=some (.string (bb kd))∧w'.cell? ⟨vb,0,none⟩=some (.bool vn)∧w'.cell? ⟨vb,1,none⟩=some (.string (bb vd))) (by kernel_rfl) (K7.out _ _ _ _ (hs) (hs.p1) (hs.p2)) (fun hHeld=> ?_);refine tQ 0 ⟨some 57,.move (.tmp 10),197,_,_,none⟩ ?_;simp only[Act.put,sA,sB,sC];refine tQ 1 ⟨some 58,.move (.tmp 10),197,_,_,none⟩ ?_;simp only[Act.put,sA,sB,sC];refine tQ 2 ⟨some 59,.nilCheck (.tmp 58),0,_,_,none⟩ ?_;simp only[Act.put,sA,sB,sC];refine tQ 3 ⟨some 60,.fieldAddr 30 (.tmp 59) 11,0,_,_,none⟩ ?_;simp only[Act.put,sA,sB,sC];refine tQ 5 ⟨some 62,.indexAddr 194 (.tmp 5) (.const (Value.int IntKind.i64 0)),0,_,_,none⟩ ?_;simp only[Act.put,sA,sB,sC];refine tQ 6 ⟨some 63,.load 3 (.tmp 62),3,_,_,none⟩ ?_;simp only[Act.put,sA,sB,sC];refine tQ 7 ⟨some 64,.indexAddr 194 (.tmp 5) (.const (Value.int IntKind.i64 1)),0,_,_,none⟩ ?_;simp only[Act.put,sA,sB,sC];refine tQ 8 ⟨some 65,.load 3 (.tmp 64),3,_,_,none⟩ ?_;simp only[Act.put,sA,sB,sC];refine tQ 9 ⟨some 66,.load 51 (.tmp 6),51,_,_,none⟩ ?_;simp only[Act.put,sA,sB,sC];refine tQ 10 ⟨some 67,.load 51 (.tmp 8),51,_,_,none⟩ ?_;simp only[Act.put,sA,sB,sC];refine tQ 11 ⟨some 68,.build 54 #[(0,.tmp 63),(1,.tmp 65),(2,.tmp 66),(3,.tmp 67)],54,_,_,none⟩ ?_;simp only[Act.put,sA,sB,sC];refine wpAnyH_ready (rs:=[4,12]) (by kernel_rfl) (by simp) (AllReadyH.cons (o:=⟨some 61,.load 28 (.tmp 60),28,_,_,none⟩) rfl (fun KK hK=> ?_) (AllReadyH.cons (o:=⟨some 69,.buildSlice 28 1 #[(0,.tmp 68)],28,_,_,none⟩) rfl (fun KK hK=> ?_) AllReadyH.nil))
 focus
  have z1:=(hs.p4.rowCell (k*12+11) HJ.out).trans HXS.out;go_simp;refine hK.out _ _ (K7.out _ _ _ _ (hs) (hs.p1) (hs.p2)) (fun hHeld=> ?_);clear hK KK
  try simp only[Act.put,sA,sB,sC]
  clear z1;refine wpAnyH_ready (rs:=[12]) (by kernel_rfl) (by simp) (AllReadyH.cons (o:=⟨some 69,.buildSlice 28 1 #[(0,.tmp 68)],28,_,_,none⟩) rfl (fun KK hK=> ?_) AllReadyH.nil);rw[if_pos (by rfl)];refine zBm (zF2 _ _ _ _ (by kernel_rfl) (zPM t o kn vn (bb kd) (bb vd) _)) ?_;obtain⟨wy,b2,ey,eb,hs⟩:=hs.allocEx #[.int .i64 t,.int .i64 o,.bool kn,.string (bb kd),.bool vn,.string (bb vd),.slice none 0 0] 54;rw[ey,eb];clear ey eb;refine hK.out _ _ (K7.out _ _ _ _ (hs.p1) (hs.p2) (hs.p3)) (fun hHeld=> ?_);clear hK KK
  try simp only[Act.put,sA,sB,sC]
 rotate_left
 focus
  rw[if_pos (by rfl)];refine zBm (zF2 _ _ _ _ (by kernel_rfl) (zPM t o kn vn (bb kd) (bb vd) _)) ?_;obtain⟨wy,b2,ey,eb,hs⟩:=hs.allocEx #[.int .i64 t,.int .i64 o,.bool kn,.string (bb kd),.bool vn,.string (bb vd),.slice none 0 0] 54;rw[ey,eb];clear ey eb;refine hK.out _ _ (K7.out _ _ _ _ (hs.p1) (hs.p2) (hs.p3)) (fun hHeld=> ?_);clear hK KK
  try simp only[Act.put,sA,sB,sC]
  refine wpAnyH_ready (rs:=[4]) (by kernel_rfl) (by simp) (AllReadyH.cons (o:=⟨some 61,.load 28 (.tmp 60),28,_,_,none⟩) rfl (fun KK hK=> ?_) AllReadyH.nil);have z1:=(hs.p5.rowCell (k*12+11) HJ.out).trans HXS.out;go_simp;refine hK.out _ _ (K7.out _ _ _ _ (hs.p1) (hs.p2) (hs.p3)) (fun hHeld=> ?_);clear hK KK
  try simp only[Act.put,sA,sB,sC]
  clear z1
 all_goals
  refine wpAnyH_ready (rs:=[13]) (by kernel_rfl) (by simp) (AllReadyH.cons (o:=⟨some 70,.call {callee:=.builtin .append,args:= #[.tmp 61,.tmp 69],argTypes:= #[28,28]},28,_,_,none⟩) rfl (fun KK hK=> ?_) AllReadyH.nil);have hs:=hs.p6.p1;rw[if_pos (by rfl)];refine zKd (.tmp 61) (.tmp 69) 28 rfl 54 Tryz.underlying28 zNZ _ _ _ (by rfl) b2 #[.int .i64 t,.int .i64 o,.bool kn,.string (bb kd),.bool vn,.string (bb vd),.slice none 0 0] 54 hs (by rfl) rfl (by simp[Value.oneCell']) (by have:=HM.out;unfold maxLen;omega) (by have:=HM.out;omega) (fun v' w' h=> ?_);have hs:=h;clear h;obtain⟨qv,cv,hv⟩:=hs.rowAny;subst hv;refine hK.out _ _ (K7.out _ _ _ _ (hs.p1) (hs.p2) (hs.p3)) (fun hHeld=> ?_);clear hK KK
  try simp only[Act.put,sA,sB,sC]
  refine tQ 14 ⟨some 71,.nilCheck (.tmp 57),0,_,_,none⟩ ?_;simp only[Act.put,sA,sB,sC];refine tQ 15 ⟨some 72,.fieldAddr 30 (.tmp 71) 11,0,_,_,none⟩ ?_;simp only[Act.put,sA,sB,sC];refine wpAnyH_ready (rs:=[16]) (by kernel_rfl) (by simp) (AllReadyH.cons (o:=⟨none,.store 28 (.tmp 72) (.tmp 70),0,_,_,none⟩) rfl (fun KK hK=> ?_) AllReadyH.nil);have hs:=hs.p5;have q1:=hs.rowFree (k*12+11);have z1:=(hs.rowCell (k*12+11) HJ.out).trans HXS.out;rw[if_pos (by rfl)];refine zFR (w':=w'.setCell ⟨g,k*12+11,none⟩ (.slice qv (m+1) cv)) (by go_simp) ?_;obtain⟨wz,ez,hs⟩:=hs.rowSetEx (k*12+11) (.slice qv (m+1) cv);rw[ez];clear ez q1 z1;refine hK.out _ _ (K7.out _ _ _ _ (hs.p2) (hs.p3) (hs.p4)) (fun hHeld=> ?_);clear hK KK
  try simp only[Act.put]
  refine wpAnyH_done (by kernel_rfl) ?_ _;clear hHeld;have H:=hQd hs;clear hs
  cases kok<;>(go_wp2_with fail;go_ret;exact⟨rfl,_,H.out.p2.drop.p2.drop.p2.drop.p2⟩)
theorem zLX(r:List Bs)(h:r.length≠4):zBW r=none:=by
 rcases r with _|⟨a,_|⟨b,_|⟨c,_|⟨d,_|⟨e,t⟩⟩⟩⟩⟩
 · rfl
 · rfl
 · rfl
 · rfl
 · exact absurd rfl h
 · rfl
theorem zPJ(rd wb off cap:Nat)(s:BSt)(q:Option Addr)(vB vR vH:Value)(d:List BtR)(b:BatS)(l:List (RecS×Value))(r:List Bs)(hx:∀y∈r,y.length≤1000000)(hn6:d.length+1≤1000000)(hm:l.length≤1000000)(hput:∀x,s.put vR vH (.recd x)=.recd d b l x){W0 w:World}{K K':Know}{L:List Res}(hkk:K'.has K)(hlib:K.has Know.lib)(hs:∀x∈d,K.has (Know.recs x.v x.l))(hl:∀x∈l,K'.has (Know.flat RHdr x.2 3 x.1.hdrs))(hk:K.has (Know.strw wb off r))(h:St W0 w K' (.raw rd #[vB,.int .i64 (-1),.slice q 0 cap] 122::.row vB 30 12 (d.length+1) (d.flatMap zAC++zC8 b vR)::.row vR 54 7 l.length (l.flatMap zAW)::L)):
   Calls Tryz.prog 114 #[.pointer (some ⟨rd,0,none⟩),.slice (some ⟨wb,off,none⟩) r.length r.length] w fun en w'=>∃b,en=.returned (.bool b)∧Came rd s (-1) [] ((zBW r).map .recd) W0 K L b w':=by
 obtain⟨g,bcap,hv⟩:=h.p1.rowSlice (Nat.succ_pos _);subst hv
 by_cases h4:r.length=4
 · obtain⟨a,c,kw,vw,rfl⟩:∃a c kw vw,r=[a,c,kw,vw]:=by
    rcases r with _|⟨a,_|⟨b,_|⟨c,_|⟨d,_|⟨e,t⟩⟩⟩⟩⟩<;>simp at h4
    exact⟨a,b,c,d,rfl⟩
   cases hn:zAf [a,c]with
   |none=>
    refine(zHE rd wb off 4 (d.length+1) bcap _ _ (-1) a c kw vw (by omega) hn (fun y hy=>hx y (by simp only[List.mem_cons,List.not_mem_nil,or_false]at hy ⊢;rcases hy with rfl|rfl<;>simp)) (by omega) (Know.has_trans hkk hlib) (Know.has_trans hkk hk) h).mono ?_;rintro en w' ⟨rfl,h⟩;exact⟨_,rfl,.no' (by simp[zBW,hn]) hkk h.drop.drop⟩
   |some vs=>
    obtain⟨t,o,rfl⟩:=list2 (zBj _ vs hn);obtain⟨kn,kd,kok,hkd⟩:∃kn kd kok,zAI kw=(kn,kd,kok):=⟨_,_,_,rfl⟩;obtain⟨vn,vd,vok,hvd⟩:∃vn vd vok,zAI vw=(vn,vd,vok):=⟨_,_,_,rfl⟩;refine(zNg rd wb off 4 g bcap d.length (d.length+1) l.length vR _ (-1) t o _ _ a c kw vw kd vd kn vn kok vok rfl (zPQ d b vR) hn hkd hvd hx hn6 hm (Nat.le_refl 4) (Know.has_trans hkk hlib) (Know.has_trans hkk hk) h).mono ?_;rintro en w' ⟨vR',rfl,h2⟩;refine⟨_,rfl,?_⟩;have e:zBW [a,c,kw,vw]=if kok && vok then some ⟨t,o,⟨kn,kd⟩,⟨vn,vd⟩,[]⟩else none:=by show(match zAf [a,c]with|some [t,o]=>if (zAI kw).2.2 && (zAI vw).2.2 then some (⟨t,o,⟨(zAI kw).1,(zAI kw).2.1⟩,⟨(zAI vw).1,(zAI vw).2.1⟩,[]⟩:RecS)else none| _=>none)=_;rw[hn,hkd,hvd]
    rw[xs_set]at h2
    cases hl2:(kok && vok)with
    |false=>
     rw[hl2]at e;exact .no' (by rw[e];rfl) hkk h2.drop.drop.drop
    |true=>
     rw[hl2]at e;have e9:(zBW [a,c,kw,vw]).map Said.recd=some (.recd ⟨t,o,⟨kn,kd⟩,⟨vn,vd⟩,[]⟩):=by rw[e];rfl
     refine .yes e9 hkk vR vH ⟨.slice (some ⟨g,0,none⟩) (d.length+1) bcap,vR',.slice none 0 0,q,cap,?_,?_,fun w F hh=>⟨q,cap,rfl,fun h0=>absurd h0 (Nat.lt_irrefl 0)⟩⟩
     · rw[hput];exact(h2.nilRow 73 3).p3.p3.p3
     · rw[hput];exact⟨fun x hx=>Know.has_trans hkk (hs x hx),hl⟩
 · refine(zHD rd wb off r.length (d.length+1) bcap _ _ (-1) r.length (by omega) h4 h).mono ?_;rintro en w' ⟨rfl,h⟩;exact⟨_,rfl,.no' (by rw[zLX r h4];rfl) hkk h.drop.drop⟩
theorem k_rec(rd wb off cap:Nat)(s:BSt)(q:Option Addr)(vB vR vH:Value)(r:List Bs)(hx:∀y∈r,y.length≤1000000)(_:r.length≤1000000)(hb:s.n≤1000000∧s.m≤1000000∧s.p≤1000000){W0 w:World}{K:Know}{L:List Res}(hlib:K.has Know.lib)(hs:s.known K)(hk:K.has (Know.strw wb off r))(h:St W0 w K (.raw rd #[vB,.int .i64 (-1),.slice q 0 cap] 122::s.rows vB vR vH L)):
  Calls Tryz.prog 114 #[.pointer (some ⟨rd,0,none⟩),.slice (some ⟨wb,off,none⟩) r.length r.length] w fun en w'=>∃b,en=.returned (.bool b)∧Came rd s (-1) [] (if s.n=0 then none else(zBW r).map .recd) W0 K L b w':=by
 cases s with
 |zero=>
  obtain⟨qb,cb,hv⟩:=h.p1.rowAny;subst hv;refine(zGn rd wb off r.length 0 cb qb _ (-1) r.length rfl h).mono ?_;rintro en w' ⟨rfl,h⟩;exact⟨_,rfl,.no rfl (zAt (s:=.zero) h)⟩
 |bat d b=>
  rw[show(if (BSt.bat d b).n=0 then none else(zBW r).map Said.recd)=(zBW r).map Said.recd from if_neg (by simp[BSt.n])];exact zPJ rd wb off cap (.bat d b) q vB vR vH d b [] r hx hb.1 (Nat.zero_le _) (fun _=>rfl) (Know.has_refl _) hlib hs (fun x hx=>by cases hx) hk h.p3.drop
 |recd d b l r0=>
  rw[show(if (BSt.recd d b l r0).n=0 then none else(zBW r).map Said.recd)=(zBW r).map Said.recd from if_neg (by simp[BSt.n])];obtain⟨h1,h2⟩:=closeR hs h;exact zPJ rd wb off cap (.recd d b l r0) q vB vR vH d b (l++[(r0,vH)]) r hx hb.1 (by have:=hb.2.1;simp only[BSt.m]at this;simpa using this) (fun _=>rfl) (Know.has_left (Know.has_refl _)) hlib hs.1 h1 hk h2
variable {W0 w:World}{K:Know}{L:List Res}
theorem zJk(P:Bool→World→Prop)(rd wb cap:Nat)(q:Option Addr)(v:Value)(c:Int)(ws:List Bs)(hk:K.has (Know.strw wb 0 ([99,104,117,110,107,115]::ws)))(h:St W0 w K (.raw rd #[v,.int .i64 c,.slice q 0 cap] 122::L))
    (hcall:∀w2,St W0 w2 K (.raw rd #[v,.int .i64 c,.slice q 0 cap] 122::L)→Calls Tryz.prog 111 #[.pointer (some ⟨rd,0,none⟩),.slice (some ⟨wb,0,none⟩) 0 0] w2 fun en w'=>∃b,en=.returned (.bool b)∧P b w'):
    Calls Tryz.prog 81 #[.pointer (some ⟨rd,0,none⟩),.slice (some ⟨wb,0,none⟩) 1 1] w fun en w'=>∃b,en=.returned (.bool b)∧P b w':=by
  have c0:w.cell? ⟨wb,0,none⟩=some (.string (bb [99,104,117,110,107,115])):=zAr hk 0 _ rfl _ _ h;have d0:=(h).rawCell 0;have d1:=(h).rawCell 1;have d2:=(h).rawCell 2;simp at d0 d1 d2;have H:=hQd h;have HC:=hQd hcall
  skip
  clear h hk hcall;go_enter Tryz.func81,Tryz.ntmps81;go_upto_region 1 with fail
  go_region
  all_goals (
    go_wp2_with (go_at_call 111;(with_reducible refine(HC.out _ H.out.drew).mono ?_);rintro e_ wn ⟨b,rfl,h⟩;have H9:=hQd h;clear h);go_ret
    exact⟨_,rfl,H9.out⟩)
theorem zKu(P:Bool→World→Prop)(rd wb k cap:Nat)(q:Option Addr)(v:Value)(c:Int)(ws:List Bs)(hkb:k≤1000000)(hk:K.has (Know.strw wb 0 ([99,104,117,110,107,115]::ws)))(h:St W0 w K (.raw rd #[v,.int .i64 c,.slice q 0 cap] 122::L))
    (hcall:∀w2,St W0 w2 K (.raw rd #[v,.int .i64 c,.slice q 0 cap] 122::L)→Calls Tryz.prog 111 #[.pointer (some ⟨rd,0,none⟩),.slice (some ⟨wb,1,none⟩) (k+1) (k+1)] w2 fun en w'=>∃b,en=.returned (.bool b)∧P b w'):
    Calls Tryz.prog 81 #[.pointer (some ⟨rd,0,none⟩),.slice (some ⟨wb,0,none⟩) (k+2) (k+2)] w fun en w'=>∃b,en=.returned (.bool b)∧P b w':=by
  have c0:w.cell? ⟨wb,0,none⟩=some (.string (bb [99,104,117,110,107,115])):=zAr hk 0 _ rfl _ _ h;have d0:=(h).rawCell 0;have d1:=(h).rawCell 1;have d2:=(h).rawCell 2;simp at d0 d1 d2;have H:=hQd h;have HC:=hQd hcall;have q1:(1:Int)≤(k:Int)+2:=by omega
  clear h hk hcall;go_enter Tryz.func81,Tryz.ntmps81;go_upto_region 1 with fail
  go_region
  all_goals (
    go_wp2_with (go_at_call 111;(with_reducible refine(HC.out _ H.out.drew).mono ?_);rintro e_ wn ⟨b,rfl,h⟩;have H9:=hQd h;clear h);go_ret
    exact⟨_,rfl,H9.out⟩)
theorem zN4(P:Bool→World→Prop)(rd wb cap:Nat)(q:Option Addr)(v:Value)(c:Int)(ws:List Bs)(hc:c= -1)(hk:K.has (Know.strw wb 0 ([99,117,116]::ws)))(h:St W0 w K (.raw rd #[v,.int .i64 c,.slice q 0 cap] 122::L))
    (hcall:∀w2,St W0 w2 K (.raw rd #[v,.int .i64 c,.slice q 0 cap] 122::L)→Calls Tryz.prog 112 #[.pointer (some ⟨rd,0,none⟩),.slice (some ⟨wb,0,none⟩) 0 0] w2 fun en w'=>∃b,en=.returned (.bool b)∧P b w'):
    Calls Tryz.prog 81 #[.pointer (some ⟨rd,0,none⟩),.slice (some ⟨wb,0,none⟩) 1 1] w fun en w'=>∃b,en=.returned (.bool b)∧P b w':=by
  have c0:w.cell? ⟨wb,0,none⟩=some (.string (bb [99,117,116])):=zAr hk 0 _ rfl _ _ h;have d0:=(h).rawCell 0;have d1:=(h).rawCell 1;have d2:=(h).rawCell 2;simp at d0 d1 d2;subst hc;have H:=hQd h;have HC:=hQd hcall
  skip
  clear h hk hcall;go_enter Tryz.func81,Tryz.ntmps81;go_upto_region 1 with fail
  go_region
  all_goals (
    go_wp2_with (go_at_call 112;(with_reducible refine(HC.out _ H.out.drew).mono ?_);rintro e_ wn ⟨b,rfl,h⟩;have H9:=hQd h;clear h);go_ret
    exact⟨_,rfl,H9.out⟩)
theorem zPg(P:Bool→World→Prop)(rd wb k cap:Nat)(q:Option Addr)(v:Value)(c:Int)(ws:List Bs)(hc:c= -1)(hkb:k≤1000000)(hk:K.has (Know.strw wb 0 ([99,117,116]::ws)))(h:St W0 w K (.raw rd #[v,.int .i64 c,.slice q 0 cap] 122::L))
    (hcall:∀w2,St W0 w2 K (.raw rd #[v,.int .i64 c,.slice q 0 cap] 122::L)→Calls Tryz.prog 112 #[.pointer (some ⟨rd,0,none⟩),.slice (some ⟨wb,1,none⟩) (k+1) (k+1)] w2 fun en w'=>∃b,en=.returned (.bool b)∧P b w'):
    Calls Tryz.prog 81 #[.pointer (some ⟨rd,0,none⟩),.slice (some ⟨wb,0,none⟩) (k+2) (k+2)] w fun en w'=>∃b,en=.returned (.bool b)∧P b w':=by
  have c0:w.cell? ⟨wb,0,none⟩=some (.string (bb [99,117,116])):=zAr hk 0 _ rfl _ _ h;have d0:=(h).rawCell 0;have d1:=(h).rawCell 1;have d2:=(h).rawCell 2;simp at d0 d1 d2;subst hc;have H:=hQd h;have HC:=hQd hcall;have q1:(1:Int)≤(k:Int)+2:=by omega
  clear h hk hcall;go_enter Tryz.func81,Tryz.ntmps81;go_upto_region 1 with fail
  go_region
  all_goals (
    go_wp2_with (go_at_call 112;(with_reducible refine(HC.out _ H.out.drew).mono ?_);rintro e_ wn ⟨b,rfl,h⟩;have H9:=hQd h;clear h);go_ret
    exact⟨_,rfl,H9.out⟩)
theorem zKv(P:Bool→World→Prop)(rd wb cap:Nat)(q:Option Addr)(v:Value)(c:Int)(ws:List Bs)(hc:c= -1)(hk:K.has (Know.strw wb 0 ([98,97,116,99,104]::ws)))(h:St W0 w K (.raw rd #[v,.int .i64 c,.slice q 0 cap] 122::L))
    (hcall:∀w2,St W0 w2 K (.raw rd #[v,.int .i64 c,.slice q 0 cap] 122::L)→Calls Tryz.prog 113 #[.pointer (some ⟨rd,0,none⟩),.slice (some ⟨wb,0,none⟩) 0 0] w2 fun en w'=>∃b,en=.returned (.bool b)∧P b w'):
    Calls Tryz.prog 81 #[.pointer (some ⟨rd,0,none⟩),.slice (some ⟨wb,0,none⟩) 1 1] w fun en w'=>∃b,en=.returned (.bool b)∧P b w':=by
  have c0:w.cell? ⟨wb,0,none⟩=some (.string (bb [98,97,116,99,104])):=zAr hk 0 _ rfl _ _ h;have d0:=(h).rawCell 0;have d1:=(h).rawCell 1;have d2:=(h).rawCell 2;simp at d0 d1 d2;subst hc;have H:=hQd h;have HC:=hQd hcall
  skip
  clear h hk hcall;go_enter Tryz.func81,Tryz.ntmps81;go_upto_region 1 with fail
  go_region
  all_goals (
    go_wp2_with (go_at_call 113;(with_reducible refine(HC.out _ H.out.drew).mono ?_);rintro e_ wn ⟨b,rfl,h⟩;have H9:=hQd h;clear h);go_ret
    exact⟨_,rfl,H9.out⟩)
theorem zMn(P:Bool→World→Prop)(rd wb k cap:Nat)(q:Option Addr)(v:Value)(c:Int)(ws:List Bs)(hc:c= -1)(hkb:k≤1000000)(hk:K.has (Know.strw wb 0 ([98,97,116,99,104]::ws)))(h:St W0 w K (.raw rd #[v,.int .i64 c,.slice q 0 cap] 122::L))
    (hcall:∀w2,St W0 w2 K (.raw rd #[v,.int .i64 c,.slice q 0 cap] 122::L)→Calls Tryz.prog 113 #[.pointer (some ⟨rd,0,none⟩),.slice (some ⟨wb,1,none⟩) (k+1) (k+1)] w2 fun en w'=>∃b,en=.returned (.bool b)∧P b w'):
    Calls Tryz.prog 81 #[.pointer (some ⟨rd,0,none⟩),.slice (some ⟨wb,0,none⟩) (k+2) (k+2)] w fun en w'=>∃b,en=.returned (.bool b)∧P b w':=by
  have c0:w.cell? ⟨wb,0,none⟩=some (.string (bb [98,97,116,99,104])):=zAr hk 0 _ rfl _ _ h;have d0:=(h).rawCell 0;have d1:=(h).rawCell 1;have d2:=(h).rawCell 2;simp at d0 d1 d2;subst hc;have H:=hQd h;have HC:=hQd hcall;have q1:(1:Int)≤(k:Int)+2:=by omega
  clear h hk hcall;go_enter Tryz.func81,Tryz.ntmps81;go_upto_region 1 with fail
  go_region
  all_goals (
    go_wp2_with (go_at_call 113;(with_reducible refine(HC.out _ H.out.drew).mono ?_);rintro e_ wn ⟨b,rfl,h⟩;have H9:=hQd h;clear h);go_ret
    exact⟨_,rfl,H9.out⟩)
theorem zJi(P:Bool→World→Prop)(rd wb cap:Nat)(q:Option Addr)(v:Value)(c:Int)(ws:List Bs)(hc:c= -1)(hk:K.has (Know.strw wb 0 ([114,101,99,111,114,100]::ws)))(h:St W0 w K (.raw rd #[v,.int .i64 c,.slice q 0 cap] 122::L))
    (hcall:∀w2,St W0 w2 K (.raw rd #[v,.int .i64 c,.slice q 0 cap] 122::L)→Calls Tryz.prog 114 #[.pointer (some ⟨rd,0,none⟩),.slice (some ⟨wb,0,none⟩) 0 0] w2 fun en w'=>∃b,en=.returned (.bool b)∧P b w'):
    Calls Tryz.prog 81 #[.pointer (some ⟨rd,0,none⟩),.slice (some ⟨wb,0,none⟩) 1 1] w fun en w'=>∃b,en=.returned (.bool b)∧P b w':=by
  have c0:w.cell? ⟨wb,0,none⟩=some (.string (bb [114,101,99,111,114,100])):=zAr hk 0 _ rfl _ _ h;have d0:=(h).rawCell 0;have d1:=(h).rawCell 1;have d2:=(h).rawCell 2;simp at d0 d1 d2;subst hc;have H:=hQd h;have HC:=hQd hcall
  skip
  clear h hk hcall;go_enter Tryz.func81,Tryz.ntmps81;go_upto_region 1 with fail
  go_region
  all_goals (
    go_wp2_with (go_at_call 114;(with_reducible refine(HC.out _ H.out.drew).mono ?_);rintro e_ wn ⟨b,rfl,h⟩;have H9:=hQd h;clear h);go_ret
    exact⟨_,rfl,H9.out⟩)
theorem zKs(P:Bool→World→Prop)(rd wb k cap:Nat)(q:Option Addr)(v:Value)(c:Int)(ws:List Bs)(hc:c= -1)(hkb:k≤1000000)(hk:K.has (Know.strw wb 0 ([114,101,99,111,114,100]::ws)))(h:St W0 w K (.raw rd #[v,.int .i64 c,.slice q 0 cap] 122::L))
    (hcall:∀w2,St W0 w2 K (.raw rd #[v,.int .i64 c,.slice q 0 cap] 122::L)→Calls Tryz.prog 114 #[.pointer (some ⟨rd,0,none⟩),.slice (some ⟨wb,1,none⟩) (k+1) (k+1)] w2 fun en w'=>∃b,en=.returned (.bool b)∧P b w'):
    Calls Tryz.prog 81 #[.pointer (some ⟨rd,0,none⟩),.slice (some ⟨wb,0,none⟩) (k+2) (k+2)] w fun en w'=>∃b,en=.returned (.bool b)∧P b w':=by
  have c0:w.cell? ⟨wb,0,none⟩=some (.string (bb [114,101,99,111,114,100])):=zAr hk 0 _ rfl _ _ h;have d0:=(h).rawCell 0;have d1:=(h).rawCell 1;have d2:=(h).rawCell 2;simp at d0 d1 d2;subst hc;have H:=hQd h;have HC:=hQd hcall;have q1:(1:Int)≤(k:Int)+2:=by omega
  clear h hk hcall;go_enter Tryz.func81,Tryz.ntmps81;go_upto_region 1 with fail
  go_region
  all_goals (
    go_wp2_with (go_at_call 114;(with_reducible refine(HC.out _ H.out.drew).mono ?_);rintro e_ wn ⟨b,rfl,h⟩;have H9:=hQd h;clear h);go_ret
    exact⟨_,rfl,H9.out⟩)
theorem zJj(P:Bool→World→Prop)(rd wb cap:Nat)(q:Option Addr)(v:Value)(c:Int)(ws:List Bs)(hc:c= -1)(hk:K.has (Know.strw wb 0 ([104,101,97,100,101,114]::ws)))(h:St W0 w K (.raw rd #[v,.int .i64 c,.slice q 0 cap] 122::L))
    (hcall:∀w2,St W0 w2 K (.raw rd #[v,.int .i64 c,.slice q 0 cap] 122::L)→Calls Tryz.prog 115 #[.pointer (some ⟨rd,0,none⟩),.slice (some ⟨wb,0,none⟩) 0 0] w2 fun en w'=>∃b,en=.returned (.bool b)∧P b w'):
    Calls Tryz.prog 81 #[.pointer (some ⟨rd,0,none⟩),.slice (some ⟨wb,0,none⟩) 1 1] w fun en w'=>∃b,en=.returned (.bool b)∧P b w':=by
  have c0:w.cell? ⟨wb,0,none⟩=some (.string (bb [104,101,97,100,101,114])):=zAr hk 0 _ rfl _ _ h;have d0:=(h).rawCell 0;have d1:=(h).rawCell 1;have d2:=(h).rawCell 2;simp at d0 d1 d2;subst hc;have H:=hQd h;have HC:=hQd hcall
  skip
  clear h hk hcall;go_enter Tryz.func81,Tryz.ntmps81;go_upto_region 1 with fail
  go_region
  all_goals (
    go_wp2_with (go_at_call 115;(with_reducible refine(HC.out _ H.out.drew).mono ?_);rintro e_ wn ⟨b,rfl,h⟩;have H9:=hQd h;clear h);go_ret
    exact⟨_,rfl,H9.out⟩)
theorem zKt(P:Bool→World→Prop)(rd wb k cap:Nat)(q:Option Addr)(v:Value)(c:Int)(ws:List Bs)(hc:c= -1)(hkb:k≤1000000)(hk:K.has (Know.strw wb 0 ([104,101,97,100,101,114]::ws)))(h:St W0 w K (.raw rd #[v,.int .i64 c,.slice q 0 cap] 122::L))
    (hcall:∀w2,St W0 w2 K (.raw rd #[v,.int .i64 c,.slice q 0 cap] 122::L)→Calls Tryz.prog 115 #[.pointer (some ⟨rd,0,none⟩),.slice (some ⟨wb,1,none⟩) (k+1) (k+1)] w2 fun en w'=>∃b,en=.returned (.bool b)∧P b w'):
    Calls Tryz.prog 81 #[.pointer (some ⟨rd,0,none⟩),.slice (some ⟨wb,0,none⟩) (k+2) (k+2)] w fun en w'=>∃b,en=.returned (.bool b)∧P b w':=by
  have c0:w.cell? ⟨wb,0,none⟩=some (.string (bb [104,101,97,100,101,114])):=zAr hk 0 _ rfl _ _ h;have d0:=(h).rawCell 0;have d1:=(h).rawCell 1;have d2:=(h).rawCell 2;simp at d0 d1 d2;subst hc;have H:=hQd h;have HC:=hQd hcall;have q1:(1:Int)≤(k:Int)+2:=by omega
  clear h hk hcall;go_enter Tryz.func81,Tryz.ntmps81;go_upto_region 1 with fail
  go_region
  all_goals (
    go_wp2_with (go_at_call 115;(with_reducible refine(HC.out _ H.out.drew).mono ?_);rintro e_ wn ⟨b,rfl,h⟩;have H9:=hQd h;clear h);go_ret
    exact⟨_,rfl,H9.out⟩)
variable {W0 w:World}{K:Know}{L:List Res}
theorem zJ0(rd wb cap:Nat)(q:Option Addr)(v:Value)(c:Int)(w0:Bs)(ws:List Bs)(j:Nat)(hk:K.has (Know.strw wb 0 (w0::ws)))(h:St W0 w K (.raw rd #[v,.int .i64 c,.slice q (j+1) cap] 122::L)):
  Calls Tryz.prog 81 #[.pointer (some ⟨rd,0,none⟩),.slice (some ⟨wb,0,none⟩) 1 1] w fun en w'=>en=.returned (.bool false)∧St W0 w' K L:=by
 have c0:w.cell? ⟨wb,0,none⟩=some (.string (bb w0)):=zAr hk 0 _ rfl _ _ h;have d0:=(h).rawCell 0;have d1:=(h).rawCell 1;have d2:=(h).rawCell 2;simp at d0 d1 d2;have z1:(0:Int)<(j:Int)+1:=by omega
 have H:=hQd h
 skip
 clear h hk;go_enter Tryz.func81,Tryz.ntmps81;go_upto_region 1 with fail
 go_region
 all_goals (
  go_wp2_with fail;go_ret
  exact⟨rfl,H.out.drew.drop⟩)
theorem zOO(rd wb cap:Nat)(q:Option Addr)(v:Value)(c:Int)(w0:Bs)(ws:List Bs)(hc:c≠ -1)(h1:w0≠[99,104,117,110,107,115])(hk:K.has (Know.strw wb 0 (w0::ws)))(h:St W0 w K (.raw rd #[v,.int .i64 c,.slice q 0 cap] 122::L)):
  Calls Tryz.prog 81 #[.pointer (some ⟨rd,0,none⟩),.slice (some ⟨wb,0,none⟩) 1 1] w fun en w'=>en=.returned (.bool false)∧St W0 w' K L:=by
 have c0:w.cell? ⟨wb,0,none⟩=some (.string (bb w0)):=zAr hk 0 _ rfl _ _ h;have d0:=(h).rawCell 0;have d1:=(h).rawCell 1;have d2:=(h).rawCell 2;simp at d0 d1 d2;have e1:(w0==[99,104,117,110,107,115])=false:=by rw[beq_eq_false_iff_ne];exact h1
 have g1:([99,104,117,110,107,115]==w0)=false:=by rw[beq_eq_false_iff_ne];exact fun h=>h1 h.symm
 have z1:(c== -1)=false:=by rw[beq_eq_false_iff_ne];exact hc
 have z2:(c != -1)=true:=by simp[bne,z1]
 have H:=hQd h
 skip
 clear h hk hc h1;go_enter Tryz.func81,Tryz.ntmps81;go_upto_region 1 with fail
 go_region
 all_goals (
  go_wp2_with fail;go_ret
  exact⟨rfl,H.out.drew.drop⟩)
theorem zM8(rd wb cap:Nat)(q:Option Addr)(v:Value)(c:Int)(w0:Bs)(ws:List Bs)(hc:c= -1)(h1:w0≠[99,104,117,110,107,115])(h2:w0≠[99,117,116])(h3:w0≠[98,97,116,99,104])(h4:w0≠[114,101,99,111,114,100])(h5:w0≠[104,101,97,100,101,114])(hk:K.has (Know.strw wb 0 (w0::ws)))(h:St W0 w K (.raw rd #[v,.int .i64 c,.slice q 0 cap] 122::L)):
  Calls Tryz.prog 81 #[.pointer (some ⟨rd,0,none⟩),.slice (some ⟨wb,0,none⟩) 1 1] w fun en w'=>en=.returned (.bool false)∧St W0 w' K L:=by
 have c0:w.cell? ⟨wb,0,none⟩=some (.string (bb w0)):=zAr hk 0 _ rfl _ _ h;have d0:=(h).rawCell 0;have d1:=(h).rawCell 1;have d2:=(h).rawCell 2;simp at d0 d1 d2;subst hc;have e1:(w0==[99,104,117,110,107,115])=false:=by rw[beq_eq_false_iff_ne];exact h1
 have g1:([99,104,117,110,107,115]==w0)=false:=by rw[beq_eq_false_iff_ne];exact fun h=>h1 h.symm
 have e2:(w0==[99,117,116])=false:=by rw[beq_eq_false_iff_ne];exact h2
 have g2:([99,117,116]==w0)=false:=by rw[beq_eq_false_iff_ne];exact fun h=>h2 h.symm
 have e3:(w0==[98,97,116,99,104])=false:=by rw[beq_eq_false_iff_ne];exact h3
 have g3:([98,97,116,99,104]==w0)=false:=by rw[beq_eq_false_iff_ne];exact fun h=>h3 h.symm
 have e4:(w0==[114,101,99,111,114,100])=false:=by rw[beq_eq_false_iff_ne];exact h4
 have g4:([114,101,99,111,114,100]==w0)=false:=by rw[beq_eq_false_iff_ne];exact fun h=>h4 h.symm
 have e5:(w0==[104,101,97,100,101,114])=false:=by rw[beq_eq_false_iff_ne];exact h5
 have g5:([104,101,97,100,101,114]==w0)=false:=by rw[beq_eq_false_iff_ne];exact fun h=>h5 h.symm
 have H:=hQd h
 skip
 clear h hk h1 h2 h3 h4 h5;go_enter Tryz.func81,Tryz.ntmps81;go_upto_region 1 with fail
 go_region
 all_goals (
  go_wp2_with fail;go_ret
  exact⟨rfl,H.out.drew.drop⟩)
theorem zLN(rd wb k cap:Nat)(q:Option Addr)(v:Value)(c:Int)(w0:Bs)(ws:List Bs)(j:Nat)(hkb:k≤1000000)(hk:K.has (Know.strw wb 0 (w0::ws)))(h:St W0 w K (.raw rd #[v,.int .i64 c,.slice q (j+1) cap] 122::L)):
  Calls Tryz.prog 81 #[.pointer (some ⟨rd,0,none⟩),.slice (some ⟨wb,0,none⟩) (k+2) (k+2)] w fun en w'=>en=.returned (.bool false)∧St W0 w' K L:=by
 have c0:w.cell? ⟨wb,0,none⟩=some (.string (bb w0)):=zAr hk 0 _ rfl _ _ h;have d0:=(h).rawCell 0;have d1:=(h).rawCell 1;have d2:=(h).rawCell 2;simp at d0 d1 d2;have z1:(0:Int)<(j:Int)+1:=by omega
 have H:=hQd h;have q1:(1:Int)≤(k:Int)+2:=by omega
 clear h hk;go_enter Tryz.func81,Tryz.ntmps81;go_upto_region 1 with fail
 go_region
 all_goals (
  go_wp2_with fail;go_ret
  exact⟨rfl,H.out.drew.drop⟩)
theorem zP7(rd wb k cap:Nat)(q:Option Addr)(v:Value)(c:Int)(w0:Bs)(ws:List Bs)(hc:c≠ -1)(h1:w0≠[99,104,117,110,107,115])(hkb:k≤1000000)(hk:K.has (Know.strw wb 0 (w0::ws)))(h:St W0 w K (.raw rd #[v,.int .i64 c,.slice q 0 cap] 122::L)):
  Calls Tryz.prog 81 #[.pointer (some ⟨rd,0,none⟩),.slice (some ⟨wb,0,none⟩) (k+2) (k+2)] w fun en w'=>en=.returned (.bool false)∧St W0 w' K L:=by
 have c0:w.cell? ⟨wb,0,none⟩=some (.string (bb w0)):=zAr hk 0 _ rfl _ _ h;have d0:=(h).rawCell 0;have d1:=(h).rawCell 1;have d2:=(h).rawCell 2;simp at d0 d1 d2;have e1:(w0==[99,104,117,110,107,115])=false:=by rw[beq_eq_false_iff_ne];exact h1
 have g1:([99,104,117,110,107,115]==w0)=false:=by rw[beq_eq_false_iff_ne];exact fun h=>h1 h.symm
 have z1:(c== -1)=false:=by rw[beq_eq_false_iff_ne];exact hc
 have z2:(c != -1)=true:=by simp[bne,z1]
 have H:=hQd h;have q1:(1:Int)≤(k:Int)+2:=by omega
 clear h hk hc h1;go_enter Tryz.func81,Tryz.ntmps81;go_upto_region 1 with fail
 go_region
 all_goals (
  go_wp2_with fail;go_ret
  exact⟨rfl,H.out.drew.drop⟩)
theorem zON(rd wb k cap:Nat)(q:Option Addr)(v:Value)(c:Int)(w0:Bs)(ws:List Bs)(hc:c= -1)(h1:w0≠[99,104,117,110,107,115])(h2:w0≠[99,117,116])(h3:w0≠[98,97,116,99,104])(h4:w0≠[114,101,99,111,114,100])(h5:w0≠[104,101,97,100,101,114])(hkb:k≤1000000)(hk:K.has (Know.strw wb 0 (w0::ws)))(h:St W0 w K (.raw rd #[v,.int .i64 c,.slice q 0 cap] 122::L)):
  Calls Tryz.prog 81 #[.pointer (some ⟨rd,0,none⟩),.slice (some ⟨wb,0,none⟩) (k+2) (k+2)] w fun en w'=>en=.returned (.bool false)∧St W0 w' K L:=by
 have c0:w.cell? ⟨wb,0,none⟩=some (.string (bb w0)):=zAr hk 0 _ rfl _ _ h;have d0:=(h).rawCell 0;have d1:=(h).rawCell 1;have d2:=(h).rawCell 2;simp at d0 d1 d2;subst hc;have e1:(w0==[99,104,117,110,107,115])=false:=by rw[beq_eq_false_iff_ne];exact h1
 have g1:([99,104,117,110,107,115]==w0)=false:=by rw[beq_eq_false_iff_ne];exact fun h=>h1 h.symm
 have e2:(w0==[99,117,116])=false:=by rw[beq_eq_false_iff_ne];exact h2
 have g2:([99,117,116]==w0)=false:=by rw[beq_eq_false_iff_ne];exact fun h=>h2 h.symm
 have e3:(w0==[98,97,116,99,104])=false:=by rw[beq_eq_false_iff_ne];exact h3
 have g3:([98,97,116,99,104]==w0)=false:=by rw[beq_eq_false_iff_ne];exact fun h=>h3 h.symm
 have e4:(w0==[114,101,99,111,114,100])=false:=by rw[beq_eq_false_iff_ne];exact h4
 have g4:([114,101,99,111,114,100]==w0)=false:=by rw[beq_eq_false_iff_ne];exact fun h=>h4 h.symm
 have e5:(w0==[104,101,97,100,101,114])=false:=by rw[beq_eq_false_iff_ne];exact h5
 have g5:([104,101,97,100,101,114]==w0)=false:=by rw[beq_eq_false_iff_ne];exact fun h=>h5 h.symm
 have H:=hQd h;have q1:(1:Int)≤(k:Int)+2:=by omega
 clear h hk h1 h2 h3 h4 h5;go_enter Tryz.func81,Tryz.ntmps81;go_upto_region 1 with fail
 go_region
 all_goals (
  go_wp2_with fail;go_ret
  exact⟨rfl,H.out.drew.drop⟩)
theorem zNh(rd wb:Nat)(s:BSt)(c:Int)(ch:List Int)(w0:Bs)(r:List Bs)(hx:∀y∈w0::r,y.length≤1000000)(hr:(w0::r).length≤1000000)(hb:s.n≤1000000∧s.m≤1000000∧s.p≤1000000){W0 w:World}{K:Know}{L:List Res}(hlib:K.has Know.lib)(hk:K.has (Know.strw wb 0 (w0::r)))(hm:MemS rd s c ch W0 w K L):
    Calls Tryz.prog 81 #[.pointer (some ⟨rd,0,none⟩),.slice (some ⟨wb,0,none⟩) (w0::r).length (w0::r).length] w fun en w'=>∃b,en=.returned (.bool b)∧Came rd s c ch (zAO s.n s.m c ch (w0::r)) W0 K L b w':=by
  obtain⟨vB,vR,vH,q,cap,h,hs,hf⟩:=hm
  rcases ch with _|⟨j,u⟩
  · have h:St W0 w K (.raw rd #[vB,.int .i64 c,.slice q 0 cap] 122::s.rows vB vR vH L):=h
    have hl0:zAO s.n s.m c [] (w0::r)=if w0=[99,104,117,110,107,115]then(zAU r).map .chunks
      else if c≠ -1 then none
      else if w0=[99,117,116]then(zDo r).map .cut
      else if w0=[98,97,116,99,104]then(zDp r).map .bat
      else if w0=[114,101,99,111,114,100]then(if s.n=0 then none else(zBW r).map .recd)
      else if w0=[104,101,97,100,101,114]then(if s.n=0∨s.m=0 then none else(zDn r).map .hdr)
      else none:=rfl
    by_cases h1:w0=[99,104,117,110,107,115]
    · have hl:=hl0.trans (if_pos h1);clear hl0;subst h1
      rcases r with _|⟨a,t⟩
      · refine(zJk (Came rd s c [] (((zAU []).map .chunks)) W0 K L) rd wb cap q vB c [] hk h ?_).mono ?_
        · intro w2 h2
          exact zK9 rd wb 0 cap s c q vB vR vH [] (fun y hy=>by cases hy) (Nat.zero_le _) hb hlib hs (zBk hk 0) h2
        · rintro en w' ⟨b,rfl,h2⟩;exact⟨b,rfl,by rw[hl];exact h2⟩
      · refine(zKu (Came rd s c [] (((zAU (a::t)).map .chunks)) W0 K L) rd wb t.length cap q vB c (a::t) (by simp at hr;omega) hk h ?_).mono ?_
        · intro w2 h2
          exact zK9 rd wb 1 cap s c q vB vR vH (a::t) (fun y hy=>hx y (List.mem_cons_of_mem _ hy)) (by simp at hr ⊢;omega) hb hlib hs (zCz hk 1) h2
        · rintro en w' ⟨b,rfl,h2⟩;exact⟨b,rfl,by rw[hl];exact h2⟩
    rw[if_neg h1]at hl0
    by_cases hc:c= -1
    · rw[if_neg (fun h=>h hc)]at hl0
      by_cases h2:w0=[99,117,116]
      · have hl:=hl0.trans (if_pos h2);clear hl0;subst h2
        rcases r with _|⟨a,t⟩
        · refine(zN4 (Came rd s c [] (((zDo []).map .cut)) W0 K L) rd wb cap q vB c [] hc hk h ?_).mono ?_
          · intro w2 h2;subst hc;exact k_cut rd wb 0 cap s q vB vR vH [] (fun y hy=>by cases hy) (Nat.zero_le _) hb hlib hs (zBk hk 0) h2
          · rintro en w' ⟨b,rfl,h2⟩;exact⟨b,rfl,by rw[hl];exact h2⟩
        · refine(zPg (Came rd s c [] (((zDo (a::t)).map .cut)) W0 K L) rd wb t.length cap q vB c (a::t) hc (by simp at hr;omega) hk h ?_).mono ?_
          · intro w2 h2;subst hc;exact k_cut rd wb 1 cap s q vB vR vH (a::t) (fun y hy=>hx y (List.mem_cons_of_mem _ hy)) (by simp at hr ⊢;omega) hb hlib hs (zCz hk 1) h2
          · rintro en w' ⟨b,rfl,h2⟩;exact⟨b,rfl,by rw[hl];exact h2⟩
      rw[if_neg h2]at hl0
      by_cases h3:w0=[98,97,116,99,104]
      · have hl:=hl0.trans (if_pos h3);clear hl0;subst h3
        rcases r with _|⟨a,t⟩
        · refine(zKv (Came rd s c [] (((zDp []).map .bat)) W0 K L) rd wb cap q vB c [] hc hk h ?_).mono ?_
          · intro w2 h2;subst hc;exact k_bat rd wb 0 cap s q vB vR vH [] (fun y hy=>by cases hy) (Nat.zero_le _) hb hlib hs (zBk hk 0) h2
          · rintro en w' ⟨b,rfl,h2⟩;exact⟨b,rfl,by rw[hl];exact h2⟩
        · refine(zMn (Came rd s c [] (((zDp (a::t)).map .bat)) W0 K L) rd wb t.length cap q vB c (a::t) hc (by simp at hr;omega) hk h ?_).mono ?_
          · intro w2 h2;subst hc;exact k_bat rd wb 1 cap s q vB vR vH (a::t) (fun y hy=>hx y (List.mem_cons_of_mem _ hy)) (by simp at hr ⊢;omega) hb hlib hs (zCz hk 1) h2
          · rintro en w' ⟨b,rfl,h2⟩;exact⟨b,rfl,by rw[hl];exact h2⟩
      rw[if_neg h3]at hl0
      by_cases h4:w0=[114,101,99,111,114,100]
      · have hl:=hl0.trans (if_pos h4);clear hl0;subst h4
        rcases r with _|⟨a,t⟩
        · refine(zJi (Came rd s c [] ((if s.n=0 then none else(zBW []).map .recd)) W0 K L) rd wb cap q vB c [] hc hk h ?_).mono ?_
          · intro w2 h2;subst hc;exact k_rec rd wb 0 cap s q vB vR vH [] (fun y hy=>by cases hy) (Nat.zero_le _) hb hlib hs (zBk hk 0) h2
          · rintro en w' ⟨b,rfl,h2⟩;exact⟨b,rfl,by rw[hl];exact h2⟩
        · refine(zKs (Came rd s c [] ((if s.n=0 then none else(zBW (a::t)).map .recd)) W0 K L) rd wb t.length cap q vB c (a::t) hc (by simp at hr;omega) hk h ?_).mono ?_
          · intro w2 h2;subst hc;exact k_rec rd wb 1 cap s q vB vR vH (a::t) (fun y hy=>hx y (List.mem_cons_of_mem _ hy)) (by simp at hr ⊢;omega) hb hlib hs (zCz hk 1) h2
          · rintro en w' ⟨b,rfl,h2⟩;exact⟨b,rfl,by rw[hl];exact h2⟩
      rw[if_neg h4]at hl0
      by_cases h5:w0=[104,101,97,100,101,114]
      · have hl:=hl0.trans (if_pos h5);clear hl0;subst h5
        rcases r with _|⟨a,t⟩
        · refine(zJj (Came rd s c [] ((if s.n=0∨s.m=0 then none else(zDn []).map .hdr)) W0 K L) rd wb cap q vB c [] hc hk h ?_).mono ?_
          · intro w2 h2;subst hc;exact k_hdr rd wb 0 cap s q vB vR vH [] (fun y hy=>by cases hy) (Nat.zero_le _) hb hlib hs (zBk hk 0) h2
          · rintro en w' ⟨b,rfl,h2⟩;exact⟨b,rfl,by rw[hl];exact h2⟩
        · refine(zKt (Came rd s c [] ((if s.n=0∨s.m=0 then none else(zDn (a::t)).map .hdr)) W0 K L) rd wb t.length cap q vB c (a::t) hc (by simp at hr;omega) hk h ?_).mono ?_
          · intro w2 h2;subst hc;exact k_hdr rd wb 1 cap s q vB vR vH (a::t) (fun y hy=>hx y (List.mem_cons_of_mem _ hy)) (by simp at hr ⊢;omega) hb hlib hs (zCz hk 1) h2
          · rintro en w' ⟨b,rfl,h2⟩;exact⟨b,rfl,by rw[hl];exact h2⟩
      have hl:=hl0.trans (if_neg h5)
      rcases r with _|⟨a,t⟩
      · refine(zM8 rd wb cap q vB c w0 [] hc h1 h2 h3 h4 h5 hk h).mono ?_;rintro en w' ⟨rfl,h⟩;exact⟨_,rfl,.no hl (zAt h)⟩
      · refine(zON rd wb t.length cap q vB c w0 (a::t) hc h1 h2 h3 h4 h5 (by simp at hr;omega) hk h).mono ?_;rintro en w' ⟨rfl,h⟩;exact⟨_,rfl,.no hl (zAt h)⟩
    · have hl:=hl0.trans (if_pos hc)
      rcases r with _|⟨a,t⟩
      · refine(zOO rd wb cap q vB c w0 [] hc h1 hk h).mono ?_;rintro en w' ⟨rfl,h⟩;exact⟨_,rfl,.no hl (zAt h)⟩
      · refine(zP7 rd wb t.length cap q vB c w0 (a::t) hc h1 (by simp at hr;omega) hk h).mono ?_;rintro en w' ⟨rfl,h⟩;exact⟨_,rfl,.no hl (zAt h)⟩
  · have hl:zAO s.n s.m c (j::u) (w0::r)=none:=by simp[zAO]
    rcases r with _|⟨a,t⟩
    · refine(zJ0 rd wb cap q vB c w0 [] u.length hk h).mono ?_;rintro en w' ⟨rfl,h⟩;exact⟨_,rfl,.no hl (zAt h)⟩
    · refine(zLN rd wb t.length cap q vB c w0 (a::t) u.length (by simp at hr;omega) hk h).mono ?_;rintro en w' ⟨rfl,h⟩;exact⟨_,rfl,.no hl (zAt h)⟩
theorem zLT(rd wb nw:Nat)(s:BSt)(c:Int)(ch:List Int)(w0:Bs)(r:List Bs)(hnw:nw=(w0::r).length)(hx:∀y∈w0::r,y.length≤1000000)(hr:(w0::r).length≤1000000)(hb:s.n≤1000000∧s.m≤1000000∧s.p≤1000000)(hno:zAO s.n s.m c ch (w0::r)=none)(hlib:K.has Know.lib)(hk:K.has (Know.strw wb 0 (w0::r)))(hm:MemS rd s c ch W0 w K L):
  Calls Tryz.prog 81 #[.pointer (some ⟨rd,0,none⟩),.slice (some ⟨wb,0,none⟩) nw nw] w fun en w'=>∃K',en=.returned (.bool false)∧K'.has K∧St W0 w' K' L:=by
 subst hnw;refine(zNh rd wb s c ch w0 r hx hr hb hlib hk hm).mono ?_;rintro en w' ⟨b,rfl,K',hk',h⟩;rw[hno]at h;obtain⟨rfl,h⟩:=h;exact⟨K',rfl,hk',h⟩
theorem zJ6(rd wb nw:Nat)(s:BSt)(c:Int)(ch:List Int)(w0:Bs)(r:List Bs)(k:Said)(hnw:nw=(w0::r).length)(hx:∀y∈w0::r,y.length≤1000000)(hr:(w0::r).length≤1000000)(hb:s.n≤1000000∧s.m≤1000000∧s.p≤1000000)(hyes:zAO s.n s.m c ch (w0::r)=some k)(hlib:K.has Know.lib)(hk:K.has (Know.strw wb 0 (w0::r)))(hm:MemS rd s c ch W0 w K L):
  Calls Tryz.prog 81 #[.pointer (some ⟨rd,0,none⟩),.slice (some ⟨wb,0,none⟩) nw nw] w fun en w'=>∃K' vR vH,en=.returned (.bool true)∧K'.has K∧MemS rd (s.put vR vH k) (zEw c k) (chOf ch k) W0 w' K' L:=by
 subst hnw;refine(zNh rd wb s c ch w0 r hx hr hb hlib hk hm).mono ?_;rintro en w' ⟨b,rfl,K',hk',h⟩;rw[hyes]at h;obtain⟨rfl,vR,vH,h⟩:=h;exact⟨K',vR,vH,rfl,hk',h⟩
theorem zNu(n m:Nat)(c:Int)(ch:List Int)(ln:Nat)(l:Bs)(q:Bs)(r:List Bs)(h:zAO n m c ch (zAe 32 l)=none):zBF n m c ch ln (l::q::r)=ln:=by
 show(match zAO n m c ch (zAe 32 l)with|none=>ln|some k=>zBF (nOf n k) (mOf m k) (zEw c k) (chOf ch k) (ln+1) (q::r))=ln
 rw[h]
theorem zGX(n m:Nat)(c:Int)(ch:List Int)(ln:Nat)(l:Bs)(q:Bs)(r:List Bs)(k:Said)(h:zAO n m c ch (zAe 32 l)=some k):zBF n m c ch ln (l::q::r)=zBF (nOf n k) (mOf m k) (zEw c k) (chOf ch k) (ln+1) (q::r):=by
 show(match zAO n m c ch (zAe 32 l)with|none=>ln|some k=>zBF (nOf n k) (mOf m k) (zEw c k) (chOf ch k) (ln+1) (q::r))=_
 rw[h]
structure Upto (text t:Bs) (s:BSt) (c:Int) (ch:List Int) (ln:Nat):Prop where
  txt:txtS s c ch++t=text
  cut: -1≤c
  cutR:Rn c
  chR:∀v∈ch,Rn v
  fine:s.fine
  n:s.n≤ln
  m:s.m≤ln
  p:s.p≤ln
  one:1≤ln
  len:ln+t.length≤text.length+1
  rest:zBF s.n s.m c ch ln (zAe 10 t)=zBF 0 0 (-1) [] 1 (zAe 10 text)
theorem Upto.next{text t:Bs}{s:BSt}{c:Int}{ch:List Int}{ln i:Nat}{k:Said}(u:Upto text t s c ch ln)(hi:i<t.length)(hp:zAe 10 t=t.take i::zAe 10 (t.drop (i+1)))(hl:zAO s.n s.m c ch (zAe 32 (t.take i))=some k)(ht:t=t.take i++10::t.drop (i+1))(vR vH:Value):Upto text (t.drop (i+1)) (s.put vR vH k) (zEw c k) (chOf ch k) (ln+1):=by
 obtain⟨h1,h2,h3,h4,h5,h6,h7,h8⟩:=zO8 s c ch (t.take i) k vR vH u.cut u.cutR u.chR u.fine hl;have h9:nOf s.n k≤s.n+1:=by cases k<;>simp[nOf]
 have h10:mOf s.m k≤s.m+1:=by cases k<;>simp[mOf]
 have:=u.n;have:=u.m;have:=u.p;have:=u.len;refine⟨?_,h5,h6,h7,h8,by omega,by omega,by omega,by omega,by simp;omega,?_⟩
 · rw[h1,←u.txt]
   conv=>rhs;rw[ht]
   simp
 · rw[←u.rest,hp,h2,h3];obtain⟨q,r,e⟩:=zBB 10 (t.drop (i+1));rw[e,zGX _ _ _ _ _ _ _ _ k hl]
theorem zNs{c:UInt8}{t:Bs}{i:Nat}(_:i<t.length)(hp:zAe c t=t.take i::zAe c (t.drop (i+1))):t=t.take i++c::t.drop (i+1):=by
 have h1:=zCZ c t;obtain⟨q,r,e⟩:=zBB c (t.drop (i+1));rw[hp,e,zC0,←e,zCZ]at h1;exact h1.symm
theorem zFP(c:UInt8)(t:Bs):∀l:Bs,c∉l→zAe c (l++c::t)=l::zAe c t
  |[],_=>zCV c c t rfl
  |x::l,h=>by
    have hx:¬x=c:=fun e=>h (by simp[e])
    exact zA1 c x _ l _ hx (zFP c t l (fun hc=>h (List.mem_cons_of_mem _ hc)))
def zBo (ls:List Bs):Bs:=ls.flatMap fun l=>l++[10]
theorem zCj:∀ls:List Bs,(∀l∈ls,(10:UInt8)∉l)→zAe 10 (zBo ls)=ls++[[]]
  |[],_=>rfl
  |l::r,h=>by
    have e:zBo (l::r)=l++10::zBo r:=by unfold zBo;rw[List.flatMap_cons,List.append_assoc];rfl
    rw[e,zFP 10 _ l (h l (by simp)),zCj r (fun x hx=>h x (by simp[hx]))]
    rfl
theorem zKc(n m:Nat)(c:Int)(ch:List Int)(ln:Nat)(l:Bs)(X:List Bs)(hX:X≠[])(k:Said)(h:zAO n m c ch (zAe 32 l)=some k):zBF n m c ch ln (l::X)=zBF (nOf n k) (mOf m k) (zEw c k) (chOf ch k) (ln+1) X:=by
 cases X with
 |nil=>exact absurd rfl hX
 |cons q r=>exact zGX _ _ _ _ _ _ _ _ k h
def zA9 (s:Bs):Prop:=(32:UInt8)∉s∧(10:UInt8)∉s
theorem zBK{x:UInt8}{s:Bs}(h1:x≠32)(h2:x≠10)(h:zA9 s):zA9 (x::s):=
 ⟨fun hc=>by rcases List.mem_cons.1 hc with hc|hc;exact h1 hc.symm;exact h.1 hc,fun hc=>by rcases List.mem_cons.1 hc with hc|hc;exact h2 hc.symm;exact h.2 hc⟩
theorem zNr{s t:Bs}(h:zA9 s)(k:zA9 t):zA9 (s++t):=
 ⟨fun hc=>by rcases List.mem_append.1 hc with hc|hc;exact h.1 hc;exact k.1 hc,fun hc=>by rcases List.mem_append.1 hc with hc|hc;exact h.2 hc;exact k.2 hc⟩
theorem zDK:zA9 []:=⟨List.not_mem_nil,List.not_mem_nil⟩
theorem zE2(d:Nat)(h:d<10):UInt8.ofNat (48+d)≠32∧UInt8.ofNat (48+d)≠10:=by
 have e:=zDU d h
 constructor<;>(intro hc;rw[hc]at e;simp at e;omega)
theorem zIS(u:Nat):zA9 (Lib.decDigits u):=by
 induction u using Nat.strongRecOn with
 | _ u ih=>
  by_cases hs:u<10
  · rw[zDV hs];exact zBK (zE2 u hs).1 (zE2 u hs).2 zDK
  · rw[zH0 hs];exact zNr (ih (u / 10) (by omega)) (zBK (zE2 _ (by omega)).1 (zE2 _ (by omega)).2 zDK)
theorem zCI(n:Int):zA9 (numW n):=by
 unfold numW
 by_cases h0:n<0
 · obtain⟨u,rfl⟩:∃u:Nat,n= -(u:Int):=⟨n.natAbs,by omega⟩;rw[Lib.itoa_neg u (by omega)];exact zBK (by decide) (by decide) (zIS u)
 · obtain⟨u,rfl⟩:∃u:Nat,n=(u:Int):=⟨n.natAbs,by omega⟩;rw[Lib.itoa_nonneg];exact zIS u
theorem zFO:∀w:Bs,(32:UInt8)∉w→zAe 32 w=[w]
  |[],_=>rfl
  |x::t,h=>by
    have hx:¬x=32:=fun e=>h (by simp[e])
    rcases t with _|⟨y,t⟩
    · exact zA1 32 x [] [] [] hx rfl
    · exact zA1 32 x _ _ _ hx (zFO (y::t) (fun hc=>h (List.mem_cons_of_mem _ hc)))
theorem zFN:∀(w:Bs) (ws:List Bs),(32:UInt8)∉w→(∀x∈ws,(32:UInt8)∉x)→zAe 32 (w++ws.flatMap fun x=>32::x)=w::ws
  |w,[],h,_=>by rw[List.flatMap_nil,List.append_nil];exact zFO w h
  |w,x::t,h,hs=>by
    rw[List.flatMap_cons]
    show zAe 32 (w++32::(x++t.flatMap fun x=>32::x))=_
    rw[zFP 32 _ w h,zFN x t (hs x (by simp)) (fun y hy=>hs y (by simp[hy]))]
theorem zL1(b:BatS)(hb:batR b)(h0:b.recs=[]):zDp ((batN b).map numW++[letW b.app b.txn b.ctl])=some b:=by
 rw[zIJ _ _ (by simp[batN]),zCl (batN b) hb];obtain⟨h1,h2,h3,h4⟩:=zL7 b.app b.txn b.ctl;unfold batN;simp only;rw[if_pos h4,h1,h2,h3];obtain⟨_,_,_,_,_,_,_,_,_,_,_,_⟩:=b;simp only at h0;subst h0
 rfl
theorem zDO(s:Bs):hexV (hexW s)=(s,true):=by unfold hexV;rw[zG5]
theorem zNH(s:Bs):hexW s≠[110,111,110,101]:=by
 intro h;have h1:=zG5 s;rw[h]at h1;have h2:zHO [110,111,110,101]=none:=by decide+kernel
 rw[h2]at h1
 cases h1
theorem zEB(b:BlobS)(ho:oddB b=false):zAI (zAM b)=(b.null,b.data,true):=by
 unfold zAM
 by_cases hn:b.null=true
 · rw[if_pos hn,hn];unfold oddB at ho;rw[hn]at ho;have hd:b.data=[]:=by simpa using ho
   rw[hd]
   rfl
 · rw[if_neg hn];unfold zAI;rw[if_neg (zNH _),zDO];rw[Bool.not_eq_true]at hn;rw[hn]
theorem zLY(r:RecS)(h:zCe r)(h0:r.hdrs=[]):zBW [numW r.time,numW r.off,zAM r.key,zAM r.val]=some r:=by
 have h1:=zCl [r.time,r.off] (fun n hn=>by
  simp only[List.mem_cons,List.not_mem_nil,or_false]at hn
  rcases hn with rfl|rfl
  · exact h.2.2.2.1
  · exact h.2.2.2.2)
 have h2:=zEB r.key h.1;have h3:=zEB r.val h.2.1
 show(match zAf [numW r.time,numW r.off]with|some [t,o]=>if (zAI (zAM r.key)).2.2 && (zAI (zAM r.val)).2.2 then some (⟨t,o,⟨(zAI (zAM r.key)).1,(zAI (zAM r.key)).2.1⟩,⟨(zAI (zAM r.val)).1,(zAI (zAM r.val)).2.1⟩,[]⟩:RecS)else none| _=>none)=_
 rw[show zAf [numW r.time,numW r.off]=some [r.time,r.off]from h1,h2,h3];obtain⟨_,_,⟨_,_⟩,⟨_,_⟩,_⟩:=r;simp only at h0;subst h0
 rfl
theorem zLZ(z:HdrS)(h:oddB z.val=false):zDn [hexW z.key,zAM z.val]=some z:=by
 have h2:=zEB z.val h
 show(if (hexV (hexW z.key)).2 && (zAI (zAM z.val)).2.2 then some (⟨(hexV (hexW z.key)).1,⟨(zAI (zAM z.val)).1,(zAI (zAM z.val)).2.1⟩⟩:HdrS)else none)=_
 rw[zDO,h2];obtain⟨_,⟨_,_⟩⟩:=z
 rfl
theorem zL0(c:Int)(h:0≤c)(hr:Rn c):zDo [numW c]=some c:=by
 unfold zDo;simp only;rw[zG1 c hr];simp only;exact if_neg (by omega)
theorem zHG(l:List Int)(h0:l≠[])(hr:∀v∈l,Rn v):zAU (l.map numW)=some l:=by
 unfold zAU;rw[if_neg (by simpa using h0)];exact zCl l hr
theorem zGW:∀n,n<16→hexD n≠32∧hexD n≠10:=by decide
theorem zGV:∀s:Bs,zA9 (hexL s)
  |[]=>zDK
  |x::t=>by
    have h1:=zGW (x.toNat / 16) (by have:=x.toNat_lt;omega);have h2:=zGW (x.toNat % 16) (by omega);exact zBK h1.1 h1.2 (zBK h2.1 h2.2 (zGV t))
theorem zGU(s:Bs):zA9 (hexW s):=by
 unfold hexW
 split
 · exact zBK (by decide) (by decide) zDK
 · exact zGV s
theorem zEl(b:BlobS):zA9 (zAM b):=by
 unfold zAM
 split
 · exact⟨by decide,by decide⟩
 · exact zGU _
theorem zNq:∀a t c:Bool,zA9 (letW a t c):=by
 intro a t c
 cases a<;>cases t<;>cases c<;>exact⟨by decide,by decide⟩
def modL {α:Type}(f:α→α):List α→List α
  |[]=>[]
  |[x]=>[f x]
  |x::y::t=>x::modL f (y::t)
theorem zDL{α:Type}(f:α→α):∀(l:List α) (x:α),modL f (l++[x])=l++[f x]
  |[],_=>rfl
  |[_],_=>rfl
  |a::b::t,x=>by
    show a::modL f (b::(t++[x]))=_
    rw[show b::(t++[x])=(b::t)++[x]from rfl,zDL f (b::t) x]
    rfl
def BatS.with (b:BatS) (l:List RecS):BatS:=⟨b.base,b.leader,b.app,b.txn,b.ctl,b.last,b.first,b.maxt,b.prod,b.epoch,b.seq,l⟩
def BtR.val (x:BtR):BatS:=x.b.with (x.l.map (·.1))
def zJ2 (r:RecS) (h:HdrS):RecS:=⟨r.time,r.off,r.key,r.val,r.hdrs++[h]⟩
def appV (vs:List BatS):Said→List BatS
  | .bat b=>vs++[b.with []]
  | .recd r=>modL (fun b=>b.with (b.recs++[r])) vs
  | .hdr h=>modL (fun b=>b.with (modL (fun r=>zJ2 r h) b.recs)) vs
  | _=>vs
structure VS where
  vs:List BatS
  n:Nat
  m:Nat
  c:Int
  ch:List Int
def VS.app (v:VS) (k:Said):VS:=⟨appV v.vs k,nOf v.n k,mOf v.m k,zEw v.c k,chOf v.ch k⟩
def zCf (v:VS):List Bs→Option VS
  |[]=>some v
  |l::t=>match zAO v.n v.m v.c v.ch (zAe 32 l)with
    |none=>none
    |some k=>zCf (v.app k) t
end Go.Proofs.YtenojajfacacoaaGreatDoor
