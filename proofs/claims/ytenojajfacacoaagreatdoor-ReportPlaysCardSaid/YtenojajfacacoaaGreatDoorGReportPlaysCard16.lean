/- A text. -/
import Derived.Test.YtenojajfacacoaaGreatDoorGReportPlaysCard14
import Derived.Test.YtenojajfacacoaaGreatDoorGReportPlaysCard7
import Derived.RegionTactic
import Derived.WalkMore
import Derived.Deep.RegionHeld3
import Derived.Deep.DeepCutAuto
import Derived.Test.YtenojajfacacoaaGreatDoorGReportPlaysCard15
import Derived.Lib.Join
import Derived.Test.YtenojajfacacoaaGreatDoorGReportPlaysCard3
import Derived.Test.YtenojajfacacoaaGreatDoorGReportPlaysCard4
import Derived.Test.YtenojajfacacoaaGreatDoorGReportPlaysCard2
import Derived.Test.YtenojajfacacoaaGreatDoorGReportPlaysCard9
/- A text. -/
namespace Go.Proofs.YtenojajfacacoaaGreatDoor
open Go.RowKit
open Go.Value renaming bool→U, string→Z, slice→Ja, int→I, pointer→Jc
open Go.Ending renaming returned→Jb
open _root_.Nat renaming le_refl→Jo, zero_le→Ji, add_assoc→Jm
open Go.IntKind renaming i64→O
open _root_.Go.Proofs.Tryz renaming prog→Jd
open _root_.List renaming length_cons→Jg, take_of_length_le→Jj, length_take→Jk, length_append→Je, length→Jh, take→Jq, getElem_mem→Jp, length_drop→Jf, length_nil→Jl, length_map→Jn
set_option maxHeartbeats 4000000
set_option maxRecDepth 100000
variable {W0 w:World}{K:Know}{L:List Res}
theorem zLu(P:Bool→World→Prop)(rd wb cap:Nat)(q:Option Addr)(v:Value)(c:Int)(ws:List Bs)(hk:K.has (Know.strw wb 0 ([99,104,117,110,107,115]::ws)))(h:St W0 w K (.raw rd #[v,I O c,Ja q 0 cap] 122::L))
 (hcall:∀w2,St W0 w2 K (.raw rd #[v,I O c,Ja q 0 cap] 122::L)→Calls Jd 111 #[Jc (some ⟨rd,0,none⟩),Ja (some ⟨wb,0,none⟩) 0 0] w2 fun en w'=>∃b,en=Jb (U b)∧P b w'):
 Calls Jd 81 #[Jc (some ⟨rd,0,none⟩),Ja (some ⟨wb,0,none⟩) 1 1] w fun en w'=>∃b,en=Jb (U b)∧P b w':=by
 have c0:w.cell? ⟨wb,0,none⟩=some (Z (bb [99,104,117,110,107,115])):=zAB hk 0 _ rfl _ _ h;obtain⟨d0,d1,d2⟩:=uR3 ((h));simp at d0 d1 d2;have H:=hQd h;have HC:=hQd hcall
 skip
 clear h hk hcall;go_enter Tryz.func81,Tryz.ntmps81;go_upto_region 1 with fail
 go_region
 all_goals (
  go_wp2_with (go_at_call 111;(with_reducible refine(HC.out _ H.out.drew).mono ?_);rintro e_ wn ⟨b,rfl,h⟩;have H9:=hQd h;clear h);go_ret
  exact⟨_,rfl,H9.out⟩)
theorem zMN(P:Bool→World→Prop)(rd wb k cap:Nat)(q:Option Addr)(v:Value)(c:Int)(ws:List Bs)(hkb:k≤1000000)(hk:K.has (Know.strw wb 0 ([99,104,117,110,107,115]::ws)))(h:St W0 w K (.raw rd #[v,I O c,Ja q 0 cap] 122::L))
 (hcall:∀w2,St W0 w2 K (.raw rd #[v,I O c,Ja q 0 cap] 122::L)→Calls Jd 111 #[Jc (some ⟨rd,0,none⟩),Ja (some ⟨wb,1,none⟩) (k+1) (k+1)] w2 fun en w'=>∃b,en=Jb (U b)∧P b w'):
 Calls Jd 81 #[Jc (some ⟨rd,0,none⟩),Ja (some ⟨wb,0,none⟩) (k+2) (k+2)] w fun en w'=>∃b,en=Jb (U b)∧P b w':=by
 have c0:w.cell? ⟨wb,0,none⟩=some (Z (bb [99,104,117,110,107,115])):=zAB hk 0 _ rfl _ _ h;obtain⟨d0,d1,d2⟩:=uR3 ((h));simp at d0 d1 d2;have H:=hQd h;have HC:=hQd hcall;have q1:(1:Int)≤(k:Int)+2:=by omega
 clear h hk hcall;go_enter Tryz.func81,Tryz.ntmps81;go_upto_region 1 with fail
 go_region
 all_goals (
  go_wp2_with (go_at_call 111;(with_reducible refine(HC.out _ H.out.drew).mono ?_);rintro e_ wn ⟨b,rfl,h⟩;have H9:=hQd h;clear h);go_ret
  exact⟨_,rfl,H9.out⟩)
theorem zRa(P:Bool→World→Prop)(rd wb cap:Nat)(q:Option Addr)(v:Value)(c:Int)(ws:List Bs)(hc:c= -1)(hk:K.has (Know.strw wb 0 ([99,117,116]::ws)))(h:St W0 w K (.raw rd #[v,I O c,Ja q 0 cap] 122::L))
 (hcall:∀w2,St W0 w2 K (.raw rd #[v,I O c,Ja q 0 cap] 122::L)→Calls Jd 112 #[Jc (some ⟨rd,0,none⟩),Ja (some ⟨wb,0,none⟩) 0 0] w2 fun en w'=>∃b,en=Jb (U b)∧P b w'):
 Calls Jd 81 #[Jc (some ⟨rd,0,none⟩),Ja (some ⟨wb,0,none⟩) 1 1] w fun en w'=>∃b,en=Jb (U b)∧P b w':=by
 have c0:w.cell? ⟨wb,0,none⟩=some (Z (bb [99,117,116])):=zAB hk 0 _ rfl _ _ h;obtain⟨d0,d1,d2⟩:=uR3 ((h));simp at d0 d1 d2;subst hc;have H:=hQd h;have HC:=hQd hcall
 skip
 clear h hk hcall;go_enter Tryz.func81,Tryz.ntmps81;go_upto_region 1 with fail
 go_region
 all_goals (
  go_wp2_with (go_at_call 112;(with_reducible refine(HC.out _ H.out.drew).mono ?_);rintro e_ wn ⟨b,rfl,h⟩;have H9:=hQd h;clear h);go_ret
  exact⟨_,rfl,H9.out⟩)
theorem zSC(P:Bool→World→Prop)(rd wb k cap:Nat)(q:Option Addr)(v:Value)(c:Int)(ws:List Bs)(hc:c= -1)(hkb:k≤1000000)(hk:K.has (Know.strw wb 0 ([99,117,116]::ws)))(h:St W0 w K (.raw rd #[v,I O c,Ja q 0 cap] 122::L))
 (hcall:∀w2,St W0 w2 K (.raw rd #[v,I O c,Ja q 0 cap] 122::L)→Calls Jd 112 #[Jc (some ⟨rd,0,none⟩),Ja (some ⟨wb,1,none⟩) (k+1) (k+1)] w2 fun en w'=>∃b,en=Jb (U b)∧P b w'):
 Calls Jd 81 #[Jc (some ⟨rd,0,none⟩),Ja (some ⟨wb,0,none⟩) (k+2) (k+2)] w fun en w'=>∃b,en=Jb (U b)∧P b w':=by
 have c0:w.cell? ⟨wb,0,none⟩=some (Z (bb [99,117,116])):=zAB hk 0 _ rfl _ _ h;obtain⟨d0,d1,d2⟩:=uR3 ((h));simp at d0 d1 d2;subst hc;have H:=hQd h;have HC:=hQd hcall;have q1:(1:Int)≤(k:Int)+2:=by omega
 clear h hk hcall;go_enter Tryz.func81,Tryz.ntmps81;go_upto_region 1 with fail
 go_region
 all_goals (
  go_wp2_with (go_at_call 112;(with_reducible refine(HC.out _ H.out.drew).mono ?_);rintro e_ wn ⟨b,rfl,h⟩;have H9:=hQd h;clear h);go_ret
  exact⟨_,rfl,H9.out⟩)
theorem zMO(P:Bool→World→Prop)(rd wb cap:Nat)(q:Option Addr)(v:Value)(c:Int)(ws:List Bs)(hc:c= -1)(hk:K.has (Know.strw wb 0 ([98,97,116,99,104]::ws)))(h:St W0 w K (.raw rd #[v,I O c,Ja q 0 cap] 122::L))
 (hcall:∀w2,St W0 w2 K (.raw rd #[v,I O c,Ja q 0 cap] 122::L)→Calls Jd 113 #[Jc (some ⟨rd,0,none⟩),Ja (some ⟨wb,0,none⟩) 0 0] w2 fun en w'=>∃b,en=Jb (U b)∧P b w'):
 Calls Jd 81 #[Jc (some ⟨rd,0,none⟩),Ja (some ⟨wb,0,none⟩) 1 1] w fun en w'=>∃b,en=Jb (U b)∧P b w':=by
 have c0:w.cell? ⟨wb,0,none⟩=some (Z (bb [98,97,116,99,104])):=zAB hk 0 _ rfl _ _ h;obtain⟨d0,d1,d2⟩:=uR3 ((h));simp at d0 d1 d2;subst hc;have H:=hQd h;have HC:=hQd hcall
 skip
 clear h hk hcall;go_enter Tryz.func81,Tryz.ntmps81;go_upto_region 1 with fail
 go_region
 all_goals (
  go_wp2_with (go_at_call 113;(with_reducible refine(HC.out _ H.out.drew).mono ?_);rintro e_ wn ⟨b,rfl,h⟩;have H9:=hQd h;clear h);go_ret
  exact⟨_,rfl,H9.out⟩)
theorem zO1(P:Bool→World→Prop)(rd wb k cap:Nat)(q:Option Addr)(v:Value)(c:Int)(ws:List Bs)(hc:c= -1)(hkb:k≤1000000)(hk:K.has (Know.strw wb 0 ([98,97,116,99,104]::ws)))(h:St W0 w K (.raw rd #[v,I O c,Ja q 0 cap] 122::L))
 (hcall:∀w2,St W0 w2 K (.raw rd #[v,I O c,Ja q 0 cap] 122::L)→Calls Jd 113 #[Jc (some ⟨rd,0,none⟩),Ja (some ⟨wb,1,none⟩) (k+1) (k+1)] w2 fun en w'=>∃b,en=Jb (U b)∧P b w'):
 Calls Jd 81 #[Jc (some ⟨rd,0,none⟩),Ja (some ⟨wb,0,none⟩) (k+2) (k+2)] w fun en w'=>∃b,en=Jb (U b)∧P b w':=by
 have c0:w.cell? ⟨wb,0,none⟩=some (Z (bb [98,97,116,99,104])):=zAB hk 0 _ rfl _ _ h;obtain⟨d0,d1,d2⟩:=uR3 ((h));simp at d0 d1 d2;subst hc;have H:=hQd h;have HC:=hQd hcall;have q1:(1:Int)≤(k:Int)+2:=by omega
 clear h hk hcall;go_enter Tryz.func81,Tryz.ntmps81;go_upto_region 1 with fail
 go_region
 all_goals (
  go_wp2_with (go_at_call 113;(with_reducible refine(HC.out _ H.out.drew).mono ?_);rintro e_ wn ⟨b,rfl,h⟩;have H9:=hQd h;clear h);go_ret
  exact⟨_,rfl,H9.out⟩)
theorem zLs(P:Bool→World→Prop)(rd wb cap:Nat)(q:Option Addr)(v:Value)(c:Int)(ws:List Bs)(hc:c= -1)(hk:K.has (Know.strw wb 0 ([114,101,99,111,114,100]::ws)))(h:St W0 w K (.raw rd #[v,I O c,Ja q 0 cap] 122::L))
 (hcall:∀w2,St W0 w2 K (.raw rd #[v,I O c,Ja q 0 cap] 122::L)→Calls Jd 114 #[Jc (some ⟨rd,0,none⟩),Ja (some ⟨wb,0,none⟩) 0 0] w2 fun en w'=>∃b,en=Jb (U b)∧P b w'):
 Calls Jd 81 #[Jc (some ⟨rd,0,none⟩),Ja (some ⟨wb,0,none⟩) 1 1] w fun en w'=>∃b,en=Jb (U b)∧P b w':=by
 have c0:w.cell? ⟨wb,0,none⟩=some (Z (bb [114,101,99,111,114,100])):=zAB hk 0 _ rfl _ _ h;obtain⟨d0,d1,d2⟩:=uR3 ((h));simp at d0 d1 d2;subst hc;have H:=hQd h;have HC:=hQd hcall
 skip
 clear h hk hcall;go_enter Tryz.func81,Tryz.ntmps81;go_upto_region 1 with fail
 go_region
 all_goals (
  go_wp2_with (go_at_call 114;(with_reducible refine(HC.out _ H.out.drew).mono ?_);rintro e_ wn ⟨b,rfl,h⟩;have H9:=hQd h;clear h);go_ret
  exact⟨_,rfl,H9.out⟩)
theorem zML(P:Bool→World→Prop)(rd wb k cap:Nat)(q:Option Addr)(v:Value)(c:Int)(ws:List Bs)(hc:c= -1)(hkb:k≤1000000)(hk:K.has (Know.strw wb 0 ([114,101,99,111,114,100]::ws)))(h:St W0 w K (.raw rd #[v,I O c,Ja q 0 cap] 122::L))
 (hcall:∀w2,St W0 w2 K (.raw rd #[v,I O c,Ja q 0 cap] 122::L)→Calls Jd 114 #[Jc (some ⟨rd,0,none⟩),Ja (some ⟨wb,1,none⟩) (k+1) (k+1)] w2 fun en w'=>∃b,en=Jb (U b)∧P b w'):
 Calls Jd 81 #[Jc (some ⟨rd,0,none⟩),Ja (some ⟨wb,0,none⟩) (k+2) (k+2)] w fun en w'=>∃b,en=Jb (U b)∧P b w':=by
 have c0:w.cell? ⟨wb,0,none⟩=some (Z (bb [114,101,99,111,114,100])):=zAB hk 0 _ rfl _ _ h;obtain⟨d0,d1,d2⟩:=uR3 ((h));simp at d0 d1 d2;subst hc;have H:=hQd h;have HC:=hQd hcall;have q1:(1:Int)≤(k:Int)+2:=by omega
 clear h hk hcall;go_enter Tryz.func81,Tryz.ntmps81;go_upto_region 1 with fail
 go_region
 all_goals (
  go_wp2_with (go_at_call 114;(with_reducible refine(HC.out _ H.out.drew).mono ?_);rintro e_ wn ⟨b,rfl,h⟩;have H9:=hQd h;clear h);go_ret
  exact⟨_,rfl,H9.out⟩)
theorem zLt(P:Bool→World→Prop)(rd wb cap:Nat)(q:Option Addr)(v:Value)(c:Int)(ws:List Bs)(hc:c= -1)(hk:K.has (Know.strw wb 0 ([104,101,97,100,101,114]::ws)))(h:St W0 w K (.raw rd #[v,I O c,Ja q 0 cap] 122::L))
 (hcall:∀w2,St W0 w2 K (.raw rd #[v,I O c,Ja q 0 cap] 122::L)→Calls Jd 115 #[Jc (some ⟨rd,0,none⟩),Ja (some ⟨wb,0,none⟩) 0 0] w2 fun en w'=>∃b,en=Jb (U b)∧P b w'):
 Calls Jd 81 #[Jc (some ⟨rd,0,none⟩),Ja (some ⟨wb,0,none⟩) 1 1] w fun en w'=>∃b,en=Jb (U b)∧P b w':=by
 have c0:w.cell? ⟨wb,0,none⟩=some (Z (bb [104,101,97,100,101,114])):=zAB hk 0 _ rfl _ _ h;obtain⟨d0,d1,d2⟩:=uR3 ((h));simp at d0 d1 d2;subst hc;have H:=hQd h;have HC:=hQd hcall
 skip
 clear h hk hcall;go_enter Tryz.func81,Tryz.ntmps81;go_upto_region 1 with fail
 go_region
 all_goals (
  go_wp2_with (go_at_call 115;(with_reducible refine(HC.out _ H.out.drew).mono ?_);rintro e_ wn ⟨b,rfl,h⟩;have H9:=hQd h;clear h);go_ret
  exact⟨_,rfl,H9.out⟩)
theorem zMM(P:Bool→World→Prop)(rd wb k cap:Nat)(q:Option Addr)(v:Value)(c:Int)(ws:List Bs)(hc:c= -1)(hkb:k≤1000000)(hk:K.has (Know.strw wb 0 ([104,101,97,100,101,114]::ws)))(h:St W0 w K (.raw rd #[v,I O c,Ja q 0 cap] 122::L))
 (hcall:∀w2,St W0 w2 K (.raw rd #[v,I O c,Ja q 0 cap] 122::L)→Calls Jd 115 #[Jc (some ⟨rd,0,none⟩),Ja (some ⟨wb,1,none⟩) (k+1) (k+1)] w2 fun en w'=>∃b,en=Jb (U b)∧P b w'):
 Calls Jd 81 #[Jc (some ⟨rd,0,none⟩),Ja (some ⟨wb,0,none⟩) (k+2) (k+2)] w fun en w'=>∃b,en=Jb (U b)∧P b w':=by
 have c0:w.cell? ⟨wb,0,none⟩=some (Z (bb [104,101,97,100,101,114])):=zAB hk 0 _ rfl _ _ h;obtain⟨d0,d1,d2⟩:=uR3 ((h));simp at d0 d1 d2;subst hc;have H:=hQd h;have HC:=hQd hcall;have q1:(1:Int)≤(k:Int)+2:=by omega
 clear h hk hcall;go_enter Tryz.func81,Tryz.ntmps81;go_upto_region 1 with fail
 go_region
 all_goals (
  go_wp2_with (go_at_call 115;(with_reducible refine(HC.out _ H.out.drew).mono ?_);rintro e_ wn ⟨b,rfl,h⟩;have H9:=hQd h;clear h);go_ret
  exact⟨_,rfl,H9.out⟩)
variable {W0 w:World}{K:Know}{L:List Res}
theorem zL8(rd wb cap:Nat)(q:Option Addr)(v:Value)(c:Int)(w0:Bs)(ws:List Bs)(j:Nat)(hk:K.has (Know.strw wb 0 (w0::ws)))(h:St W0 w K (.raw rd #[v,I O c,Ja q (j+1) cap] 122::L)):
 Calls Jd 81 #[Jc (some ⟨rd,0,none⟩),Ja (some ⟨wb,0,none⟩) 1 1] w fun en w'=>en=Jb (U false)∧St W0 w' K L:=by
 have c0:w.cell? ⟨wb,0,none⟩=some (Z (bb w0)):=zAB hk 0 _ rfl _ _ h;obtain⟨d0,d1,d2⟩:=uR3 ((h));simp at d0 d1 d2;have z1:(0:Int)<(j:Int)+1:=by omega
 have H:=hQd h
 skip
 clear h hk;go_enter Tryz.func81,Tryz.ntmps81;go_upto_region 1 with fail
 go_region
 all_goals (
  go_wp2_with fail;go_ret
  exact⟨rfl,H.out.drew.drop⟩)
theorem zR0(rd wb cap:Nat)(q:Option Addr)(v:Value)(c:Int)(w0:Bs)(ws:List Bs)(hc:c≠ -1)(h1:w0≠[99,104,117,110,107,115])(hk:K.has (Know.strw wb 0 (w0::ws)))(h:St W0 w K (.raw rd #[v,I O c,Ja q 0 cap] 122::L)):
 Calls Jd 81 #[Jc (some ⟨rd,0,none⟩),Ja (some ⟨wb,0,none⟩) 1 1] w fun en w'=>en=Jb (U false)∧St W0 w' K L:=by
 have c0:w.cell? ⟨wb,0,none⟩=some (Z (bb w0)):=zAB hk 0 _ rfl _ _ h;obtain⟨d0,d1,d2⟩:=uR3 ((h));simp at d0 d1 d2;have e1:(w0==[99,104,117,110,107,115])=false:=by rw[beq_eq_false_iff_ne];exact h1
 have g1:([99,104,117,110,107,115]==w0)=false:=by rw[beq_eq_false_iff_ne];exact fun h=>h1 h.symm
 have z1:(c== -1)=false:=by rw[beq_eq_false_iff_ne];exact hc
 have z2:(c != -1)=true:=by simp[bne,z1]
 have H:=hQd h
 skip
 clear h hk hc h1;go_enter Tryz.func81,Tryz.ntmps81;go_upto_region 1 with fail
 go_region
 all_goals (
  go_wp2_with fail;go_ret
  exact⟨rfl,H.out.drew.drop⟩)
theorem zKC(rd wb cap:Nat)(q:Option Addr)(v:Value)(c:Int)(w0:Bs)(ws:List Bs)(hc:c= -1)(h1:w0≠[99,104,117,110,107,115])(h2:w0≠[99,117,116])(h3:w0≠[98,97,116,99,104])(h4:w0≠[114,101,99,111,114,100])(h5:w0≠[104,101,97,100,101,114])(hk:K.has (Know.strw wb 0 (w0::ws)))(h:St W0 w K (.raw rd #[v,I O c,Ja q 0 cap] 122::L)):
 Calls Jd 81 #[Jc (some ⟨rd,0,none⟩),Ja (some ⟨wb,0,none⟩) 1 1] w fun en w'=>en=Jb (U false)∧St W0 w' K L:=by
 have c0:w.cell? ⟨wb,0,none⟩=some (Z (bb w0)):=zAB hk 0 _ rfl _ _ h;obtain⟨d0,d1,d2⟩:=uR3 ((h));simp at d0 d1 d2;subst hc;have e1:(w0==[99,104,117,110,107,115])=false:=by rw[beq_eq_false_iff_ne];exact h1
 have g1:([99,104,117,110,107,115]==w0)=false:=by rw[beq_eq_false_iff_ne];exact fun h=>h1 h.symm
 have e2:(w0==[99,117,116])=false:=by rw[beq_eq_false_iff_ne];exact h2
 have g2:([99,117,116]==w0)=false:=by rw[beq_eq_false_iff_ne];exact fun h=>h2 h.symm
 have e3:(w0==[98,97,116,99,104])=false:=by rw[beq_eq_false_iff_ne];exact h3
 have g3:([98,97,116,99,104]==w0)=false:=by rw[beq_eq_false_iff_ne];exact fun h=>h3 h.symm
 have e4:(w0==[114,101,99,111,114,100])=false:=by rw[beq_eq_false_iff_ne];exact h4
 have g4:([114,101,99,111,114,100]==w0)=false:=by rw[beq_eq_false_iff_ne];exact fun h=>h4 h.symm
 have e5:(w0==[104,101,97,100,101,114])=false:=by rw[beq_eq_false_iff_ne];exact h5
 have g5:([104,101,97,100,101,114]==w0)=false:=by rw[beq_eq_false_iff_ne];exact fun h=>h5 h.symm
 have H:=hQd h
 skip
 clear h hk h1 h2 h3 h4 h5;go_enter Tryz.func81,Tryz.ntmps81;go_upto_region 1 with fail
 go_region
 all_goals (
  go_wp2_with fail;go_ret
  exact⟨rfl,H.out.drew.drop⟩)
theorem zOp(rd wb k cap:Nat)(q:Option Addr)(v:Value)(c:Int)(w0:Bs)(ws:List Bs)(j:Nat)(hkb:k≤1000000)(hk:K.has (Know.strw wb 0 (w0::ws)))(h:St W0 w K (.raw rd #[v,I O c,Ja q (j+1) cap] 122::L)):
 Calls Jd 81 #[Jc (some ⟨rd,0,none⟩),Ja (some ⟨wb,0,none⟩) (k+2) (k+2)] w fun en w'=>en=Jb (U false)∧St W0 w' K L:=by
 have c0:w.cell? ⟨wb,0,none⟩=some (Z (bb w0)):=zAB hk 0 _ rfl _ _ h;obtain⟨d0,d1,d2⟩:=uR3 ((h));simp at d0 d1 d2;have z1:(0:Int)<(j:Int)+1:=by omega
 have H:=hQd h;have q1:(1:Int)≤(k:Int)+2:=by omega
 clear h hk;go_enter Tryz.func81,Tryz.ntmps81;go_upto_region 1 with fail
 go_region
 all_goals (
  go_wp2_with fail;go_ret
  exact⟨rfl,H.out.drew.drop⟩)
theorem zTD(rd wb k cap:Nat)(q:Option Addr)(v:Value)(c:Int)(w0:Bs)(ws:List Bs)(hc:c≠ -1)(h1:w0≠[99,104,117,110,107,115])(hkb:k≤1000000)(hk:K.has (Know.strw wb 0 (w0::ws)))(h:St W0 w K (.raw rd #[v,I O c,Ja q 0 cap] 122::L)):
 Calls Jd 81 #[Jc (some ⟨rd,0,none⟩),Ja (some ⟨wb,0,none⟩) (k+2) (k+2)] w fun en w'=>en=Jb (U false)∧St W0 w' K L:=by
 have c0:w.cell? ⟨wb,0,none⟩=some (Z (bb w0)):=zAB hk 0 _ rfl _ _ h;obtain⟨d0,d1,d2⟩:=uR3 ((h));simp at d0 d1 d2;have e1:(w0==[99,104,117,110,107,115])=false:=by rw[beq_eq_false_iff_ne];exact h1
 have g1:([99,104,117,110,107,115]==w0)=false:=by rw[beq_eq_false_iff_ne];exact fun h=>h1 h.symm
 have z1:(c== -1)=false:=by rw[beq_eq_false_iff_ne];exact hc
 have z2:(c != -1)=true:=by simp[bne,z1]
 have H:=hQd h;have q1:(1:Int)≤(k:Int)+2:=by omega
 clear h hk hc h1;go_enter Tryz.func81,Tryz.ntmps81;go_upto_region 1 with fail
 go_region
 all_goals (
  go_wp2_with fail;go_ret
  exact⟨rfl,H.out.drew.drop⟩)
theorem zRY(rd wb k cap:Nat)(q:Option Addr)(v:Value)(c:Int)(w0:Bs)(ws:List Bs)(hc:c= -1)(h1:w0≠[99,104,117,110,107,115])(h2:w0≠[99,117,116])(h3:w0≠[98,97,116,99,104])(h4:w0≠[114,101,99,111,114,100])(h5:w0≠[104,101,97,100,101,114])(hkb:k≤1000000)(hk:K.has (Know.strw wb 0 (w0::ws)))(h:St W0 w K (.raw rd #[v,I O c,Ja q 0 cap] 122::L)):
 Calls Jd 81 #[Jc (some ⟨rd,0,none⟩),Ja (some ⟨wb,0,none⟩) (k+2) (k+2)] w fun en w'=>en=Jb (U false)∧St W0 w' K L:=by
 have c0:w.cell? ⟨wb,0,none⟩=some (Z (bb w0)):=zAB hk 0 _ rfl _ _ h;obtain⟨d0,d1,d2⟩:=uR3 ((h));simp at d0 d1 d2;subst hc;have e1:(w0==[99,104,117,110,107,115])=false:=by rw[beq_eq_false_iff_ne];exact h1
 have g1:([99,104,117,110,107,115]==w0)=false:=by rw[beq_eq_false_iff_ne];exact fun h=>h1 h.symm
 have e2:(w0==[99,117,116])=false:=by rw[beq_eq_false_iff_ne];exact h2
 have g2:([99,117,116]==w0)=false:=by rw[beq_eq_false_iff_ne];exact fun h=>h2 h.symm
 have e3:(w0==[98,97,116,99,104])=false:=by rw[beq_eq_false_iff_ne];exact h3
 have g3:([98,97,116,99,104]==w0)=false:=by rw[beq_eq_false_iff_ne];exact fun h=>h3 h.symm
 have e4:(w0==[114,101,99,111,114,100])=false:=by rw[beq_eq_false_iff_ne];exact h4
 have g4:([114,101,99,111,114,100]==w0)=false:=by rw[beq_eq_false_iff_ne];exact fun h=>h4 h.symm
 have e5:(w0==[104,101,97,100,101,114])=false:=by rw[beq_eq_false_iff_ne];exact h5
 have g5:([104,101,97,100,101,114]==w0)=false:=by rw[beq_eq_false_iff_ne];exact fun h=>h5 h.symm
 have H:=hQd h;have q1:(1:Int)≤(k:Int)+2:=by omega
 clear h hk h1 h2 h3 h4 h5;go_enter Tryz.func81,Tryz.ntmps81;go_upto_region 1 with fail
 go_region
 all_goals (
  go_wp2_with fail;go_ret
  exact⟨rfl,H.out.drew.drop⟩)
theorem zQa(rd wb:Nat)(s:BSt)(c:Int)(ch:List Int)(w0:Bs)(r:List Bs)(hx:∀y∈w0::r,y.length≤1000000)(hr:(w0::r).length≤1000000)(hb:s.n≤1000000∧s.m≤1000000∧s.p≤1000000){W0 w:World}{K:Know}{L:List Res}(hlib:K.has Know.lib)(hk:K.has (Know.strw wb 0 (w0::r)))(hm:MemS rd s c ch W0 w K L):
 Calls Jd 81 #[Jc (some ⟨rd,0,none⟩),Ja (some ⟨wb,0,none⟩) (w0::r).length (w0::r).length] w fun en w'=>∃b,en=Jb (U b)∧Came rd s c ch (zBd s.n s.m c ch (w0::r)) W0 K L b w':=by
 obtain⟨vB,vR,vH,q,cap,h,hs,hf⟩:=hm
 rcases ch with _|⟨j,u⟩
 ·have h:St W0 w K (.raw rd #[vB,I O c,Ja q 0 cap] 122::s.rows vB vR vH L):=h
  have hl0:zBd s.n s.m c [] (w0::r)=if w0=[99,104,117,110,107,115]then(zBl r).map .chunks
   else if c≠ -1 then none
   else if w0=[99,117,116]then(zEu r).map .cut
   else if w0=[98,97,116,99,104]then(zEv r).map .bat
   else if w0=[114,101,99,111,114,100]then(if s.n=0 then none else(zCR r).map .recd)
   else if w0=[104,101,97,100,101,114]then(if s.n=0∨s.m=0 then none else(zEt r).map .hdr)
   else none:=rfl
  by_cases h1:w0=[99,104,117,110,107,115]
  ·have hl:=hl0.trans (if_pos h1);clear hl0;subst h1
   rcases r with _|⟨a,t⟩
   ·refine(zLu (Came rd s c [] (((zBl []).map .chunks)) W0 K L) rd wb cap q vB c [] hk h ?_).mono ?_
    ·intro w2 h2
     exact zNF rd wb 0 cap s c q vB vR vH [] (fun y hy=>by cases hy) (Ji _) hb hlib hs (zBR hk 0) h2
    ·rintro en w' ⟨b,rfl,h2⟩;exact⟨b,rfl,by rw[hl];exact h2⟩
   ·refine(zMN (Came rd s c [] (((zBl (a::t)).map .chunks)) W0 K L) rd wb t.length cap q vB c (a::t) (by simp at hr;omega) hk h ?_).mono ?_
    ·intro w2 h2
     exact zNF rd wb 1 cap s c q vB vR vH (a::t) (fun y hy=>hx y (List.mem_cons_of_mem _ hy)) (by simp at hr ⊢;omega) hb hlib hs (zDy hk 1) h2
    ·rintro en w' ⟨b,rfl,h2⟩;exact⟨b,rfl,by rw[hl];exact h2⟩
  rw[if_neg h1]at hl0
  by_cases hc:c= -1
  ·rw[if_neg (fun h=>h hc)]at hl0
   by_cases h2:w0=[99,117,116]
   ·have hl:=hl0.trans (if_pos h2);clear hl0;subst h2
    rcases r with _|⟨a,t⟩
    ·refine(zRa (Came rd s c [] (((zEu []).map .cut)) W0 K L) rd wb cap q vB c [] hc hk h ?_).mono ?_
     ·intro w2 h2;subst hc;exact k_cut rd wb 0 cap s q vB vR vH [] (fun y hy=>by cases hy) (Ji _) hb hlib hs (zBR hk 0) h2
     ·rintro en w' ⟨b,rfl,h2⟩;exact⟨b,rfl,by rw[hl];exact h2⟩
    ·refine(zSC (Came rd s c [] (((zEu (a::t)).map .cut)) W0 K L) rd wb t.length cap q vB c (a::t) hc (by simp at hr;omega) hk h ?_).mono ?_
     ·intro w2 h2;subst hc;exact k_cut rd wb 1 cap s q vB vR vH (a::t) (fun y hy=>hx y (List.mem_cons_of_mem _ hy)) (by simp at hr ⊢;omega) hb hlib hs (zDy hk 1) h2
     ·rintro en w' ⟨b,rfl,h2⟩;exact⟨b,rfl,by rw[hl];exact h2⟩
   rw[if_neg h2]at hl0
   by_cases h3:w0=[98,97,116,99,104]
   ·have hl:=hl0.trans (if_pos h3);clear hl0;subst h3
    rcases r with _|⟨a,t⟩
    ·refine(zMO (Came rd s c [] (((zEv []).map .bat)) W0 K L) rd wb cap q vB c [] hc hk h ?_).mono ?_
     ·intro w2 h2;subst hc;exact k_bat rd wb 0 cap s q vB vR vH [] (fun y hy=>by cases hy) (Ji _) hb hlib hs (zBR hk 0) h2
     ·rintro en w' ⟨b,rfl,h2⟩;exact⟨b,rfl,by rw[hl];exact h2⟩
    ·refine(zO1 (Came rd s c [] (((zEv (a::t)).map .bat)) W0 K L) rd wb t.length cap q vB c (a::t) hc (by simp at hr;omega) hk h ?_).mono ?_
     ·intro w2 h2;subst hc;exact k_bat rd wb 1 cap s q vB vR vH (a::t) (fun y hy=>hx y (List.mem_cons_of_mem _ hy)) (by simp at hr ⊢;omega) hb hlib hs (zDy hk 1) h2
     ·rintro en w' ⟨b,rfl,h2⟩;exact⟨b,rfl,by rw[hl];exact h2⟩
   rw[if_neg h3]at hl0
   by_cases h4:w0=[114,101,99,111,114,100]
   ·have hl:=hl0.trans (if_pos h4);clear hl0;subst h4
    rcases r with _|⟨a,t⟩
    ·refine(zLs (Came rd s c [] ((if s.n=0 then none else(zCR []).map .recd)) W0 K L) rd wb cap q vB c [] hc hk h ?_).mono ?_
     ·intro w2 h2;subst hc;exact k_rec rd wb 0 cap s q vB vR vH [] (fun y hy=>by cases hy) (Ji _) hb hlib hs (zBR hk 0) h2
     ·rintro en w' ⟨b,rfl,h2⟩;exact⟨b,rfl,by rw[hl];exact h2⟩
    ·refine(zML (Came rd s c [] ((if s.n=0 then none else(zCR (a::t)).map .recd)) W0 K L) rd wb t.length cap q vB c (a::t) hc (by simp at hr;omega) hk h ?_).mono ?_
     ·intro w2 h2;subst hc;exact k_rec rd wb 1 cap s q vB vR vH (a::t) (fun y hy=>hx y (List.mem_cons_of_mem _ hy)) (by simp at hr ⊢;omega) hb hlib hs (zDy hk 1) h2
     ·rintro en w' ⟨b,rfl,h2⟩;exact⟨b,rfl,by rw[hl];exact h2⟩
   rw[if_neg h4]at hl0
   by_cases h5:w0=[104,101,97,100,101,114]
   ·have hl:=hl0.trans (if_pos h5);clear hl0;subst h5
    rcases r with _|⟨a,t⟩
    ·refine(zLt (Came rd s c [] ((if s.n=0∨s.m=0 then none else(zEt []).map .hdr)) W0 K L) rd wb cap q vB c [] hc hk h ?_).mono ?_
     ·intro w2 h2;subst hc;exact k_hdr rd wb 0 cap s q vB vR vH [] (fun y hy=>by cases hy) (Ji _) hb hlib hs (zBR hk 0) h2
     ·rintro en w' ⟨b,rfl,h2⟩;exact⟨b,rfl,by rw[hl];exact h2⟩
    ·refine(zMM (Came rd s c [] ((if s.n=0∨s.m=0 then none else(zEt (a::t)).map .hdr)) W0 K L) rd wb t.length cap q vB c (a::t) hc (by simp at hr;omega) hk h ?_).mono ?_
     ·intro w2 h2;subst hc;exact k_hdr rd wb 1 cap s q vB vR vH (a::t) (fun y hy=>hx y (List.mem_cons_of_mem _ hy)) (by simp at hr ⊢;omega) hb hlib hs (zDy hk 1) h2
     ·rintro en w' ⟨b,rfl,h2⟩;exact⟨b,rfl,by rw[hl];exact h2⟩
   have hl:=hl0.trans (if_neg h5)
   rcases r with _|⟨a,t⟩
   ·refine(zKC rd wb cap q vB c w0 [] hc h1 h2 h3 h4 h5 hk h).mono ?_;rintro en w' ⟨rfl,h⟩;exact⟨_,rfl,.no hl (zAF h)⟩
   ·refine(zRY rd wb t.length cap q vB c w0 (a::t) hc h1 h2 h3 h4 h5 (by simp at hr;omega) hk h).mono ?_;rintro en w' ⟨rfl,h⟩;exact⟨_,rfl,.no hl (zAF h)⟩
  ·have hl:=hl0.trans (if_pos hc)
   rcases r with _|⟨a,t⟩
   ·refine(zR0 rd wb cap q vB c w0 [] hc h1 hk h).mono ?_;rintro en w' ⟨rfl,h⟩;exact⟨_,rfl,.no hl (zAF h)⟩
   ·refine(zTD rd wb t.length cap q vB c w0 (a::t) hc h1 (by simp at hr;omega) hk h).mono ?_;rintro en w' ⟨rfl,h⟩;exact⟨_,rfl,.no hl (zAF h)⟩
 ·have hl:zBd s.n s.m c (j::u) (w0::r)=none:=by simp[zBd]
  rcases r with _|⟨a,t⟩
  ·refine(zL8 rd wb cap q vB c w0 [] u.length hk h).mono ?_;rintro en w' ⟨rfl,h⟩;exact⟨_,rfl,.no hl (zAF h)⟩
  ·refine(zOp rd wb t.length cap q vB c w0 (a::t) u.length (by simp at hr;omega) hk h).mono ?_;rintro en w' ⟨rfl,h⟩;exact⟨_,rfl,.no hl (zAF h)⟩
theorem zOx(rd wb nw:Nat)(s:BSt)(c:Int)(ch:List Int)(w0:Bs)(r:List Bs)(hnw:nw=(w0::r).length)(hx:∀y∈w0::r,y.length≤1000000)(hr:(w0::r).length≤1000000)(hb:s.n≤1000000∧s.m≤1000000∧s.p≤1000000)(hno:zBd s.n s.m c ch (w0::r)=none)(hlib:K.has Know.lib)(hk:K.has (Know.strw wb 0 (w0::r)))(hm:MemS rd s c ch W0 w K L):
 Calls Jd 81 #[Jc (some ⟨rd,0,none⟩),Ja (some ⟨wb,0,none⟩) nw nw] w fun en w'=>∃K',en=Jb (U false)∧K'.has K∧St W0 w' K' L:=by
 subst hnw;refine(zQa rd wb s c ch w0 r hx hr hb hlib hk hm).mono ?_;rintro en w' ⟨b,rfl,K',hk',h⟩;rw[hno]at h;obtain⟨rfl,h⟩:=h;exact⟨K',rfl,hk',h⟩
theorem zMn(rd wb nw:Nat)(s:BSt)(c:Int)(ch:List Int)(w0:Bs)(r:List Bs)(k:Said)(hnw:nw=(w0::r).length)(hx:∀y∈w0::r,y.length≤1000000)(hr:(w0::r).length≤1000000)(hb:s.n≤1000000∧s.m≤1000000∧s.p≤1000000)(hyes:zBd s.n s.m c ch (w0::r)=some k)(hlib:K.has Know.lib)(hk:K.has (Know.strw wb 0 (w0::r)))(hm:MemS rd s c ch W0 w K L):
 Calls Jd 81 #[Jc (some ⟨rd,0,none⟩),Ja (some ⟨wb,0,none⟩) nw nw] w fun en w'=>∃K' vR vH,en=Jb (U true)∧K'.has K∧MemS rd (s.put vR vH k) (zFU c k) (chOf ch k) W0 w' K' L:=by
 subst hnw;refine(zQa rd wb s c ch w0 r hx hr hb hlib hk hm).mono ?_;rintro en w' ⟨b,rfl,K',hk',h⟩;rw[hyes]at h;obtain⟨rfl,vR,vH,h⟩:=h;exact⟨K',vR,vH,rfl,hk',h⟩
theorem zQr(n m:Nat)(c:Int)(ch:List Int)(ln:Nat)(l:Bs)(q:Bs)(r:List Bs)(h:zBd n m c ch (zAv 32 l)=none):zCm n m c ch ln (l::q::r)=ln:=by
 show(match zBd n m c ch (zAv 32 l)with|none=>ln|some k=>zCm (nOf n k) (mOf m k) (zFU c k) (chOf ch k) (ln+1) (q::r))=ln
 rw[h]
theorem zIO(n m:Nat)(c:Int)(ch:List Int)(ln:Nat)(l:Bs)(q:Bs)(r:List Bs)(k:Said)(h:zBd n m c ch (zAv 32 l)=some k):zCm n m c ch ln (l::q::r)=zCm (nOf n k) (mOf m k) (zFU c k) (chOf ch k) (ln+1) (q::r):=by
 show(match zBd n m c ch (zAv 32 l)with|none=>ln|some k=>zCm (nOf n k) (mOf m k) (zFU c k) (chOf ch k) (ln+1) (q::r))=_
 rw[h]
structure Upto (text t:Bs) (s:BSt) (c:Int) (ch:List Int) (ln:Nat):Prop where
 txt:txtS s c ch++t=text
 cut: -1≤c
 cutR:Rn c
 chR:∀v∈ch,Rn v
 fine:s.fine
 n:s.n≤ln
 m:s.m≤ln
 p:s.p≤ln
 one:1≤ln
 len:ln+t.length≤text.length+1
 rest:zCm s.n s.m c ch ln (zAv 10 t)=zCm 0 0 (-1) [] 1 (zAv 10 text)
theorem Upto.next{text t:Bs}{s:BSt}{c:Int}{ch:List Int}{ln i:Nat}{k:Said}(u:Upto text t s c ch ln)(hi:i<t.length)(hp:zAv 10 t=t.take i::zAv 10 (t.drop (i+1)))(hl:zBd s.n s.m c ch (zAv 32 (t.take i))=some k)(ht:t=t.take i++10::t.drop (i+1))(vR vH:Value):Upto text (t.drop (i+1)) (s.put vR vH k) (zFU c k) (chOf ch k) (ln+1):=by
 obtain⟨h1,h2,h3,h4,h5,h6,h7,h8⟩:=zSp s c ch (t.take i) k vR vH u.cut u.cutR u.chR u.fine hl;have h9:nOf s.n k≤s.n+1:=by cases k<;>simp[nOf]
 have h10:mOf s.m k≤s.m+1:=by cases k<;>simp[mOf]
 have:=u.n;have:=u.m;have:=u.p;have:=u.len;refine⟨?_,h5,h6,h7,h8,oM,oM,oM,oM,by simp;omega,?_⟩
 ·rw[h1,←u.txt]
  conv=>rhs;rw[ht]
  simp
 ·rw[←u.rest,hp,h2,h3];obtain⟨q,r,e⟩:=zCe 10 (t.drop (i+1));rw[e,zIO _ _ _ _ _ _ _ _ k hl]
theorem zQp{c:UInt8}{t:Bs}{i:Nat}(h:i<t.length)(hp:zAv c t=t.take i::zAv c (t.drop (i+1))):t=t.take i++c::t.drop (i+1):=by
 have h1:=zD2 c t;obtain⟨q,r,e⟩:=zCe c (t.drop (i+1));rw[hp,e,zD3,←e,zD2]at h1;exact h1.symm
theorem zHu(c:UInt8)(t:Bs):∀l:Bs,c∉l→zAv c (l++c::t)=l::zAv c t
 |[],_=>zDY c c t rfl
 |x::l,h=>by
  have hx:¬x=c:=fun e=>h (by simp[e])
  exact zBr c x _ l _ hx (zHu c t l (fun hc=>h (List.mem_cons_of_mem _ hc)))
def zBV (ls:List Bs):Bs:=ls.flatMap fun l=>l++[10]
theorem zDk:∀ls:List Bs,(∀l∈ls,(10:UInt8)∉l)→zAv 10 (zBV ls)=ls++[[]]
 |[],_=>rfl
 |l::r,h=>by
  have e:zBV (l::r)=l++10::zBV r:=by unfold zBV;rw[List.flatMap_cons,List.append_assoc];rfl
  rw[e,zHu 10 _ l (h l sM),zDk r (fun x hx=>h x (by simp[hx]))]
  rfl
theorem zMt(n m:Nat)(c:Int)(ch:List Int)(ln:Nat)(l:Bs)(X:List Bs)(hX:X≠[])(k:Said)(h:zBd n m c ch (zAv 32 l)=some k):zCm n m c ch ln (l::X)=zCm (nOf n k) (mOf m k) (zFU c k) (chOf ch k) (ln+1) X:=by
 cases X with
 |nil=>exact absurd rfl hX
 |cons q r=>exact zIO _ _ _ _ _ _ _ _ k h
def zBz (s:Bs):Prop:=(32:UInt8)∉s∧(10:UInt8)∉s
theorem zCv{x:UInt8}{s:Bs}(h1:x≠32)(h2:x≠10)(h:zBz s):zBz (x::s):=
 ⟨fun hc=>by rcases List.mem_cons.1 hc with hc|hc;exact h1 hc.symm;exact h.1 hc,fun hc=>by rcases List.mem_cons.1 hc with hc|hc;exact h2 hc.symm;exact h.2 hc⟩
theorem zQo{s t:Bs}(h:zBz s)(k:zBz t):zBz (s++t):=
 ⟨fun hc=>by rcases List.mem_append.1 hc with hc|hc;exact h.1 hc;exact k.1 hc,fun hc=>by rcases List.mem_append.1 hc with hc|hc;exact h.2 hc;exact k.2 hc⟩
theorem zER:zBz []:=⟨List.not_mem_nil,List.not_mem_nil⟩
theorem zGx(d:Nat)(h:d<10):UInt8.ofNat (48+d)≠32∧UInt8.ofNat (48+d)≠10:=by
 have e:=zE2 d h
 constructor<;>(intro hc;rw[hc]at e;simp at e;omega)
theorem zK1(u:Nat):zBz (Lib.decDigits u):=by
 induction u using Nat.strongRecOn with
 | _ u ih=>
  by_cases hs:u<10
  ·rw[zC5 hs];exact zCv (zGx u hs).1 (zGx u hs).2 zER
  ·rw[zFT hs];exact zQo (ih (u / 10) oM) (zCv (zGx _ oM).1 (zGx _ oM).2 zER)
theorem zDK(n:Int):zBz (numW n):=by
 unfold numW
 by_cases h0:n<0
 ·obtain⟨u,rfl⟩:∃u:Nat,n= -(u:Int):=⟨n.natAbs,oM⟩;rw[Lib.itoa_neg u oM];exact zCv dD dD (zK1 u)
 ·obtain⟨u,rfl⟩:∃u:Nat,n=(u:Int):=⟨n.natAbs,oM⟩;rw[Lib.itoa_nonneg];exact zK1 u
theorem zHt:∀w:Bs,(32:UInt8)∉w→zAv 32 w=[w]
 |[],_=>rfl
 |x::t,h=>by
  have hx:¬x=32:=fun e=>h (by simp[e])
  rcases t with _|⟨y,t⟩
  ·exact zBr 32 x [] [] [] hx rfl
  ·exact zBr 32 x _ _ _ hx (zHt (y::t) (fun hc=>h (List.mem_cons_of_mem _ hc)))
theorem zHs:∀(w:Bs) (ws:List Bs),(32:UInt8)∉w→(∀x∈ws,(32:UInt8)∉x)→zAv 32 (w++ws.flatMap fun x=>32::x)=w::ws
 |w,[],h,_=>by rw[List.flatMap_nil,List.append_nil];exact zHt w h
 |w,x::t,h,hs=>by
  rw[List.flatMap_cons]
  show zAv 32 (w++32::(x++t.flatMap fun x=>32::x))=_
  rw[zHu 32 _ w h,zHs x t (hs x sM) (fun y hy=>hs y (by simp[hy]))]
theorem zOF(b:BatS)(hb:batR b)(h0:b.recs=[]):zEv ((batN b).map numW++[letW b.app b.txn b.ctl])=some b:=by
 rw[zKS _ _ (by simp[batN]),zDm (batN b) hb];obtain⟨h1,h2,h3,h4⟩:=zOM b.app b.txn b.ctl;unfold batN;simp only;rw[if_pos h4,h1,h2,h3];obtain⟨_,_,_,_,_,_,_,_,_,_,_,_⟩:=b;simp only at h0;subst h0
 rfl
theorem zLf(s:Bs):hexV (hexW s)=(s,true):=by unfold hexV;rw[zIW]
theorem zQH(s:Bs):hexW s≠[110,111,110,101]:=by
 intro h;have h1:=zIW s;rw[h]at h1;have h2:zJN [110,111,110,101]=none:=by decide+kernel
 rw[h2]at h1
 cases h1
theorem zFX(b:BlobS)(ho:oddB b=false):zA6 (zBa b)=(b.null,b.data,true):=by
 unfold zBa
 by_cases hn:b.null=true
 ·rw[if_pos hn,hn];unfold oddB at ho;rw[hn]at ho;have hd:b.data=[]:=by simpa using ho
  rw[hd]
  rfl
 ·rw[if_neg hn];unfold zA6;rw[if_neg (zQH _),zLf];rw[Bool.not_eq_true]at hn;rw[hn]
theorem zOC(r:RecS)(h:zDg r)(h0:r.hdrs=[]):zCR [numW r.time,numW r.off,zBa r.key,zBa r.val]=some r:=by
 have h1:=zDm [r.time,r.off] (fun n hn=>by
  simp only[List.mem_cons,List.not_mem_nil,or_false]at hn
  rcases hn with rfl|rfl
  · exact h.2.2.2.1
  · exact h.2.2.2.2)
 have h2:=zFX r.key h.1;have h3:=zFX r.val h.2.1
 show(match zAx [numW r.time,numW r.off]with|some [t,o]=>if (zA6 (zBa r.key)).2.2 && (zA6 (zBa r.val)).2.2 then some (⟨t,o,⟨(zA6 (zBa r.key)).1,(zA6 (zBa r.key)).2.1⟩,⟨(zA6 (zBa r.val)).1,(zA6 (zBa r.val)).2.1⟩,[]⟩:RecS)else none| _=>none)=_
 rw[show zAx [numW r.time,numW r.off]=some [r.time,r.off]from h1,h2,h3];obtain⟨_,_,⟨_,_⟩,⟨_,_⟩,_⟩:=r;simp only at h0;subst h0
 rfl
theorem zOD(z:HdrS)(h:oddB z.val=false):zEt [hexW z.key,zBa z.val]=some z:=by
 have h2:=zFX z.val h
 show(if (hexV (hexW z.key)).2 && (zA6 (zBa z.val)).2.2 then some (⟨(hexV (hexW z.key)).1,⟨(zA6 (zBa z.val)).1,(zA6 (zBa z.val)).2.1⟩⟩:HdrS)else none)=_
 rw[zLf,h2];obtain⟨_,⟨_,_⟩⟩:=z
 rfl
theorem zOE(c:Int)(h:0≤c)(hr:Rn c):zEu [numW c]=some c:=by
 unfold zEu;simp only;rw[zIS c hr];simp only;exact if_neg oM
theorem zJC(l:List Int)(h0:l≠[])(hr:∀v∈l,Rn v):zBl (l.map numW)=some l:=by
 unfold zBl;rw[if_neg (by simpa using h0)];exact zDm l hr
theorem zIM:∀n,n<16→hexD n≠32∧hexD n≠10:=by decide
theorem zIL:∀s:Bs,zBz (hexL s)
 |[]=>zER
 |x::t=>by
  have h1:=zIM (x.toNat / 16) (by have:=x.toNat_lt;omega);have h2:=zIM (x.toNat % 16) oM;exact zCv h1.1 h1.2 (zCv h2.1 h2.2 (zIL t))
theorem zIK(s:Bs):zBz (hexW s):=by
 unfold hexW
 split
 ·exact zCv dD dD zER
 ·exact zIL s
theorem zFB(b:BlobS):zBz (zBa b):=by
 unfold zBa
 split
 ·exact⟨dD,dD⟩
 ·exact zIK _
theorem zQn:∀a t c:Bool,zBz (letW a t c):=by
 intro a t c
 cases a<;>cases t<;>cases c<;>exact⟨dD,dD⟩
def modL {α:Type}(f:α→α):List α→List α
 |[]=>[]
 |[x]=>[f x]
 |x::y::t=>x::modL f (y::t)
theorem zET{α:Type}(f:α→α):∀(l:List α) (x:α),modL f (l++[x])=l++[f x]
 |[],_=>rfl
 |[_],_=>rfl
 |a::b::t,x=>by
  show a::modL f (b::(t++[x]))=_
  rw[show b::(t++[x])=(b::t)++[x]from rfl,zET f (b::t) x]
  rfl
def BatS.with (b:BatS) (l:List RecS):BatS:=⟨b.base,b.leader,b.app,b.txn,b.ctl,b.last,b.first,b.maxt,b.prod,b.epoch,b.seq,l⟩
def BtR.val (x:BtR):BatS:=x.b.with (x.l.map (·.1))
def zMj (r:RecS) (h:HdrS):RecS:=⟨r.time,r.off,r.key,r.val,r.hdrs++[h]⟩
def appV (vs:List BatS):Said→List BatS
 | .bat b=>vs++[b.with []]
 | .recd r=>modL (fun b=>b.with (b.recs++[r])) vs
 | .hdr h=>modL (fun b=>b.with (modL (fun r=>zMj r h) b.recs)) vs
 | _=>vs
structure VS where
 vs:List BatS
 n:Nat
 m:Nat
 c:Int
 ch:List Int
def VS.app (v:VS) (k:Said):VS:=⟨appV v.vs k,nOf v.n k,mOf v.m k,zFU v.c k,chOf v.ch k⟩
def zDh (v:VS):List Bs→Option VS
 |[]=>some v
 |l::t=>match zBd v.n v.m v.c v.ch (zAv 32 l)with
  |none=>none
  |some k=>zDh (v.app k) t
def lnB (b:BatS):Bs:=[98,97,116,99,104]++((batN b).map numW++[letW b.app b.txn b.ctl]).flatMap fun x=>32::x
def lnR (r:RecS):Bs:=[114,101,99,111,114,100]++[numW r.time,numW r.off,zBa r.key,zBa r.val].flatMap fun x=>32::x
def lnH (z:HdrS):Bs:=[104,101,97,100,101,114]++[hexW z.key,zBa z.val].flatMap fun x=>32::x
def lnC (c:Int):Bs:=[99,117,116]++[numW c].flatMap fun x=>32::x
def lnK (l:List Int):Bs:=[99,104,117,110,107,115]++(l.map numW).flatMap fun x=>32::x
theorem zTY(b:BatS):lnB b++[10]=batL b:=by
 unfold lnB batL zJK;simp[List.flatMap_append,List.flatMap_map]
theorem zTW(r:RecS):lnR r++[10]=recH r:=by unfold lnR recH;simp
theorem zTX(z:HdrS):lnH z++[10]=hdrT z:=by unfold lnH hdrT;simp
def lnsR (r:RecS):List Bs:=lnR r::r.hdrs.map lnH
def lnsB (x:BtR):List Bs:=lnB x.b::x.l.flatMap fun y=>lnsR y.1
def lnsC (c:Int):List Bs:=if c<0 then[]else[lnC c]
def lnsK (l:List Int):List Bs:=if l=[]then[]else[lnK l]
def zFH (l:List BtR) (c:Int) (ch:List Int):List Bs:=l.flatMap lnsB++(lnsC c++lnsK ch)
theorem zFG(a b:List Bs):zBV (a++b)=zBV a++zBV b:=by unfold zBV;rw[List.flatMap_append]
theorem zCB(a:Bs)(b:List Bs):zBV (a::b)=(a++[10])++zBV b:=by unfold zBV;rw[List.flatMap_cons]
theorem zEw{α:Type}(f:α→List Bs)(g:α→Bs)(h:∀x,zBV (f x)=g x):∀l:List α,zBV (l.flatMap f)=l.flatMap g
 |[]=>rfl
 |x::t=>by rw[List.flatMap_cons,List.flatMap_cons,zFG,h,zEw f g h t]
theorem zNE:∀l:List HdrS,zBV (l.map lnH)=l.flatMap hdrT
 |[]=>rfl
 |x::t=>by rw[List.map_cons,zCB,zTX,zNE t,List.flatMap_cons]
theorem zSn(r:RecS):zBV (lnsR r)=recT r:=by unfold lnsR recT;rw[zCB,zTW,zNE]
theorem zSo(x:BtR):zBV (lnsB x)=btT x:=by unfold lnsB btT;rw[zCB,zTY,zEw (fun y:RecS×Value=>lnsR y.1) (fun y=>recT y.1) (fun y=>zSn y.1)]
theorem zHB(l:List BtR)(c:Int)(ch:List Int):zBV (zFH l c ch)=l.flatMap btT++(cutT c++chT ch):=by
 unfold zFH;rw[zFG,zFG,zEw lnsB btT zSo]
 congr 2
 ·unfold lnsC cutT;split
  ·rfl
  ·rw[zCB];unfold lnC;simp[zBV]
 ·unfold lnsK chT;split
  ·rfl
  ·rw[zCB];unfold lnK zJK;simp[zBV,List.flatMap_map]
theorem zHr:∀ws:List Bs,(∀x∈ws,zBz x)→(10:UInt8)∉ws.flatMap fun x=>32::x
 |[],_=>List.not_mem_nil
 |x::t,h=>by
  rw[List.flatMap_cons];intro hc
  rcases List.mem_append.1 hc with hc|hc
  ·rcases List.mem_cons.1 hc with hc|hc
   ·exact absurd hc dD
   ·exact(h x sM).2 hc
  ·exact zHr t (fun y hy=>h y (by simp[hy])) hc
theorem zC4(w:Bs)(ws:List Bs)(hw:zBz w)(h:∀x∈ws,zBz x):(10:UInt8)∉w++ws.flatMap fun x=>32::x:=fun hc=>by
 rcases List.mem_append.1 hc with hc|hc
 ·exact hw.2 hc
 ·exact zHr ws h hc
theorem zFA(l:List Int):∀x∈l.map numW,zBz x:=fun x hx=>by
 obtain⟨n,_,rfl⟩:=List.mem_map.1 hx;exact zDK n
theorem zK2(b:BatS):∀x∈(batN b).map numW++[letW b.app b.txn b.ctl],zBz x:=fun x hx=>by
 rcases List.mem_append.1 hx with hx|hx
 ·exact zFA _ x hx
 ·rw[List.mem_singleton.1 hx];exact zQn _ _ _
theorem zKZ(r:RecS):∀x∈[numW r.time,numW r.off,zBa r.key,zBa r.val],zBz x:=fun x hx=>by
 simp only[List.mem_cons,List.not_mem_nil,or_false]at hx
 rcases hx with rfl|rfl|rfl|rfl
 ·exact zDK _
 ·exact zDK _
 ·exact zFB _
 ·exact zFB _
theorem zK0(z:HdrS):∀x∈[hexW z.key,zBa z.val],zBz x:=fun x hx=>by
 simp only[List.mem_cons,List.not_mem_nil,or_false]at hx
 rcases hx with rfl|rfl
 ·exact zIK _
 ·exact zFB _
theorem zFF(l:List BtR)(c:Int)(ch:List Int):∀y∈zFH l c ch,(10:UInt8)∉y:=by
 intro y hy;unfold zFH at hy
 rcases List.mem_append.1 hy with hy|hy
 ·obtain⟨x,_,hy⟩:=List.mem_flatMap.1 hy;unfold lnsB at hy
  rcases List.mem_cons.1 hy with rfl|hy
  ·exact zC4 _ _ ⟨dD,dD⟩ (zK2 x.b)
  ·obtain⟨z,_,hy⟩:=List.mem_flatMap.1 hy;unfold lnsR at hy
   rcases List.mem_cons.1 hy with rfl|hy
   ·exact zC4 _ _ ⟨dD,dD⟩ (zKZ z.1)
   ·obtain⟨u,_,rfl⟩:=List.mem_map.1 hy;exact zC4 _ _ ⟨dD,dD⟩ (zK0 u)
 ·rcases List.mem_append.1 hy with hy|hy
  ·unfold lnsC at hy
   split at hy
   ·cases hy
   ·rw[List.mem_singleton.1 hy];exact zC4 _ [numW c] ⟨dD,dD⟩ (fun x hx=>by rw[List.mem_singleton.1 hx];exact zDK c)
  ·unfold lnsK at hy
   split at hy
   ·cases hy
   ·rw[List.mem_singleton.1 hy];exact zC4 _ _ ⟨dD,dD⟩ (zFA ch)
theorem zC3(w:Bs)(ws:List Bs)(hw:zBz w)(h:∀x∈ws,zBz x):zAv 32 (w++ws.flatMap fun x=>32::x)=w::ws:=zHs w ws hw.1 (fun x hx=>(h x hx).1)
theorem zC1(v:VS)(l:Bs)(t:List Bs)(k:Said)(h:zBd v.n v.m v.c v.ch (zAv 32 l)=some k):zDh v (l::t)=zDh (v.app k) t:=by
 show(match zBd v.n v.m v.c v.ch (zAv 32 l)with|none=>none|some k=>zDh (v.app k) t)=_
 rw[h]
theorem ln_bat(n m:Nat)(b:BatS)(hb:batR b):zBd n m (-1) [] (zAv 32 (lnB b))=some (.bat (b.with [])):=by
 unfold lnB;rw[zC3 _ _ ⟨dD,dD⟩ (zK2 b)];have h:=zOF (b.with []) hb rfl;have e:(batN (b.with [])).map numW++[letW (b.with []).app (b.with []).txn (b.with []).ctl]=(batN b).map numW++[letW b.app b.txn b.ctl]:=rfl;rw[e]at h;rw[zB1,h]
 simp
def zFx (r:RecS) (l:List HdrS):RecS:=⟨r.time,r.off,r.key,r.val,l⟩
theorem ln_rec(n m:Nat)(r:RecS)(hn:n≠0)(h:zDg r):zBd n m (-1) [] (zAv 32 (lnR r))=some (.recd (zFx r [])):=by
 unfold lnR;rw[zC3 _ _ ⟨dD,dD⟩ (zKZ r)];have h2:=zOC (zFx r []) ⟨h.1,h.2.1,(fun z hz=>by cases hz),h.2.2.2.1,h.2.2.2.2⟩ rfl;have e:zCR [numW r.time,numW r.off,zBa r.key,zBa r.val]=some (zFx r []):=h2;rw[zB1,e];simp[hn]
theorem ln_hdr(n m:Nat)(z:HdrS)(hn:n≠0)(hm:m≠0)(h:oddB z.val=false):zBd n m (-1) [] (zAv 32 (lnH z))=some (.hdr z):=by
 unfold lnH;rw[zC3 _ _ ⟨dD,dD⟩ (zK0 z)];rw[zB1,zOD z h];simp[hn,hm]
theorem ln_cut(n m:Nat)(c:Int)(h:0≤c)(hr:Rn c):zBd n m (-1) [] (zAv 32 (lnC c))=some (.cut c):=by
 unfold lnC;rw[zC3 _ _ ⟨dD,dD⟩ (fun x hx=>by rw[List.mem_singleton.1 hx];exact zDK c)];rw[zB1,zOE c h hr]
 simp
theorem zQz(n m:Nat)(c:Int)(l:List Int)(h0:l≠[])(hr:∀v∈l,Rn v):zBd n m c [] (zAv 32 (lnK l))=some (.chunks l):=by
 unfold lnK;rw[zC3 _ _ ⟨dD,dD⟩ (zFA l)];rw[zB1,zJC l h0 hr]
 simp
theorem zID(vs:List BatS)(B:BatS)(rs:List RecS)(r:RecS)(n m:Nat)(hn:n≠0)(hm:m≠0)(t:List Bs):∀(hs hs0:List HdrS),(∀z∈hs,oddB z.val=false)→zDh ⟨vs++[B.with (rs++[zFx r hs0])],n,m,-1,[]⟩ (hs.map lnH++t)=zDh ⟨vs++[B.with (rs++[zFx r (hs0++hs)])],n,m,-1,[]⟩ t
 |[],hs0,_=>by rw[List.append_nil];rfl
 |z::hs,hs0,h=>by
  have e:=zC1 ⟨vs++[B.with (rs++[zFx r hs0])],n,m,-1,[]⟩ (lnH z) (hs.map lnH++t) _ (ln_hdr n m z hn hm (h z sM))
  have e2:VS.app ⟨vs++[B.with (rs++[zFx r hs0])],n,m,-1,[]⟩ (.hdr z)=⟨vs++[B.with (rs++[zFx r (hs0++[z])])],n,m,-1,[]⟩:=by
   show VS.mk (modL (fun b=>b.with (modL (fun r=>zMj r z) b.recs)) (vs++[B.with (rs++[zFx r hs0])])) n m (-1) []=_
   rw[zET]
   show VS.mk (vs++[B.with (modL (fun r=>zMj r z) (rs++[zFx r hs0]))]) n m (-1) []=_
   rw[zET]
   rfl
  rw[List.map_cons,List.cons_append,e,e2,zID vs B rs r n m hn hm t hs (hs0++[z]) (fun y hy=>h y (by simp[hy])),List.append_assoc]
  rfl
theorem zP4(vs:List BatS)(B:BatS)(rs:List RecS)(r:RecS)(n m:Nat)(hn:n≠0)(h:zDg r)(t:List Bs):zDh ⟨vs++[B.with rs],n,m,-1,[]⟩ (lnsR r++t)=zDh ⟨vs++[B.with (rs++[r])],n,m+1,-1,[]⟩ t:=by
 have e:=zC1 ⟨vs++[B.with rs],n,m,-1,[]⟩ (lnR r) (r.hdrs.map lnH++t) _ (ln_rec n m r hn h)
 have e2:VS.app ⟨vs++[B.with rs],n,m,-1,[]⟩ (.recd (zFx r []))=⟨vs++[B.with (rs++[zFx r []])],n,m+1,-1,[]⟩:=by
  show VS.mk (modL (fun b=>b.with (b.recs++[zFx r []])) (vs++[B.with rs])) n (m+1) (-1) []=_
  rw[zET]
  rfl
 show zDh _ (lnR r::(r.hdrs.map lnH++t))=_
 rw[e,e2,zID vs B rs r n (m+1) hn (Nat.succ_ne_zero m) t r.hdrs [] h.2.2.1]
 rfl
theorem zIC(vs:List BatS)(B:BatS)(n:Nat)(hn:n≠0)(t:List Bs):∀(l:List (RecS×Value)) (rs:List RecS) (m:Nat),(∀y∈l,zDg y.1)→zDh ⟨vs++[B.with rs],n,m,-1,[]⟩ ((l.flatMap fun y=>lnsR y.1)++t)=zDh ⟨vs++[B.with (rs++l.map (·.1))],n,m+l.length,-1,[]⟩ t
 |[],rs,m,_=>by simp
 |y::l,rs,m,h=>by
  rw[List.flatMap_cons,List.append_assoc,zP4 vs B rs y.1 n m hn (h y sM),zIC vs B n hn t l (rs++[y.1]) (m+1) (fun z hz=>h z (by simp[hz])),List.append_assoc,Jg,Nat.add_right_comm]
  rfl
theorem zIE(t:List Bs):∀(l:List BtR) (vs:List BatS) (n m:Nat),(∀x∈l,zCN x)→∃n' m',zDh ⟨vs,n,m,-1,[]⟩ (l.flatMap lnsB++t)=zDh ⟨vs++l.map BtR.val,n',m',-1,[]⟩ t
 |[],vs,n,m,_=>⟨n,m,by simp⟩
 |x::l,vs,n,m,h=>by
  have hx:=h x sM;have e:=zC1 ⟨vs,n,m,-1,[]⟩ (lnB x.b) ((x.l.flatMap fun y=>lnsR y.1)++(l.flatMap lnsB++t)) _ (ln_bat n m x.b hx.1);have e2:VS.app ⟨vs,n,m,-1,[]⟩ (.bat (x.b.with []))=⟨vs++[x.b.with []],n+1,0,-1,[]⟩:=rfl;have e3:=zIC vs x.b (n+1) (Nat.succ_ne_zero n) (l.flatMap lnsB++t) x.l [] 0 hx.2;obtain⟨n',m',e4⟩:=zIE t l (vs++[x.val]) (n+1) (0+x.l.length) (fun z hz=>h z (by simp[hz]));refine⟨n',m',?_⟩;rw[List.flatMap_cons,List.append_assoc]
  show zDh _ (lnB x.b::((x.l.flatMap fun y=>lnsR y.1)++(l.flatMap lnsB++t)))=_
  rw[e,e2,e3]
  show zDh ⟨vs++[x.val],n+1,0+x.l.length,-1,[]⟩ _=_
  rw[e4,List.append_assoc]
  rfl
theorem zEs(l:List BtR)(c:Int)(ch:List Int)(hc: -1≤c)(hcr:Rn c)(hchr:∀v∈ch,Rn v)(hf:∀x∈l,zCN x):∃n m,zDh ⟨[],0,0,-1,[]⟩ (zFH l c ch)=some ⟨l.map BtR.val,n,m,c,ch⟩:=by
 obtain⟨n,m,e⟩:=zIE (lnsC c++lnsK ch) l [] 0 0 hf;refine⟨n,m,?_⟩;unfold zFH;rw[e,List.nil_append]
 have hk:∀c':Int,zDh ⟨l.map BtR.val,n,m,c',[]⟩ (lnsK ch)=some ⟨l.map BtR.val,n,m,c',ch⟩:=by
  intro c';unfold lnsK
  split
  ·rename_i h0;subst h0;rfl
  ·rename_i h0
   rw[zC1 _ _ _ _ (zQz n m c' ch h0 hchr)]
   rfl
 unfold lnsC
 split
 ·have e1:c= -1:=by omega
  subst e1;exact hk (-1)
 ·rw[List.cons_append,zC1 _ _ _ _ (ln_cut n m c oM hcr)];exact hk c
theorem zG9:∀(ls:List Bs) (v u:VS) (ln:Nat),zDh v ls=some u→zCm v.n v.m v.c v.ch ln (ls++[[]])=0
 |[],v,u,ln,_=>rfl
 |l::t,v,u,ln,h=>by
  have h2:(match zBd v.n v.m v.c v.ch (zAv 32 l)with|none=>none|some k=>zDh (v.app k) t)=some u:=h
  cases hr:zBd v.n v.m v.c v.ch (zAv 32 l)with
  |none=>rw[hr]at h2;cases h2
  |some k=>
   rw[hr]at h2;rw[List.cons_append,zMt _ _ _ _ _ _ _ sM k hr];exact zG9 t (v.app k) u (ln+1) h2
theorem zL3(l:List BtR)(c:Int)(ch:List Int)(text:Bs)(ht:l.flatMap btT++(cutT c++chT ch)=text)(hc: -1≤c)(hcr:Rn c)(hchr:∀v∈ch,Rn v)(hf:∀x∈l,zCN x):zCm 0 0 (-1) [] 1 (zAv 10 text)=0:=by
 obtain⟨n,m,e⟩:=zEs l c ch hc hcr hchr hf;rw[←ht,←zHB,zDk _ (zFF l c ch)];exact zG9 _ ⟨[],0,0,-1,[]⟩ _ 1 e
theorem zN6(l l':List BtR)(c c':Int)(ch ch':List Int)(text:Bs)(ht:l.flatMap btT++(cutT c++chT ch)=text)(hc: -1≤c)(hcr:Rn c)(hchr:∀v∈ch,Rn v)(hf:∀x∈l,zCN x)(ht':l'.flatMap btT++(cutT c'++chT ch')=text)(hc': -1≤c')(hcr':Rn c')(hchr':∀v∈ch',Rn v)(hf':∀x∈l',zCN x):l'.map BtR.val=l.map BtR.val∧c'=c∧ch'=ch:=by
 obtain⟨n,m,e⟩:=zEs l c ch hc hcr hchr hf;obtain⟨n',m',e'⟩:=zEs l' c' ch' hc' hcr' hchr' hf';have h1:=zDk _ (zFF l c ch);have h2:=zDk _ (zFF l' c' ch');rw[zHB,ht]at h1;rw[zHB,ht',h1]at h2;have h3:=List.append_cancel_right h2;rw[←h3,e]at e';injection e' with e';injection e' with a1 a2 a3 a4 a5;exact⟨a1.symm,a4.symm,a5.symm⟩
theorem zCC{α:Type}(f:α→Bs):∀(l:List α) (k:Nat) (h:k<l.length) (x:α),l[k]=x→(l.drop k).flatMap f=f x++(l.drop (k+1)).flatMap f:=fun l k h x hx=>by
 rw[List.drop_eq_getElem_cons h,hx,List.flatMap_cons]
theorem zBG{a b S:Bs}(h:a++b=S){n:Nat}(hs:S.length≤n):a.length≤n:=by
 have:=congrArg Jh h;rw[Je]at this
 omega
theorem zCF{K:Know}{v:Value}{l:List BtR}(h:K.has (Know.btrs v l)):K.has (Know.flat RBt v 12 l):=fun w F x=>(h w F x).1
theorem zE8{K:Know}{v:Value}{l:List BtR}(h:K.has (Know.btrs v l)){x:BtR}(hx:x∈l):K.has (Know.recs x.v x.l):=fun w F y=>(h w F y).2 x hx
theorem zEy{α:Type}{R:List Value→α→Prop}{sz:Nat}{v:Value}{l:List α}(hk:K.has (Know.flat R v sz l))(h:St W0 w K L):∃q cap,v=Ja q l.length cap:=by
 obtain⟨F,hF,_⟩:=h.get;obtain⟨q,cap,hv,_⟩:=(hk _ _ hF).at;exact⟨q,cap,hv⟩
theorem zLk{α:Type}{R:List Value→α→Prop}{sz n cap:Nat}{q:Option Addr}{l:List α}(hk:K.has (Know.flat R (Ja q n cap) sz l))(h:St W0 w K L)(h0:0<l.length):∃b off,q=some ⟨b,off,none⟩:=by
 obtain⟨F,hF,_⟩:=h.get;obtain⟨q2,cap2,hv,hr⟩:=(hk _ _ hF).at;obtain⟨b,off,hq,_⟩:=hr h0;simp at hv;exact⟨b,off,hv.1.trans hq⟩
theorem zMA{α:Type}{R:List Value→α→Prop}{sz n cap b off:Nat}{l:List α}(hk:K.has (Know.flat R (Ja (some ⟨b,off,none⟩) n cap) sz l))(h:St W0 w K L)(i:Nat)(hi:i<l.length):∃cs,R cs l[i]∧∀f u,cs[f]? =some u→w.cell? ⟨b,off+(i*sz+f),none⟩=some u:=by
 obtain⟨F,hF,_⟩:=h.get;obtain⟨q2,cap2,hv,hr⟩:=(hk _ _ hF).at;obtain⟨b2,off2,hq,hc⟩:=hr oM;rw[hq]at hv;simp at hv;obtain⟨⟨rfl,rfl⟩,_,_⟩:=hv;obtain⟨cs,_,h1,h2⟩:=hc i hi;exact⟨cs,h1,h2⟩
theorem zHU{n cap b off:Nat}{l:List BtR}(hk:K.has (Know.btrs (Ja (some ⟨b,off,none⟩) n cap) l))(h:St W0 w K L)(i:Nat)(hi:i<l.length)(x:BtR)(hx:l[i]=x):
 w.cell? ⟨b,off+i*12,none⟩=some (I O x.b.base)∧w.cell? ⟨b,off+i*12+1,none⟩=some (I O x.b.leader)∧w.cell? ⟨b,off+i*12+2,none⟩=some (U x.b.app)∧w.cell? ⟨b,off+i*12+3,none⟩=some (U x.b.txn)∧w.cell? ⟨b,off+i*12+4,none⟩=some (U x.b.ctl)∧w.cell? ⟨b,off+i*12+5,none⟩=some (I O x.b.last)∧w.cell? ⟨b,off+i*12+6,none⟩=some (I O x.b.first)∧w.cell? ⟨b,off+i*12+7,none⟩=some (I O x.b.maxt)∧w.cell? ⟨b,off+i*12+8,none⟩=some (I O x.b.prod)∧w.cell? ⟨b,off+i*12+9,none⟩=some (I O x.b.epoch)∧w.cell? ⟨b,off+i*12+10,none⟩=some (I O x.b.seq)∧w.cell? ⟨b,off+i*12+11,none⟩=some (x.v):=by
 subst hx;obtain⟨cs,h1,h2⟩:=zMA (zCF hk) h i hi;unfold RBt zAZ zEe at h1;subst h1;refine⟨?_,?_,?_,?_,?_,?_,?_,?_,?_,?_,?_,?_⟩
 ·exact h2 0 _ rfl
 ·rw[Jm];exact h2 1 _ rfl
 ·rw[Jm];exact h2 2 _ rfl
 ·rw[Jm];exact h2 3 _ rfl
 ·rw[Jm];exact h2 4 _ rfl
 ·rw[Jm];exact h2 5 _ rfl
 ·rw[Jm];exact h2 6 _ rfl
 ·rw[Jm];exact h2 7 _ rfl
 ·rw[Jm];exact h2 8 _ rfl
 ·rw[Jm];exact h2 9 _ rfl
 ·rw[Jm];exact h2 10 _ rfl
 ·rw[Jm];exact h2 11 _ rfl
theorem zIy{n cap b off:Nat}{l:List Int}(hk:K.has (Know.flat RInt (Ja (some ⟨b,off,none⟩) n cap) 1 l))(h:St W0 w K L)(i:Nat)(hi:i<l.length)(x:Int)(hx:l[i]=x):w.cell? ⟨b,off+i,none⟩=some (I O x):=by
 subst hx;obtain⟨cs,h1,h2⟩:=zMA hk h i hi;unfold RInt at h1;subst h1;have:=h2 0 _ rfl
 rwa [Nat.mul_one,Nat.add_zero]at this
theorem zKB{n cap b off:Nat}{l:List HdrS}(hk:K.has (Know.flat RHdr (Ja (some ⟨b,off,none⟩) n cap) 3 l))(h:St W0 w K L)(i:Nat)(hi:i<l.length)(x:HdrS)(hx:l[i]=x):w.cell? ⟨b,off+i*3,none⟩=some (Z (bb x.key))∧w.cell? ⟨b,off+i*3+1,none⟩=some (U x.val.null)∧w.cell? ⟨b,off+i*3+2,none⟩=some (Z (bb x.val.data)):=by
 subst hx;obtain⟨cs,h1,h2⟩:=zMA hk h i hi;unfold RHdr at h1;subst h1;exact⟨h2 0 _ rfl,by rw[Jm];exact h2 1 _ rfl,by rw[Jm];exact h2 2 _ rfl⟩
set_option maxHeartbeats 8000000
variable {W0 w:World}{K:Know}{L:List Res}
theorem zS1(u:Nat)(hu:u≤9223372036854775807)(hs:u<10)(h:St W0 w K L):
 Calls Jd 9 #[I O u] w fun en w'=>en=Jb (Z (bb (Lib.decDigits u)))∧St W0 w' K L:=by
 obtain⟨d,hd⟩:=eX (u % 10);obtain⟨v,hv⟩:=eX (u / 10);have hd9:d<10:=by omega
 obtain⟨c,hc⟩:=eX (UInt8.ofNat (48+d));have hcn:(48+(d:Int))=c.toNat:=by rw[←hc,UInt8.toNat_ofNat'];omega
 obtain⟨nb,hnb⟩:=eX w.heap.size;have g1:=h.allocRaw #[.int .u8 (48+(d:Int))] 5;rw[hnb]at g1;have cb:=zD8 c _ hcn g1;have H:=hQd g1;have q1:(u:Int).tmod 10=(d:Int):=by rw[Int.tmod_eq_emod_of_nonneg oM];omega
 have q2:(u:Int) % 10=(d:Int):=by omega
 have q3:(u:Int).tdiv 10=(v:Int):=by rw[Int.tdiv_eq_ediv_of_nonneg oM];omega
 have q4:(u:Int) / 10=(v:Int):=by omega
 have r1:¬((u:Int)<0):=by omega
 have r2:decide ((u:Int)<0)=false:=decide_eq_false r1;have r3:(u:Int)<10:=by omega
 have r4:decide ((u:Int)<10)=true:=decide_eq_true r3;have q5:(48+(d:Int)) % 256=48+(d:Int):=by omega
 have HD:=hQd (show Lib.decDigits u=[c]from by rw[zC5 hs,←hc];rw[←hd,Nat.mod_eq_of_lt hs]);have HWV:=hQd (show wrap64 ((v:Int))=(v:Int)from IntWalk.wrap64_in _ oM)
 skip
 skip
 skip
 skip
 skip
 skip
 skip
 clear h g1 hu hs hd hv hc hcn hd9;go_enter Tryz.func9,Tryz.ntmps9;go_wp2_with fail;go_ret;exact⟨by rw[HD.out];try rfl,H.out.drop⟩
theorem num_p1(u:Nat)(hu:u≤9223372036854775807)(hs:¬u<10)(hrec:∀w,St W0 w K L→Calls Jd 9 #[I O (u / 10:Nat)] w fun en w'=>en=Jb (Z (bb (Lib.decDigits (u / 10))))∧St W0 w' K L)(h:St W0 w K L):
 Calls Jd 9 #[I O u] w fun en w'=>en=Jb (Z (bb (Lib.decDigits u)))∧St W0 w' K L:=by
 obtain⟨d,hd⟩:=eX (u % 10);obtain⟨v,hv⟩:=eX (u / 10);have hd9:d<10:=by omega
 obtain⟨c,hc⟩:=eX (UInt8.ofNat (48+d));have hcn:(48+(d:Int))=c.toNat:=by rw[←hc,UInt8.toNat_ofNat'];omega
 obtain⟨nb,hnb⟩:=eX w.heap.size;have g1:=h.allocRaw #[.int .u8 (48+(d:Int))] 5;rw[hnb]at g1;have cb:=zD8 c _ hcn g1;have H:=hQd g1;have q1:(u:Int).tmod 10=(d:Int):=by rw[Int.tmod_eq_emod_of_nonneg oM];omega
 have q2:(u:Int) % 10=(d:Int):=by omega
 have q3:(u:Int).tdiv 10=(v:Int):=by rw[Int.tdiv_eq_ediv_of_nonneg oM];omega
 have q4:(u:Int) / 10=(v:Int):=by omega
 have r1:¬((u:Int)<0):=by omega
 have r2:decide ((u:Int)<0)=false:=decide_eq_false r1;have r3:¬((u:Int)<10):=by omega
 have r4:decide ((u:Int)<10)=false:=decide_eq_false r3;have q5:(48+(d:Int)) % 256=48+(d:Int):=by omega
 have HD:=hQd (show Lib.decDigits u=(Lib.decDigits v++[c])from by rw[zFT hs,hd,hv,hc]);have HWV:=hQd (show wrap64 ((v:Int))=(v:Int)from IntWalk.wrap64_in _ oM);have HREC:=hQd hrec;rw[hv]at HREC;obtain⟨p,hp⟩:=eX (Lib.decDigits v);have hpl:p.length≤30:=by rw[←hp];exact zUe v oM
 have hpi:¬9223372036854775807<p.length+1:=by omega
 rw[hp]at HREC;rw[show Lib.decDigits v++[c]=p++[c] by rw[←hp]<;>rfl]at HD;clear h g1 hu hs hd hv hc hcn hd9 hrec;go_enter Tryz.func9,Tryz.ntmps9;go_wp2_with (go_at_call 9;rw[HWV.out];(with_reducible refine(HREC.out _ H.out.drop).zM ?_);clear H;intro wn H);go_ret;exact⟨by rw[HD.out];try rfl,H.out⟩
theorem num_n0(u:Nat)(hu:u≤9223372036854775808)(h1:1≤u)(hs:u<10)(h:St W0 w K L):
 Calls Jd 9 #[I O (-(u:Int))] w fun en w'=>en=Jb (Z (bb ((45::Lib.decDigits u))))∧St W0 w' K L:=by
 obtain⟨d,hd⟩:=eX (u % 10);obtain⟨v,hv⟩:=eX (u / 10);have hd9:d<10:=by omega
 obtain⟨c,hc⟩:=eX (UInt8.ofNat (48+d));have hcn:(48+(d:Int))=c.toNat:=by rw[←hc,UInt8.toNat_ofNat'];omega
 obtain⟨nb,hnb⟩:=eX w.heap.size;have g1:=h.allocRaw #[.int .u8 (48+(d:Int))] 5;rw[hnb]at g1;have cb:=zD8 c _ hcn g1;have H:=hQd g1;have q1:(-(u:Int)).tmod 10= -(d:Int):=by rw[Int.neg_tmod,Int.tmod_eq_emod_of_nonneg oM];omega
 have q3:(-(u:Int)).tdiv 10= -(v:Int):=by rw[Int.neg_tdiv,Int.tdiv_eq_ediv_of_nonneg oM];omega
 have r1:(-(u:Int))<0:=by omega
 have r2:decide ((-(u:Int))<0)=true:=decide_eq_true r1;have r5:(0:Int)<(u:Int):=by omega
 have r3: -10<(-(u:Int)):=by omega
 have r4:decide (-10<(-(u:Int)))=true:=decide_eq_true r3;have r6:(u:Int)<10:=by omega
 have q5:(48+(d:Int)) % 256=48+(d:Int):=by omega
 have HD:=hQd (show(45::Lib.decDigits u)=[45,c]from by rw[zC5 hs,←hc];rw[←hd,Nat.mod_eq_of_lt hs]);have HWV:=hQd (show wrap64 (-(v:Int))= -(v:Int)from IntWalk.wrap64_in _ oM)
 skip
 skip
 skip
 skip
 skip
 skip
 skip
 clear h g1 hu hs hd hv hc hcn hd9 h1;go_enter Tryz.func9,Tryz.ntmps9;go_wp2_with fail;go_ret;exact⟨by rw[HD.out];try rfl,H.out.drop⟩
theorem num_n1(u:Nat)(hu:u≤9223372036854775808)(h1:1≤u)(hs:¬u<10)(hrec:∀w,St W0 w K L→Calls Jd 9 #[I O (-((u / 10:Nat):Int))] w fun en w'=>en=Jb (Z (bb (45::Lib.decDigits (u / 10))))∧St W0 w' K L)(h:St W0 w K L):
 Calls Jd 9 #[I O (-(u:Int))] w fun en w'=>en=Jb (Z (bb ((45::Lib.decDigits u))))∧St W0 w' K L:=by
 obtain⟨d,hd⟩:=eX (u % 10);obtain⟨v,hv⟩:=eX (u / 10);have hd9:d<10:=by omega
 obtain⟨c,hc⟩:=eX (UInt8.ofNat (48+d));have hcn:(48+(d:Int))=c.toNat:=by rw[←hc,UInt8.toNat_ofNat'];omega
 obtain⟨nb,hnb⟩:=eX w.heap.size;have g1:=h.allocRaw #[.int .u8 (48+(d:Int))] 5;rw[hnb]at g1;have cb:=zD8 c _ hcn g1;have H:=hQd g1;have q1:(-(u:Int)).tmod 10= -(d:Int):=by rw[Int.neg_tmod,Int.tmod_eq_emod_of_nonneg oM];omega
 have q3:(-(u:Int)).tdiv 10= -(v:Int):=by rw[Int.neg_tdiv,Int.tdiv_eq_ediv_of_nonneg oM];omega
 have r1:(-(u:Int))<0:=by omega
 have r2:decide ((-(u:Int))<0)=true:=decide_eq_true r1;have r5:(0:Int)<(u:Int):=by omega
 have r3:¬(-10<(-(u:Int))):=by omega
 have r4:decide (-10<(-(u:Int)))=false:=decide_eq_false r3;have r6:¬((u:Int)<10):=by omega
 have q5:(48+(d:Int)) % 256=48+(d:Int):=by omega
 have HD:=hQd (show(45::Lib.decDigits u)=(45::(Lib.decDigits v++[c]))from by rw[zFT hs,hd,hv,hc]);have HWV:=hQd (show wrap64 (-(v:Int))= -(v:Int)from IntWalk.wrap64_in _ oM);have HREC:=hQd hrec;rw[hv]at HREC;obtain⟨p,hp⟩:=eX ((45::Lib.decDigits v));have hpl:p.length≤30:=by rw[←hp];exact Nat.succ_le_succ (zE3 v oM)
 have hpi:¬9223372036854775807<p.length+1:=by omega
 rw[hp]at HREC;rw[show 45::(Lib.decDigits v++[c])=p++[c] by rw[←hp]<;>rfl]at HD;clear h g1 hu hs hd hv hc hcn hd9 hrec h1;go_enter Tryz.func9,Tryz.ntmps9;go_wp2_with (go_at_call 9;rw[HWV.out];(with_reducible refine(HREC.out _ H.out.drop).zM ?_);clear H;intro wn H);go_ret;exact⟨by rw[HD.out];try rfl,H.out⟩
theorem zQs:∀(n u:Nat),u≤n→u≤9223372036854775807→∀{W0 w:World}{K:Know}{L:List Res},St W0 w K L→Calls Jd 9 #[I O u] w fun en w'=>en=Jb (Z (bb (Lib.decDigits u)))∧St W0 w' K L
 |0,u,h,hu,_,_,_,_,hst=>zS1 u hu oM hst
 |n+1,u,h,hu,_,_,_,_,hst=>by
  by_cases hs:u<10
  ·exact zS1 u hu hs hst
  ·exact num_p1 u hu hs (fun w' h'=>zQs n (u / 10) oM oM h') hst
theorem zQt:∀(n u:Nat),u≤n→u≤9223372036854775808→1≤u→∀{W0 w:World}{K:Know}{L:List Res},St W0 w K L→Calls Jd 9 #[I O (-(u:Int))] w fun en w'=>en=Jb (Z (bb (45::Lib.decDigits u)))∧St W0 w' K L
 |0,u,h,hu,h1,_,_,_,_,hst=>absurd h oM
 |n+1,u,h,hu,h1,_,_,_,_,hst=>by
  by_cases hs:u<10
  ·exact num_n0 u hu h1 hs hst
  ·exact num_n1 u hu h1 hs (fun w' h'=>zQt n (u / 10) oM oM oM h') hst
theorem zBg(n:Int)(hn:Rn n)(t:Bs)(ht:numW n=t)(h:St W0 w K L):Calls Jd 9 #[I O n] w fun en w'=>en=Jb (Z (bb t))∧St W0 w' K L:=by
 subst ht;unfold Rn at hn
 by_cases h0:n<0
 ·obtain⟨u,rfl⟩:∃u:Nat,n= -(u:Int):=⟨n.natAbs,oM⟩;have e:numW (-(u:Int))=45::Lib.decDigits u:=by unfold numW;exact Lib.itoa_neg u oM
  rw[e];exact zQt u u (Jo _) oM oM h
 ·obtain⟨u,rfl⟩:∃u:Nat,n=(u:Int):=⟨n.natAbs,oM⟩;have e:numW (u:Int)=Lib.decDigits u:=by unfold numW;exact Lib.itoa_nonneg u
  rw[e];exact zQs u u (Jo _) oM h
variable {W0 w:World}{K:Know}{L:List Res}
theorem zL7(nl:Bool)(d t:Bs)(ht:zBa ⟨nl,d⟩=t)(hd:d.length≤1000000)(h:St W0 w K L):
 Calls Jd 43 #[.agg #[U nl,Z (bb d)]] w fun en w'=>en=Jb (Z (bb t))∧St W0 w' K L:=by
 obtain⟨xb,hxb⟩:=eX w.heap.size;have g1:=h.allocRaw #[U nl,Z (bb d)] 51;rw[hxb]at g1;obtain⟨c0,c1⟩:=uR2 ((g1));simp at c0 c1;have H:=hQd g1;have HDL:=hQd hd;subst ht;clear h g1 hd
 cases nl
 ·go_enter Tryz.func43,Tryz.ntmps43;go_wp2_with (go_at_call 17;(with_reducible refine(zSZ d HDL.out H.out).zM ?_);clear H;intro wn H);go_ret;exact⟨rfl,H.out.drop⟩
 ·go_enter Tryz.func43,Tryz.ntmps43;go_wp2_with fail;go_ret;exact⟨rfl,H.out.drop⟩
theorem zOh(a0 a1 a2 a3 a4 a5 a6 a7:Value)(va vt vc:Bool)(v t:Value)(ht:t=Z (bb (letW va vt vc)))(h:St W0 w K L):
 Calls Jd 42 #[.agg #[a0,a1,U va,U vt,U vc,a2,a3,a4,a5,a6,a7,v]] w fun en w'=>en=Jb t∧St W0 w' K L:=by
 obtain⟨xb,hxb⟩:=eX w.heap.size;have g1:=h.allocRaw #[a0,a1,U va,U vt,U vc,a2,a3,a4,a5,a6,a7,v] 30;rw[hxb]at g1;have c2:=g1.rawCell 2;have c3:=g1.rawCell 3;have c4:=g1.rawCell 4;simp at c2 c3 c4;have k0:((⟨#[]⟩:ByteArray)++(⟨#[97]⟩:ByteArray))=⟨#[97]⟩:=by rfl
 have k1:((⟨#[]⟩:ByteArray)++(⟨#[116]⟩:ByteArray))=⟨#[116]⟩:=by rfl
 have k2:((⟨#[]⟩:ByteArray)++(⟨#[99]⟩:ByteArray))=⟨#[99]⟩:=by rfl
 have k3:((⟨#[97]⟩:ByteArray)++(⟨#[116]⟩:ByteArray))=⟨#[97,116]⟩:=by rfl
 have k4:((⟨#[97]⟩:ByteArray)++(⟨#[99]⟩:ByteArray))=⟨#[97,99]⟩:=by rfl
 have k5:((⟨#[116]⟩:ByteArray)++(⟨#[99]⟩:ByteArray))=⟨#[116,99]⟩:=by rfl
 have k6:((⟨#[97,116]⟩:ByteArray)++(⟨#[99]⟩:ByteArray))=⟨#[97,116,99]⟩:=by rfl
 have j7:(⟨#[97]⟩:ByteArray).toList.isEmpty=false:=by decide+kernel
 have j8:(⟨#[116]⟩:ByteArray).toList.isEmpty=false:=by decide+kernel
 have j9:(⟨#[99]⟩:ByteArray).toList.isEmpty=false:=by decide+kernel
 have j10:(⟨#[97,116]⟩:ByteArray).toList.isEmpty=false:=by decide+kernel
 have j11:(⟨#[97,99]⟩:ByteArray).toList.isEmpty=false:=by decide+kernel
 have j12:(⟨#[116,99]⟩:ByteArray).toList.isEmpty=false:=by decide+kernel
 have j13:(⟨#[97,116,99]⟩:ByteArray).toList.isEmpty=false:=by decide+kernel
 have H:=hQd g1;subst ht;clear h g1
 cases va<;>cases vt<;>cases vc<;>(
  go_enter Tryz.func42,Tryz.ntmps42;go_wp2_with fail;go_ret
  exact⟨rfl,H.out.drop⟩)
theorem zTn(s t:Bs)(ht:hexW s=t)(hs:s.length≤1000000){W0 w:World}{K:Know}{L:List Res}(h:St W0 w K L):
 Calls Jd 17 #[Z (bb s)] w fun en w'=>en=Jb (Z (bb t))∧St W0 w' K L:=by
 subst ht;exact zSZ s hs h
theorem zFN{α:Type}(f:α→Bs):∀(l:List α),(∀x∈l,1≤(f x).length)→l.length≤(l.flatMap f).length
 |[],_=>Jo _
 |x::t,h=>by
  have h1:=zFN f t (fun y hy=>h y (by simp[hy]));have h2:=h x sM;rw[List.flatMap_cons,Je,Jg]
  omega
theorem zNH(s:Bs):s.length≤(hexW s).length:=by
 unfold hexW
 split
 ·rename_i h;subst h;exact Ji _
 ·rw[zGt];omega
theorem zHW(b:BlobS)(h:oddB b=false):b.data.length≤(zBa b).length:=by
 unfold zBa
 split
 ·rename_i hn
  unfold oddB at h;rw[hn]at h;simp at h;rw[h];exact Ji _
 ·exact zNH _
theorem zAk(n:Int)(h:Rn n):(numW n).length≤31:=by
 unfold Rn at h;unfold numW
 by_cases h0:n<0
 ·obtain⟨u,rfl⟩:∃u:Nat,n= -(u:Int):=⟨n.natAbs,oM⟩;rw[Lib.itoa_neg u oM]
  by_cases hu:u≤9223372036854775807
  ·have:=zE3 u hu;rw[Jg];omega
  ·have e:u=9223372036854775808:=by omega
   subst e;have h9:(Lib.decDigits 9223372036854775808).length=(Lib.decDigits 922337203685477580++[UInt8.ofNat (48+9223372036854775808 % 10)]).length:=by rw[zFT oM]
   rw[Je]at h9;have:=zE3 922337203685477580 oM;rw[Jg,h9,Jg,Jl];omega
 ·obtain⟨u,rfl⟩:∃u:Nat,n=(u:Int):=⟨n.natAbs,oM⟩;rw[Lib.itoa_nonneg];have:=zE3 u oM;omega
theorem zQI(s:Bs):(hexW s).length≤2*s.length+1:=by
 unfold hexW
 split
 ·simp
 ·rw[zGt];omega
theorem zJ7(b:BlobS):(zBa b).length≤2*b.data.length+4:=by
 unfold zBa
 split
 ·simp
 ·have:=zQI b.data;omega
theorem zCL{α:Type}(f:α→Bs)(n:Nat):∀(l:List α),(∀x∈l,(f x).length≤n)→(l.flatMap f).length≤l.length*n
 |[],_=>by simp
 |x::t,h=>by
  have h1:=zCL f n t (fun y hy=>h y (by simp[hy]));have h2:=h x sM;rw[List.flatMap_cons,Je,Jg,Nat.succ_mul]
  omega
theorem zJP:∀(l:List HdrS),hAll l=true→∀z∈l,z.key.length+z.val.data.length≤100
 |[],_,_,h=>by cases h
 |r::t,hh,x,hx=>by
  simp only[hAll,Bool.and_eq_true,decide_eq_true_eq]at hh
  rcases List.mem_cons.1 hx with rfl|hx
  ·exact hh.1
  ·exact zJP t hh.2 x hx
theorem zTE(r:RecS)(h:zBt r=true)(hr:Rn r.time∧Rn r.off):(recT r).length≤2000:=by
 unfold zBt at h;simp only[Bool.and_eq_true,decide_eq_true_eq]at h;obtain⟨h1,h2,h3⟩:=h;have a1:=zAk r.time hr.1;have a2:=zAk r.off hr.2;have a3:=zJ7 r.key;have a4:=zJ7 r.val
 have a5:=zCL hdrT 220 r.hdrs (fun z hz=>by
  have b1:=zJP r.hdrs h3 z hz;have b2:=zQI z.key;have b3:=zJ7 z.val;unfold hdrT;simp only[Je,Jg,Jl]
  omega)
 unfold recT recH;simp only[Je,Jg,Jl]
 omega
theorem zNC(l:List Int)(h:∀n∈l,Rn n):(zJK l).length≤l.length*32:=zCL _ 32 l (fun n hn=>by have:=zAk n (h n hn);simp only[Jg];omega)
theorem zUl(b:BatS)(h:batR b):(batL b).length≤300:=by
 have h1:=zNC (batN b) h;have h2:(letW b.app b.txn b.ctl).length≤3:=by cases b.app<;>cases b.txn<;>cases b.ctl<;>decide
 unfold batL;simp only[Je,Jg,Jl];have h3:(batN b).length=8:=rfl
 omega
theorem btT_le(x:BtR)(h:zBb (x.l.map (·.1))=true)(hb:batR x.b)(hr:∀y∈x.l,Rn y.1.time∧Rn y.1.off):(btT x).length≤30000:=by
 unfold zBb at h;simp only[Bool.and_eq_true,decide_eq_true_eq,Jn]at h;have h1:=zUl x.b hb;have h2:=zCL (fun y:RecS×Value=>recT y.1) 2000 x.l (fun y hy=>zTE y.1 (zDj _ h.2 y.1 (List.mem_map.2 ⟨y,hy,rfl⟩)) (hr y hy));unfold btT;rw[Je]
 omega
def zCa (l:List BtR) (ch:List Int):Bool:=decide (l.length≤8) && (decide (ch.length≤200) && l.all fun x=>zBb (x.l.map (·.1)))
theorem zPx(l:List BtR)(c:Int)(ch:List Int)(h:zCa l ch=true)(hc:Rn c)(hch:∀v∈ch,Rn v)(hb:∀x∈l,batR x.b)(hr:∀x∈l,∀y∈x.l,Rn y.1.time∧Rn y.1.off):(l.flatMap btT++(cutT c++chT ch)).length≤300000:=by
 unfold zCa at h;simp only[Bool.and_eq_true,decide_eq_true_eq,List.all_eq_true]at h;obtain⟨h1,h2,h3⟩:=h;have a1:=zCL btT 30000 l (fun x hx=>btT_le x (h3 x hx) (hb x hx) (hr x hx));have a2:=zNC ch hch;have a3:=zAk c hc;have a4:(cutT c).length≤40:=by unfold cutT;split<;>simp only[Je,Jg,Jl]<;>omega
 have a5:(chT ch).length≤7000:=by unfold chT;split<;>simp only[Je,Jg,Jl]<;>omega
 rw[Je,Je]
 omega
def mayP (l:List BtR) (c:Int):Prop:= -1≤c∧∀x∈l,∀y∈x.l,oddB y.1.key=false∧oddB y.1.val=false∧∀z∈y.1.hdrs,oddB z.val=false
theorem zGs{l:List BtR}{c:Int}(h:mayP l c)(hb:∀x∈l,batR x.b)(hr:∀x∈l,∀y∈x.l,Rn y.1.time∧Rn y.1.off):∀x∈l,zCN x:=fun x hx=>⟨hb x hx,fun y hy=>⟨(h.2 x hx y hy).1,(h.2 x hx y hy).2.1,(h.2 x hx y hy).2.2,(hr x hx y hy).1,(hr x hx y hy).2⟩⟩
theorem zIT:∀ws:List Bs,Lib.join ws [32]=zAN 32 ws
 |[]=>rfl
 |w::r=>by
  rw[Lib.join_cons,zFI]
  congr 1
theorem zTg(ws:List Bs)(t:Bs)(wb n cap:Nat)(hn:n=ws.length)(hnc:n≤cap)(hl:ws.length≤1000000)(ht:zAN 32 ws=t)(htl:t.length≤1000000)(hk:K.has (Know.strw wb 0 ws))(h:St W0 w K L):
 Calls Jd 73 #[Ja (some ⟨wb,0,none⟩) n cap,Z ⟨#[32]⟩] w fun e w'=>e=Jb (Z (bb t))∧St W0 w' K L:=by
 subst hn;obtain⟨F,hF,_⟩:=h.get;obtain⟨_,h2,h3⟩:=hk _ _ hF
 have e1:(ws.map bb).map (fun x=>x.data.toList)=ws:=by
  rw[List.map_map]
  conv=>rhs;rw[←List.map_id ws]
  refine List.map_congr_left fun x _=> ?_
  simp
 have e2:(⟨#[32]⟩:ByteArray).data.toList=[32]:=rfl
 have h4:=Tryz.strings_Join wb 0 cap (ws.map bb) ⟨#[32]⟩ w (fun j x hx=>by
  rw[List.getElem?_map]at hx
  cases hj:ws[j]? with
  |none=>rw[hj]at hx;cases hx
  |some y=>rw[hj]at hx;injection hx with hx;subst hx;exact h3 j y hj) h2 (by simp;omega) (by simpa using hnc) (by rw[e1,e2,zIT,ht];omega)
 rw[e1,e2,zIT,ht,Jn]at h4;exact h4.mono (by rintro e w' ⟨rfl,hb⟩;exact⟨rfl,h.below' hb⟩)
theorem zHR:zEg Jd 9 (Z ⟨#[]⟩) 1 16:=zB8 kR rfl dD
def zNj (s:Bs):List Value:=[Z (bb s)]
theorem St.rowStrs{v:Value}{ws:List Bs}{T:TypeId}(h:St W0 w K (.row v T 1 ws.length (ws.flatMap zNj)::L))(h0:0<ws.length):∃wb cap,v=Ja (some ⟨wb,0,none⟩) ws.length cap∧ws.length≤cap∧St W0 w (K.and (Know.strw wb 0 ws)) L:=by
 obtain⟨g,cap,hv⟩:=h.rowSlice h0;subst hv;have hcc:=h.rowGet;refine⟨g,cap,rfl,?_,h.freeze fun F S1 _ hr=> ?_⟩
 ·rcases hcc.2 with ⟨hv,_⟩|⟨g2,cap2,cur,hv,hle,_⟩
  ·cases hv
  ·injection hv with _ _ hv;subst hv;omega
 ·obtain⟨⟨g1,g2⟩,g3⟩:=hr
  rcases g2 with ⟨hv,_⟩|⟨g4,cap4,cur,hv,_,hg,hn,hcm,hcs,htake⟩
  ·cases hv
  ·injection hv with hv1 hv2 hv3;injection hv1 with hv1;injection hv1 with hv1;subst hv1;have hlt:=zA1 hg;refine⟨.inr ⟨(g3 _).2 rfl,hlt⟩,hlt,fun j x hx=> ?_⟩;rw[zAO hg,Nat.zero_add];have hj:j<ws.length:=(List.getElem?_eq_some_iff.1 hx).1;have e:=zBJ ws zNj 1 (fun _ _=>rfl) j hj 0 oM;rw[(List.getElem?_eq_some_iff.1 hx).2,Nat.mul_one,Nat.add_zero]at e;rw[←htake,List.getElem?_take_of_lt oM]at e
   simpa [zNj]using e
def zLY (b:BatS):List Bs:=match zCD b with
 |(_,_,k,_,c,true)=>[if k=1 then[99,111,109,109,105,116]else[97,98,111,114,116],numW c]
 | _=>[[100,97,116,97]]
def zLi (b:BatS):List Bs:=[[98,97,116,99,104],numW b.base,numW b.prod,numW (b.recs.length:Int)]
def zBn (b:BatS):Bs:=zAN 32 (zLi b++zLY b)++[10]
def totT (P Q:Int):Bs:=zAN 32 [[116,111,116,97,108],numW P,numW Q]++[10]
def endW (V st e:Int):List Bs:=if st=0 then[[118,97,108,105,100],numW V,[99,108,101,97,110]]else if st=1 then[[118,97,108,105,100],numW V,[116,111,114,110]]else[[118,97,108,105,100],numW V,[98,97,100],numW e]
def endT (V st e:Int):Bs:=zAN 32 (endW V st e)++[10]
def sumE (bs:List BatS):Int:=(bs.map fun b=>(b.enc.length:Int)).sum
def sumR (bs:List BatS):Int:=(bs.map fun b=>(b.recs.length:Int)).sum
def zPo (bs:List BatS) (V:Int) (st e:Int):Bs:=bs.flatMap zBn++(totT (sumE bs) (sumR bs)++endT V st e)
theorem zGD{b:BatS}{n1 n2 n3 n4 n5:Int}(h:zCD b=(n1,n2,n3,n4,n5,false)):zLY b=[[100,97,116,97]]:=by unfold zLY;rw[h]
theorem zEk{b:BatS}{n1 n2 n3 n4 n5:Int}(h:zCD b=(n1,n2,n3,n4,n5,true))(hk:n3=1):zLY b=[[99,111,109,109,105,116],numW n5]:=by unfold zLY;rw[h];simp only;rw[if_pos hk]
theorem zFe{b:BatS}{n1 n2 n3 n4 n5:Int}(h:zCD b=(n1,n2,n3,n4,n5,true))(hk:¬n3=1):zLY b=[[97,98,111,114,116],numW n5]:=by unfold zLY;rw[h];simp only;rw[if_neg hk]
theorem zGz{ops:Array Oper}{rest:List Oper}{o:Oper}{a:Act}{Q:Exit→Act→World→Prop}(hgd:o.guard=none)(sl x:Operand)(t:TypeId)
 (ho:o.op=.call {callee:=.builtin .append,args:= #[sl,x],argTypes:= #[t,t]})
 (e:TypeId){z:Value}{size bytes:Nat}(ht:Tryz.prog.underlying t=some (.slice e))(he:zEg Jd e z size bytes)
 (v:Value)(n:Nat)(xs:List Value)(hs:a.eval sl=v)(hst:St W0 w K (.row v e size n xs::L))
 (m:Nat)(news:List Value)(T:TypeId)(hx:a.eval x=Ja (some ⟨w.heap.size,0,none⟩) m m)(hl:news.length=m*size)(h1:∀u∈news,u.oneCell'=true)
 (h63:n+m≤maxLen)(hbytes:(n+m)*bytes≤140737488355328)
 (h:∀v' w',St W0 w' K (.row v' e size (n+m) (xs++news)::L)→wpList Jd ops Q rest (a.put o.dst v') w'):wpList Jd ops Q (o::rest) a (w.alloc (.cells news.toArray T)):=
 zDR hgd sl x t ho e ht he v n xs hs (hst.alloc _) ⟨w.heap.size,0,none⟩ m m news hx hl (zLE w news T) h1 h63 hbytes h
theorem St.rowLitEx(h:St W0 w K L)(c:List Value)(T:TypeId)(sz n:Nat)(hc:c.length=n*sz)(hn:n≤maxLen):∃wy b,w.alloc (.cells c.toArray T)=wy∧w.heap.size=b∧St W0 wy K (.row (Ja (some ⟨b,0,none⟩) n n) T sz n c::L):=⟨_,_,rfl,rfl,h.rowLit c T sz n hc hn⟩
theorem nl_cat(t tl:Bs)(h:t++[10]=tl):bb t++(⟨#[10]⟩:ByteArray)=bb tl:=by rw[←h];exact zAc t [10]
theorem zBL(n:Int)(hn:Rn n)(t:Bs)(ht:numW n=t){W0 w:World}{K:Know}{L:List Res}(hlib:K.has Know.lib)(h:St W0 w K L):
 Calls Jd 37 #[I O n] w fun en w'=>en=Jb (Z (bb t))∧St W0 w' K L:=by
 subst ht;unfold Rn at hn;exact zL1 n hn.1 oM hlib h
theorem zMV(a0 a1 a2 a3:ByteArray)(w:World):(Instr.buildSlice 69 4 #[(0,Z a0),(1,Z a1),(2,Z a2),(3,Z a3)]).run Jd w=.ok (Ja (some ⟨w.heap.size,0,none⟩) 4 4) (w.alloc (.cells #[Z a0,Z a1,Z a2,Z a3] 9 (0,0))):=by go_simp
theorem zDP{o:Oper}{ρ:Operand→Value}(ps:Array (Nat×Value))(v:Value)(w w':World)(ho:execOp ρ o=(do pure (Next.value (←Instr.buildSlice 69 4 ps))))(hb:(Instr.buildSlice 69 4 ps).run Jd w=.ok v w'):(execOp ρ o).run Jd w=.ok (.value v) w':=by
 rw[ho];simp[hb,Result.andThen]
theorem EncOk.fit{b:BatS}(so:EncOk b){l:List (RecS×Value)}(hl:l.map (·.1)=b.recs):FitB l:=by
 intro x hx;obtain⟨a,c,d⟩:=so.recs x.1 (by rw[←hl];exact List.mem_map.2 ⟨x,hx,rfl⟩);have:=zEU x.1.hdrs 1000000 (by unfold RecS.sum at d;omega);exact⟨a,fun y hy=>by have:=this y hy;omega,d⟩
theorem EncOk.llen{b:BatS}(so:EncOk b){l:List (RecS×Value)}(hl:l.map (·.1)=b.recs):l.length≤1000:=by
 have h1:=congrArg Jh hl;rw[Jn]at h1;have:=so.len
 omega
theorem zHA(b:BatS)(l:List (RecS×Value))(q:Option Addr)(cap:Nat)(hl:l.map (·.1)=b.recs)(n1 n2 n3 n4 n5:Int)(ok:Bool)(he:zCD b=(n1,n2,n3,n4,n5,ok))(so:EncOk b){W0 w:World}{K:Know}{L:List Res}(hk:K.has (Know.recs (Ja q l.length cap) l))(h:St W0 w K L):
 Calls Jd 108 #[.agg #[I O b.base,I O b.leader,U b.app,U b.txn,U b.ctl,I O b.last,I O b.first,I O b.maxt,I O b.prod,I O b.epoch,I O b.seq,Ja q l.length cap]] w fun en w'=>en=Jb (.tuple #[.agg #[I O n1,I O n2,I O n3,I O n4,I O n5],U ok])∧St W0 w' K L:=
 zSl b.base b.leader b.app b.txn b.ctl b.last b.first b.maxt b.prod b.epoch b.seq l q cap n1 n2 n3 n4 n5 ok (by rw[hl];exact he) (by have:=so.rng.2.2.2.1.2;omega) (so.fit hl) (by have:=so.llen hl;omega) hk h
theorem zPh(ok:Int→Bool)(e:Int)(s:Bs):Rn (zCn 4 ok e s).1:=by
 unfold zCn;have h0:Rn 0:=by unfold Rn;decide
 have h1:Rn (sInt ((s.drop 2).take 4)):=zCY _ (by rw[Jk];omega)
 repeat' split
 all_goals first|exact h0|exact h1
theorem zUf(x:RecS):Rn (zCh x).2.1:=by
 unfold zCh zB2;have h0:Rn 0:=by unfold Rn;decide
 repeat' split
 all_goals first|exact h0|exact zPh _ _ _
theorem zEz{b:BatS}{n1 n2 n3 n4 n5:Int}{ok:Bool}(he:zCD b=(n1,n2,n3,n4,n5,ok)):Rn n5:=by
 unfold zCD at he
 split at he
 ·split at he
  ·rename_i x t _
   have e:(zCh x).2.1=n5:=congrArg (fun z=>z.2.2.2.2.1) he;rw[←e];exact zUf x
  ·have e:(0:Int)=n5:=congrArg (fun z=>z.2.2.2.2.1) he;rw[←e];unfold Rn;decide
 ·have e:(0:Int)=n5:=congrArg (fun z=>z.2.2.2.2.1) he;rw[←e];unfold Rn;decide
def OkB (x:BatR):Prop:=x.l.map (·.1)=x.b.recs∧EncOk x.b
theorem EncOk.elen{b:BatS}(h:EncOk b):b.enc.length≤400061:=by rw[b.enc_len];have:=h.rows;omega
theorem zTM(x:BatR)(h:OkB x):(0≤ptP x.b∧ptP x.b≤401000)∧(0≤ptQ x.b∧ptQ x.b≤1000):=by
 have h0:=h.2.err;have h1:=h.2.elen;have h2:=h.2.len;unfold ptP ptQ;rw[if_pos h0,if_pos h0]
 omega
theorem zPL:∀(l:List BatR),(∀x∈l,OkB x)→(0≤sP l∧sP l≤401000*l.length)∧(0≤sQ l∧sQ l≤1000*l.length)
 |[],_=>by simp[sP,sQ]
 |x::t,h=>by
  have h1:=zTM x (h x (List.mem_cons_self));have h2:=zPL t (fun y hy=>h y (List.mem_cons_of_mem _ hy));have e1:sP (x::t)=ptP x.b+sP t:=by unfold sP;rw[List.map_cons,List.sum_cons]
  have e2:sQ (x::t)=ptQ x.b+sQ t:=by unfold sQ;rw[List.map_cons,List.sum_cons]
  rw[e1,e2,Jg]
  omega
theorem zSY:∀(l:List BatR),(∀x∈l,OkB x)→sP l=sumE (l.map BatR.b)∧sQ l=sumR (l.map BatR.b)
 |[],_=>⟨rfl,rfl⟩
 |x::t,h=>by
  have h2:=zSY t (fun y hy=>h y (List.mem_cons_of_mem _ hy));have h0:=(h x (List.mem_cons_self)).2.err;have e1:sP (x::t)=ptP x.b+sP t:=by unfold sP;rw[List.map_cons,List.sum_cons]
  have e2:sQ (x::t)=ptQ x.b+sQ t:=by unfold sQ;rw[List.map_cons,List.sum_cons]
  have e3:sumE ((x::t).map BatR.b)=(x.b.enc.length:Int)+sumE (t.map BatR.b):=by unfold sumE;rw[List.map_cons,List.map_cons,List.sum_cons]
  have e4:sumR ((x::t).map BatR.b)=(x.b.recs.length:Int)+sumR (t.map BatR.b):=by unfold sumR;rw[List.map_cons,List.map_cons,List.sum_cons]
  rw[e1,e2,e3,e4,h2.1,h2.2];unfold ptP ptQ;rw[if_pos h0,if_pos h0];exact⟨rfl,rfl⟩
theorem convR(x:Nat)(a:Int)(h:FI x a)(ha:Wh a)(w:World):(convert 119 3 (.float .f64 x)).run Jd w=.ok (I O a) w:=by
 refine run_convert_float_int w _ _ .f64 .i64 x a kR kR ?_;unfold floatToIntVal;rw[FI.toInt h];simp only;unfold Wh at ha;rw[if_pos]
 show -9223372036854775808≤a∧a≤9223372036854775807
 omega
theorem zQA{b:BatS}(so:EncOk b):(zBn b).length≤1000:=by
 have hR:=so.rng;have hll:=so.len;have m1:=zAk _ hR.1;have m2:=zAk _ hR.2.2.2.2.2.1;have m3:=zAk (b.recs.length:Int) (by unfold Rn;omega);unfold zBn zLi;obtain⟨⟨n1,n2,n3,n4,n5,ok⟩,he⟩:∃y,zCD b=y:=⟨_,rfl⟩;have m5:=zAk _ (zEz he)
 cases ok with
 |false=>rw[zGD he];simp only[List.cons_append,List.nil_append,zAN,Je,Jg,Jl];omega
 |true=>
  by_cases hk:n3=1
  ·rw[zEk he hk];simp only[List.cons_append,List.nil_append,zAN,Je,Jg,Jl];omega
  ·rw[zFe he hk];simp only[List.cons_append,List.nil_append,zAN,Je,Jg,Jl];omega
theorem zKk(bs:List BatS)(V st e:Int)(hok:∀b∈bs,EncOk b)(hbl:bs.length≤900)(hV:Rn V)(he:Rn e)(hP:Rn (sumE bs))(hQ:Rn (sumR bs)):(zPo bs V st e).length≤1000000:=by
 have h1:=zCL zBn 1000 bs (fun b hb=>zQA (hok b hb));have m1:=zAk _ hP;have m2:=zAk _ hQ;have m3:=zAk _ hV;have m4:=zAk _ he;have h2:(totT (sumE bs) (sumR bs)).length≤100:=by unfold totT;simp only[zAN,Je,Jg,Jl];omega
 have h3:(endT V st e).length≤100:=by
  unfold endT endW
  repeat' split
  all_goals (simp only[zAN,Je,Jg,Jl];omega)
 unfold zPo;rw[Je,Je]
 omega
theorem zJh:∀(l:List BatS),(∀b∈l,EncOk b)→(0≤sumE l∧sumE l≤401000*l.length)∧(0≤sumR l∧sumR l≤1000*l.length)
 |[],_=>by simp[sumE,sumR]
 |x::t,h=>by
  have h2:=zJh t (fun y hy=>h y (List.mem_cons_of_mem _ hy));have h0:=(h x (List.mem_cons_self)).elen;have h1:=(h x (List.mem_cons_self)).len;have e3:sumE (x::t)=(x.enc.length:Int)+sumE t:=by unfold sumE;rw[List.map_cons,List.sum_cons]
  have e4:sumR (x::t)=(x.recs.length:Int)+sumR t:=by unfold sumR;rw[List.map_cons,List.sum_cons]
  rw[e3,e4,Jg]
  omega
end Go.Proofs.YtenojajfacacoaaGreatDoor
