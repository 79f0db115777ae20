/- A text. -/
import Derived.Test.YtenojajfacacoaaGreatDoorGReportPlaysCard4
import Derived.IntWalk
import Derived.RegionTactic
import Derived.Deep.DeepCutAuto
import Derived.Deep.RegionHeld3
import Derived.Test.YtenojajfacacoaaGreatDoorGReportPlaysCard3
import Derived.Test.YtenojajfacacoaaGreatDoorGReportPlaysCard1
import Derived.Test.YtenojajfacacoaaGreatDoorGReportPlaysCard2
import Derived.Deep.RegionWith
import Derived.Deep.MidRow
/- A text. -/
namespace Go.Proofs.YtenojajfacacoaaGreatDoor
open Go.RowKit
open Go.Value renaming bool→U, string→Z, slice→Ja, int→I, pointer→Jc
open Go.Ending renaming returned→Jb
open _root_.Nat renaming le_refl→Jo, zero_le→Ji, add_assoc→Jm
open Go.IntKind renaming i64→O
open _root_.Go.Proofs.Tryz renaming prog→Jd
open _root_.List renaming length_cons→Jg, take_of_length_le→Jj, length_take→Jk, length_append→Je, length→Jh, take→Jq, getElem_mem→Jp, length_drop→Jf, length_nil→Jl, length_map→Jn
set_option maxHeartbeats 8000000
set_option maxRecDepth 100000
variable {W0 w:World}{K:Know}{L:List Res}
theorem zAd{b:Nat}{T:TypeId}{v0 v1 v2 v3 v4 v5 v6 v7 v8 v9 v10 v11:Value}(h:St W0 w K (.raw b #[v0,v1,v2,v3,v4,v5,v6,v7,v8,v9,v10,v11] T::L)):
 w.cell? ⟨b,0,none⟩=some v0∧w.cell? ⟨b,1,none⟩=some v1∧w.cell? ⟨b,2,none⟩=some v2∧w.cell? ⟨b,3,none⟩=some v3∧w.cell? ⟨b,4,none⟩=some v4∧w.cell? ⟨b,5,none⟩=some v5∧w.cell? ⟨b,6,none⟩=some v6∧w.cell? ⟨b,7,none⟩=some v7∧w.cell? ⟨b,8,none⟩=some v8∧w.cell? ⟨b,9,none⟩=some v9∧w.cell? ⟨b,10,none⟩=some v10∧w.cell? ⟨b,11,none⟩=some v11∧
 w.frozen? ⟨b,0,none⟩=false∧w.frozen? ⟨b,1,none⟩=false∧w.frozen? ⟨b,2,none⟩=false∧w.frozen? ⟨b,3,none⟩=false∧w.frozen? ⟨b,4,none⟩=false∧w.frozen? ⟨b,5,none⟩=false∧w.frozen? ⟨b,6,none⟩=false∧w.frozen? ⟨b,7,none⟩=false∧w.frozen? ⟨b,8,none⟩=false∧w.frozen? ⟨b,9,none⟩=false∧w.frozen? ⟨b,10,none⟩=false∧w.frozen? ⟨b,11,none⟩=false:=
 ⟨h.rawCell 0,h.rawCell 1,h.rawCell 2,h.rawCell 3,h.rawCell 4,h.rawCell 5,h.rawCell 6,h.rawCell 7,h.rawCell 8,h.rawCell 9,h.rawCell 10,h.rawCell 11,h.rawFree 0,h.rawFree 1,h.rawFree 2,h.rawFree 3,h.rawFree 4,h.rawFree 5,h.rawFree 6,h.rawFree 7,h.rawFree 8,h.rawFree 9,h.rawFree 10,h.rawFree 11⟩
theorem zq36{p:Prop}(h:p:=by first|exact HH.out|exact HH.out.p1|exact HH.out.p2):p:=h
theorem zq43{p:Prop}(h:p:=by first|exact H.out|exact H.out.p1|exact H.out.p2):p:=h
theorem zq0{p:Prop}(h:p:=by
  rw[if_neg hz];have hzb:(j3.err !=0)=true:=by rw[bne_iff_ne];exact hz
  clear hz;go_enter Tryz.func188,Tryz.ntmps188
  go_wp2_with (first
    |(go_at_call 198;(with_reducible refine(EF.out _ _ _ _ H.out).mono ?_);rintro e wn ⟨rfl,h⟩;obtain⟨bb2,hbb2⟩:=eX wn.heap.size;have h:=h.allocRaw #[I O a0,I O a1,I O a2,I O sm,I O a5,I O a6,I O a7,I O a8,I O a9,I O a10,I O a11,I O a12] 130;rw[hbb2]at h;replace H:=hQd h;clear h;have HH:=hQd H.out;obtain⟨yc0,yc1,yc2,yc3,yc4,yc5,yc6,yc7,yc8,yc9,yc10,yc11,yf0,yf1,yf2,yf3,yf4,yf5,yf6,yf7,yf8,yf9,yf10,yf11⟩:=zAd (b:=w.heap.size) zq36;obtain⟨xc0,xc1,xc2,xc3,xc4,xc5,xc6,xc7,xc8,xc9,xc10,xc11,xf0,xf1,xf2,xf3,xf4,xf5,xf6,xf7,xf8,xf9,xf10,xf11⟩:=zAd (b:=bb2) zq36)
    |(go_at_call 158;(with_reducible refine(zCJ _ _ _ zq43).mono ?_);(repeat first|rw[EJ1.out]|rw[EJ2.out]|rw[EJ3.out]);rintro e wn ⟨rfl,h⟩;replace H:=hQd h;clear h;have HH:=hQd H.out;obtain⟨yc0,yc1,yc2,yc3,yc4,yc5,yc6,yc7,yc8,yc9,yc10,yc11,yf0,yf1,yf2,yf3,yf4,yf5,yf6,yf7,yf8,yf9,yf10,yf11⟩:=zAd (b:=w.heap.size) zq36;obtain⟨xc0,xc1,xc2,xc3,xc4,xc5,xc6,xc7,xc8,xc9,xc10,xc11,xf0,xf1,xf2,xf3,xf4,xf5,xf6,xf7,xf8,xf9,xf10,xf11⟩:=zAd (b:=bb2) zq36)
    |(go_at_call 168;(with_reducible refine(zH3 _ _ zq43).zM ?_);clear H;intro wn H;have HH:=hQd H.out;obtain⟨yc0,yc1,yc2,yc3,yc4,yc5,yc6,yc7,yc8,yc9,yc10,yc11,yf0,yf1,yf2,yf3,yf4,yf5,yf6,yf7,yf8,yf9,yf10,yf11⟩:=zAd (b:=w.heap.size) zq36;obtain⟨xc0,xc1,xc2,xc3,xc4,xc5,xc6,xc7,xc8,xc9,xc10,xc11,xf0,xf1,xf2,xf3,xf4,xf5,xf6,xf7,xf8,xf9,xf10,xf11⟩:=zAd (b:=bb2) zq36))
  refine bodyPost_ret (v:=.agg #[I O 0,I O 0,I O 0,I O 0,I O 0,I O 0,I O 0,I O 0,I O 0,I O 0,I O 0,I O 0]) (by simp[results,Tryz.results188,go_sem,yc0,yc1,yc2,yc3,yc4,yc5,yc6,yc7,yc8,yc9,yc10,yc11]) rfl ⟨rfl,?_⟩;exact((((((((((((H.out.p2.rawSet 0 _).rawSet 1 _).rawSet 2 _).rawSet 3 _).rawSet 4 _).rawSet 5 _).rawSet 6 _).rawSet 7 _).rawSet 8 _).rawSet 9 _).rawSet 10 _).rawSet 11 _).drop.p1.drop):p:=h
theorem zq1{p:Prop}(h:p:=by
  rw[if_pos hz];have HZ:=hQd hz;clear hz;go_enter Tryz.func188,Tryz.ntmps188
  go_wp2_with (first
    |(go_at_call 198;(with_reducible refine(EF.out _ _ _ _ H.out).mono ?_);rintro e wn ⟨rfl,h⟩;obtain⟨bb2,hbb2⟩:=eX wn.heap.size;have h:=h.allocRaw #[I O a0,I O a1,I O a2,I O sm,I O a5,I O a6,I O a7,I O a8,I O a9,I O a10,I O a11,I O a12] 130;rw[hbb2]at h;replace H:=hQd h;clear h;have HH:=hQd H.out;obtain⟨yc0,yc1,yc2,yc3,yc4,yc5,yc6,yc7,yc8,yc9,yc10,yc11,yf0,yf1,yf2,yf3,yf4,yf5,yf6,yf7,yf8,yf9,yf10,yf11⟩:=zAd (b:=w.heap.size) zq36;obtain⟨xc0,xc1,xc2,xc3,xc4,xc5,xc6,xc7,xc8,xc9,xc10,xc11,xf0,xf1,xf2,xf3,xf4,xf5,xf6,xf7,xf8,xf9,xf10,xf11⟩:=zAd (b:=bb2) zq36)
    |(go_at_call 158;(with_reducible refine(zCJ _ _ _ zq43).mono ?_);(repeat first|rw[EJ1.out]|rw[EJ2.out]|rw[EJ3.out]);rintro e wn ⟨rfl,h⟩;replace H:=hQd h;clear h;have HH:=hQd H.out;obtain⟨yc0,yc1,yc2,yc3,yc4,yc5,yc6,yc7,yc8,yc9,yc10,yc11,yf0,yf1,yf2,yf3,yf4,yf5,yf6,yf7,yf8,yf9,yf10,yf11⟩:=zAd (b:=w.heap.size) zq36;obtain⟨xc0,xc1,xc2,xc3,xc4,xc5,xc6,xc7,xc8,xc9,xc10,xc11,xf0,xf1,xf2,xf3,xf4,xf5,xf6,xf7,xf8,xf9,xf10,xf11⟩:=zAd (b:=bb2) zq36)
    |(go_at_call 168;(with_reducible refine(zH3 _ _ zq43).mono ?_);rw[HZ.out];rintro e wn ⟨rfl,h⟩;replace H:=hQd h;clear h;have HH:=hQd H.out;obtain⟨yc0,yc1,yc2,yc3,yc4,yc5,yc6,yc7,yc8,yc9,yc10,yc11,yf0,yf1,yf2,yf3,yf4,yf5,yf6,yf7,yf8,yf9,yf10,yf11⟩:=zAd (b:=w.heap.size) zq36;obtain⟨xc0,xc1,xc2,xc3,xc4,xc5,xc6,xc7,xc8,xc9,xc10,xc11,xf0,xf1,xf2,xf3,xf4,xf5,xf6,xf7,xf8,xf9,xf10,xf11⟩:=zAd (b:=bb2) zq36))
  refine bodyPost_ret (v:=.agg #[I O a0,I O a1,I O a2,I O sm,I O a5,I O a6,I O a7,I O a8,I O a9,I O a10,I O a11,I O a12]) (by simp[results,Tryz.results188,go_sem,yc0,yc1,yc2,yc3,yc4,yc5,yc6,yc7,yc8,yc9,yc10,yc11]) rfl ⟨rfl,?_⟩;exact((((((((((((H.out.p2.rawSet 0 _).rawSet 1 _).rawSet 2 _).rawSet 3 _).rawSet 4 _).rawSet 5 _).rawSet 6 _).rawSet 7 _).rawSet 8 _).rawSet 9 _).rawSet 10 _).rawSet 11 _).drop.p1.drop):p:=h
theorem zHk(p:Nat)(i i1 i2 i3 i4 i5 i6 i7 i8 i9 i10 i11 i12 i13 j1 j2 j3:InS)(a0 a1 a2 a3 a4 a5 a6 a7 a8 a9 a10 a11 a12 sm:Int)(e0:i.int 8=(a0,i1))(e1:i1.int 4=(a1,i2))(e2:i2.int 4=(a2,i3))(e3:i3.int 1=(a3,i4))(e4:i4.int 4=(a4,i5))(e5:i5.int 2=(a5,i6))(e6:i6.int 4=(a6,i7))(e7:i7.int 8=(a7,i8))(e8:i8.int 8=(a8,i9))(e9:i9.int 8=(a9,i10))(e10:i10.int 2=(a10,i11))(e11:i11.int 4=(a11,i12))(e12:i12.int 4=(a12,i13))(hsm:bits .and .i64 a4 4294967295=sm)
 (hm:(a3 !=2)=true)(hl:¬a1<49)(hn:¬a12<0)(hJ1:j1=i13.fail 6)(hJ2:j2=j1)(hJ3:j3=j2)(h:St W0 w K (.inp p i::L)):
 Calls Jd 188 #[zAD p] w fun en w'=>en=Jb (if j3.err=0 then .agg #[I O a0,I O a1,I O a2,I O sm,I O a5,I O a6,I O a7,I O a8,I O a9,I O a10,I O a11,I O a12]else .agg #[I O 0,I O 0,I O 0,I O 0,I O 0,I O 0,I O 0,I O 0,I O 0,I O 0,I O 0,I O 0])∧St W0 w' K (.inp p j3::L):=by
 have H:=hQd (h.allocRaw #[I O 0,I O 0,I O 0,I O 0,I O 0,I O 0,I O 0,I O 0,I O 0,I O 0,I O 0,I O 0] 130).p1;have EF:=hQd (fun(W0' w':World) (K':Know) (L':List Res) (h':St W0' w' K' (.inp p i::L'))=>zA4 p i i1 i2 i3 i4 i5 i6 i7 i8 i9 i10 i11 i12 i13 a0 a1 a2 a3 a4 a5 a6 a7 a8 a9 a10 a11 a12 sm e0 e1 e2 e3 e4 e5 e6 e7 e8 e9 e10 e11 e12 hsm h');clear h e0 e1 e2 e3 e4 e5 e6 e7 e8 e9 e10 e11 e12 hsm;have EJ1:=hQd hJ1.symm;clear hJ1;subst hJ2;subst hJ3
 by_cases hz:j3.err=0
 ·exact zq1
 ·exact zq0
theorem zHj(p:Nat)(i i1 i2 i3 i4 i5 i6 i7 i8 i9 i10 i11 i12 i13 j1 j2 j3:InS)(a0 a1 a2 a3 a4 a5 a6 a7 a8 a9 a10 a11 a12 sm:Int)(e0:i.int 8=(a0,i1))(e1:i1.int 4=(a1,i2))(e2:i2.int 4=(a2,i3))(e3:i3.int 1=(a3,i4))(e4:i4.int 4=(a4,i5))(e5:i5.int 2=(a5,i6))(e6:i6.int 4=(a6,i7))(e7:i7.int 8=(a7,i8))(e8:i8.int 8=(a8,i9))(e9:i9.int 8=(a9,i10))(e10:i10.int 2=(a10,i11))(e11:i11.int 4=(a11,i12))(e12:i12.int 4=(a12,i13))(hsm:bits .and .i64 a4 4294967295=sm)
 (hm:(a3 !=2)=true)(hl:¬a1<49)(hn:a12<0)(hJ1:j1=i13.fail 6)(hJ2:j2=j1)(hJ3:j3=j2.fail 10)(h:St W0 w K (.inp p i::L)):
 Calls Jd 188 #[zAD p] w fun en w'=>en=Jb (if j3.err=0 then .agg #[I O a0,I O a1,I O a2,I O sm,I O a5,I O a6,I O a7,I O a8,I O a9,I O a10,I O a11,I O a12]else .agg #[I O 0,I O 0,I O 0,I O 0,I O 0,I O 0,I O 0,I O 0,I O 0,I O 0,I O 0,I O 0])∧St W0 w' K (.inp p j3::L):=by
 have H:=hQd (h.allocRaw #[I O 0,I O 0,I O 0,I O 0,I O 0,I O 0,I O 0,I O 0,I O 0,I O 0,I O 0,I O 0] 130).p1;have EF:=hQd (fun(W0' w':World) (K':Know) (L':List Res) (h':St W0' w' K' (.inp p i::L'))=>zA4 p i i1 i2 i3 i4 i5 i6 i7 i8 i9 i10 i11 i12 i13 a0 a1 a2 a3 a4 a5 a6 a7 a8 a9 a10 a11 a12 sm e0 e1 e2 e3 e4 e5 e6 e7 e8 e9 e10 e11 e12 hsm h');clear h e0 e1 e2 e3 e4 e5 e6 e7 e8 e9 e10 e11 e12 hsm;have EJ1:=hQd hJ1.symm;clear hJ1;subst hJ2;have EJ3:=hQd hJ3.symm;clear hJ3
 by_cases hz:j3.err=0
 ·exact zq1
 ·exact zq0
theorem zHi(p:Nat)(i i1 i2 i3 i4 i5 i6 i7 i8 i9 i10 i11 i12 i13 j1 j2 j3:InS)(a0 a1 a2 a3 a4 a5 a6 a7 a8 a9 a10 a11 a12 sm:Int)(e0:i.int 8=(a0,i1))(e1:i1.int 4=(a1,i2))(e2:i2.int 4=(a2,i3))(e3:i3.int 1=(a3,i4))(e4:i4.int 4=(a4,i5))(e5:i5.int 2=(a5,i6))(e6:i6.int 4=(a6,i7))(e7:i7.int 8=(a7,i8))(e8:i8.int 8=(a8,i9))(e9:i9.int 8=(a9,i10))(e10:i10.int 2=(a10,i11))(e11:i11.int 4=(a11,i12))(e12:i12.int 4=(a12,i13))(hsm:bits .and .i64 a4 4294967295=sm)
 (hm:(a3 !=2)=true)(hl:a1<49)(hn:¬a12<0)(hJ1:j1=i13.fail 6)(hJ2:j2=j1.fail 4)(hJ3:j3=j2)(h:St W0 w K (.inp p i::L)):
 Calls Jd 188 #[zAD p] w fun en w'=>en=Jb (if j3.err=0 then .agg #[I O a0,I O a1,I O a2,I O sm,I O a5,I O a6,I O a7,I O a8,I O a9,I O a10,I O a11,I O a12]else .agg #[I O 0,I O 0,I O 0,I O 0,I O 0,I O 0,I O 0,I O 0,I O 0,I O 0,I O 0,I O 0])∧St W0 w' K (.inp p j3::L):=by
 have H:=hQd (h.allocRaw #[I O 0,I O 0,I O 0,I O 0,I O 0,I O 0,I O 0,I O 0,I O 0,I O 0,I O 0,I O 0] 130).p1;have EF:=hQd (fun(W0' w':World) (K':Know) (L':List Res) (h':St W0' w' K' (.inp p i::L'))=>zA4 p i i1 i2 i3 i4 i5 i6 i7 i8 i9 i10 i11 i12 i13 a0 a1 a2 a3 a4 a5 a6 a7 a8 a9 a10 a11 a12 sm e0 e1 e2 e3 e4 e5 e6 e7 e8 e9 e10 e11 e12 hsm h');clear h e0 e1 e2 e3 e4 e5 e6 e7 e8 e9 e10 e11 e12 hsm;have EJ1:=hQd hJ1.symm;clear hJ1;have EJ2:=hQd hJ2.symm;clear hJ2;subst hJ3
 by_cases hz:j3.err=0
 ·exact zq1
 ·exact zq0
theorem zHh(p:Nat)(i i1 i2 i3 i4 i5 i6 i7 i8 i9 i10 i11 i12 i13 j1 j2 j3:InS)(a0 a1 a2 a3 a4 a5 a6 a7 a8 a9 a10 a11 a12 sm:Int)(e0:i.int 8=(a0,i1))(e1:i1.int 4=(a1,i2))(e2:i2.int 4=(a2,i3))(e3:i3.int 1=(a3,i4))(e4:i4.int 4=(a4,i5))(e5:i5.int 2=(a5,i6))(e6:i6.int 4=(a6,i7))(e7:i7.int 8=(a7,i8))(e8:i8.int 8=(a8,i9))(e9:i9.int 8=(a9,i10))(e10:i10.int 2=(a10,i11))(e11:i11.int 4=(a11,i12))(e12:i12.int 4=(a12,i13))(hsm:bits .and .i64 a4 4294967295=sm)
 (hm:(a3 !=2)=true)(hl:a1<49)(hn:a12<0)(hJ1:j1=i13.fail 6)(hJ2:j2=j1.fail 4)(hJ3:j3=j2.fail 10)(h:St W0 w K (.inp p i::L)):
 Calls Jd 188 #[zAD p] w fun en w'=>en=Jb (if j3.err=0 then .agg #[I O a0,I O a1,I O a2,I O sm,I O a5,I O a6,I O a7,I O a8,I O a9,I O a10,I O a11,I O a12]else .agg #[I O 0,I O 0,I O 0,I O 0,I O 0,I O 0,I O 0,I O 0,I O 0,I O 0,I O 0,I O 0])∧St W0 w' K (.inp p j3::L):=by
 have H:=hQd (h.allocRaw #[I O 0,I O 0,I O 0,I O 0,I O 0,I O 0,I O 0,I O 0,I O 0,I O 0,I O 0,I O 0] 130).p1;have EF:=hQd (fun(W0' w':World) (K':Know) (L':List Res) (h':St W0' w' K' (.inp p i::L'))=>zA4 p i i1 i2 i3 i4 i5 i6 i7 i8 i9 i10 i11 i12 i13 a0 a1 a2 a3 a4 a5 a6 a7 a8 a9 a10 a11 a12 sm e0 e1 e2 e3 e4 e5 e6 e7 e8 e9 e10 e11 e12 hsm h');clear h e0 e1 e2 e3 e4 e5 e6 e7 e8 e9 e10 e11 e12 hsm;have EJ1:=hQd hJ1.symm;clear hJ1;have EJ2:=hQd hJ2.symm;clear hJ2;have EJ3:=hQd hJ3.symm;clear hJ3
 by_cases hz:j3.err=0
 ·exact zq1
 ·exact zq0
theorem zHg(p:Nat)(i i1 i2 i3 i4 i5 i6 i7 i8 i9 i10 i11 i12 i13 j1 j2 j3:InS)(a0 a1 a2 a3 a4 a5 a6 a7 a8 a9 a10 a11 a12 sm:Int)(e0:i.int 8=(a0,i1))(e1:i1.int 4=(a1,i2))(e2:i2.int 4=(a2,i3))(e3:i3.int 1=(a3,i4))(e4:i4.int 4=(a4,i5))(e5:i5.int 2=(a5,i6))(e6:i6.int 4=(a6,i7))(e7:i7.int 8=(a7,i8))(e8:i8.int 8=(a8,i9))(e9:i9.int 8=(a9,i10))(e10:i10.int 2=(a10,i11))(e11:i11.int 4=(a11,i12))(e12:i12.int 4=(a12,i13))(hsm:bits .and .i64 a4 4294967295=sm)
 (hm:(a3 !=2)=false)(hl:¬a1<49)(hn:¬a12<0)(hJ1:j1=i13)(hJ2:j2=j1)(hJ3:j3=j2)(h:St W0 w K (.inp p i::L)):
 Calls Jd 188 #[zAD p] w fun en w'=>en=Jb (if j3.err=0 then .agg #[I O a0,I O a1,I O a2,I O sm,I O a5,I O a6,I O a7,I O a8,I O a9,I O a10,I O a11,I O a12]else .agg #[I O 0,I O 0,I O 0,I O 0,I O 0,I O 0,I O 0,I O 0,I O 0,I O 0,I O 0,I O 0])∧St W0 w' K (.inp p j3::L):=by
 have H:=hQd (h.allocRaw #[I O 0,I O 0,I O 0,I O 0,I O 0,I O 0,I O 0,I O 0,I O 0,I O 0,I O 0,I O 0] 130).p1;have EF:=hQd (fun(W0' w':World) (K':Know) (L':List Res) (h':St W0' w' K' (.inp p i::L'))=>zA4 p i i1 i2 i3 i4 i5 i6 i7 i8 i9 i10 i11 i12 i13 a0 a1 a2 a3 a4 a5 a6 a7 a8 a9 a10 a11 a12 sm e0 e1 e2 e3 e4 e5 e6 e7 e8 e9 e10 e11 e12 hsm h');clear h e0 e1 e2 e3 e4 e5 e6 e7 e8 e9 e10 e11 e12 hsm;subst hJ1;subst hJ2;subst hJ3
 by_cases hz:j3.err=0
 ·exact zq1
 ·exact zq0
theorem zHf(p:Nat)(i i1 i2 i3 i4 i5 i6 i7 i8 i9 i10 i11 i12 i13 j1 j2 j3:InS)(a0 a1 a2 a3 a4 a5 a6 a7 a8 a9 a10 a11 a12 sm:Int)(e0:i.int 8=(a0,i1))(e1:i1.int 4=(a1,i2))(e2:i2.int 4=(a2,i3))(e3:i3.int 1=(a3,i4))(e4:i4.int 4=(a4,i5))(e5:i5.int 2=(a5,i6))(e6:i6.int 4=(a6,i7))(e7:i7.int 8=(a7,i8))(e8:i8.int 8=(a8,i9))(e9:i9.int 8=(a9,i10))(e10:i10.int 2=(a10,i11))(e11:i11.int 4=(a11,i12))(e12:i12.int 4=(a12,i13))(hsm:bits .and .i64 a4 4294967295=sm)
 (hm:(a3 !=2)=false)(hl:¬a1<49)(hn:a12<0)(hJ1:j1=i13)(hJ2:j2=j1)(hJ3:j3=j2.fail 10)(h:St W0 w K (.inp p i::L)):
 Calls Jd 188 #[zAD p] w fun en w'=>en=Jb (if j3.err=0 then .agg #[I O a0,I O a1,I O a2,I O sm,I O a5,I O a6,I O a7,I O a8,I O a9,I O a10,I O a11,I O a12]else .agg #[I O 0,I O 0,I O 0,I O 0,I O 0,I O 0,I O 0,I O 0,I O 0,I O 0,I O 0,I O 0])∧St W0 w' K (.inp p j3::L):=by
 have H:=hQd (h.allocRaw #[I O 0,I O 0,I O 0,I O 0,I O 0,I O 0,I O 0,I O 0,I O 0,I O 0,I O 0,I O 0] 130).p1;have EF:=hQd (fun(W0' w':World) (K':Know) (L':List Res) (h':St W0' w' K' (.inp p i::L'))=>zA4 p i i1 i2 i3 i4 i5 i6 i7 i8 i9 i10 i11 i12 i13 a0 a1 a2 a3 a4 a5 a6 a7 a8 a9 a10 a11 a12 sm e0 e1 e2 e3 e4 e5 e6 e7 e8 e9 e10 e11 e12 hsm h');clear h e0 e1 e2 e3 e4 e5 e6 e7 e8 e9 e10 e11 e12 hsm;subst hJ1;subst hJ2;have EJ3:=hQd hJ3.symm;clear hJ3
 by_cases hz:j3.err=0
 ·exact zq1
 ·exact zq0
theorem zHe(p:Nat)(i i1 i2 i3 i4 i5 i6 i7 i8 i9 i10 i11 i12 i13 j1 j2 j3:InS)(a0 a1 a2 a3 a4 a5 a6 a7 a8 a9 a10 a11 a12 sm:Int)(e0:i.int 8=(a0,i1))(e1:i1.int 4=(a1,i2))(e2:i2.int 4=(a2,i3))(e3:i3.int 1=(a3,i4))(e4:i4.int 4=(a4,i5))(e5:i5.int 2=(a5,i6))(e6:i6.int 4=(a6,i7))(e7:i7.int 8=(a7,i8))(e8:i8.int 8=(a8,i9))(e9:i9.int 8=(a9,i10))(e10:i10.int 2=(a10,i11))(e11:i11.int 4=(a11,i12))(e12:i12.int 4=(a12,i13))(hsm:bits .and .i64 a4 4294967295=sm)
 (hm:(a3 !=2)=false)(hl:a1<49)(hn:¬a12<0)(hJ1:j1=i13)(hJ2:j2=j1.fail 4)(hJ3:j3=j2)(h:St W0 w K (.inp p i::L)):
 Calls Jd 188 #[zAD p] w fun en w'=>en=Jb (if j3.err=0 then .agg #[I O a0,I O a1,I O a2,I O sm,I O a5,I O a6,I O a7,I O a8,I O a9,I O a10,I O a11,I O a12]else .agg #[I O 0,I O 0,I O 0,I O 0,I O 0,I O 0,I O 0,I O 0,I O 0,I O 0,I O 0,I O 0])∧St W0 w' K (.inp p j3::L):=by
 have H:=hQd (h.allocRaw #[I O 0,I O 0,I O 0,I O 0,I O 0,I O 0,I O 0,I O 0,I O 0,I O 0,I O 0,I O 0] 130).p1;have EF:=hQd (fun(W0' w':World) (K':Know) (L':List Res) (h':St W0' w' K' (.inp p i::L'))=>zA4 p i i1 i2 i3 i4 i5 i6 i7 i8 i9 i10 i11 i12 i13 a0 a1 a2 a3 a4 a5 a6 a7 a8 a9 a10 a11 a12 sm e0 e1 e2 e3 e4 e5 e6 e7 e8 e9 e10 e11 e12 hsm h');clear h e0 e1 e2 e3 e4 e5 e6 e7 e8 e9 e10 e11 e12 hsm;subst hJ1;have EJ2:=hQd hJ2.symm;clear hJ2;subst hJ3
 by_cases hz:j3.err=0
 ·exact zq1
 ·exact zq0
theorem zHd(p:Nat)(i i1 i2 i3 i4 i5 i6 i7 i8 i9 i10 i11 i12 i13 j1 j2 j3:InS)(a0 a1 a2 a3 a4 a5 a6 a7 a8 a9 a10 a11 a12 sm:Int)(e0:i.int 8=(a0,i1))(e1:i1.int 4=(a1,i2))(e2:i2.int 4=(a2,i3))(e3:i3.int 1=(a3,i4))(e4:i4.int 4=(a4,i5))(e5:i5.int 2=(a5,i6))(e6:i6.int 4=(a6,i7))(e7:i7.int 8=(a7,i8))(e8:i8.int 8=(a8,i9))(e9:i9.int 8=(a9,i10))(e10:i10.int 2=(a10,i11))(e11:i11.int 4=(a11,i12))(e12:i12.int 4=(a12,i13))(hsm:bits .and .i64 a4 4294967295=sm)
 (hm:(a3 !=2)=false)(hl:a1<49)(hn:a12<0)(hJ1:j1=i13)(hJ2:j2=j1.fail 4)(hJ3:j3=j2.fail 10)(h:St W0 w K (.inp p i::L)):
 Calls Jd 188 #[zAD p] w fun en w'=>en=Jb (if j3.err=0 then .agg #[I O a0,I O a1,I O a2,I O sm,I O a5,I O a6,I O a7,I O a8,I O a9,I O a10,I O a11,I O a12]else .agg #[I O 0,I O 0,I O 0,I O 0,I O 0,I O 0,I O 0,I O 0,I O 0,I O 0,I O 0,I O 0])∧St W0 w' K (.inp p j3::L):=by
 have H:=hQd (h.allocRaw #[I O 0,I O 0,I O 0,I O 0,I O 0,I O 0,I O 0,I O 0,I O 0,I O 0,I O 0,I O 0] 130).p1;have EF:=hQd (fun(W0' w':World) (K':Know) (L':List Res) (h':St W0' w' K' (.inp p i::L'))=>zA4 p i i1 i2 i3 i4 i5 i6 i7 i8 i9 i10 i11 i12 i13 a0 a1 a2 a3 a4 a5 a6 a7 a8 a9 a10 a11 a12 sm e0 e1 e2 e3 e4 e5 e6 e7 e8 e9 e10 e11 e12 hsm h');clear h e0 e1 e2 e3 e4 e5 e6 e7 e8 e9 e10 e11 e12 hsm;subst hJ1;have EJ2:=hQd hJ2.symm;clear hJ2;have EJ3:=hQd hJ3.symm;clear hJ3
 by_cases hz:j3.err=0
 ·exact zq1
 ·exact zq0
def zHp:List Int→PreS×Int
 |[a0,a1,a2,a3,a4,a5,a6,a7,a8,a9,a10,a11,a12]=>(⟨a0,a1,a2,a4 % 4294967296,a5,a6,a7,a8,a9,a10,a11,a12⟩,a3)
 | _=>(PreS.zero,0)
def zKW (x:PreS) (m:Int) (i:InS):InS:=
 (fun j2:InS=>if x.count<0 then j2.fail 10 else j2) ((fun j1:InS=>if x.len<49 then j1.fail 4 else j1) (if m=2 then i else i.fail 6))
def InS.pre (i:InS):PreS×InS:=
 (fun j:InS=>(if j.err=0 then(zHp (InS.ints zA0 i).1).1 else PreS.zero,j)) (zKW (zHp (InS.ints zA0 i).1).1 (zHp (InS.ints zA0 i).1).2 (InS.ints zA0 i).2)
theorem zMp(p:Nat)(i:InS)(h:St W0 w K (.inp p i::L)):
 Calls Jd 188 #[zAD p] w fun en w'=>en=Jb (pv i.pre.1)∧St W0 w' K (.inp p i.pre.2::L):=by
 obtain⟨⟨a0,i1⟩,e0⟩:∃a,i.int 8=a:=⟨_,rfl⟩;obtain⟨⟨a1,i2⟩,e1⟩:∃a,i1.int 4=a:=⟨_,rfl⟩;obtain⟨⟨a2,i3⟩,e2⟩:∃a,i2.int 4=a:=⟨_,rfl⟩;obtain⟨⟨a3,i4⟩,e3⟩:∃a,i3.int 1=a:=⟨_,rfl⟩;obtain⟨⟨a4,i5⟩,e4⟩:∃a,i4.int 4=a:=⟨_,rfl⟩;obtain⟨⟨a5,i6⟩,e5⟩:∃a,i5.int 2=a:=⟨_,rfl⟩;obtain⟨⟨a6,i7⟩,e6⟩:∃a,i6.int 4=a:=⟨_,rfl⟩;obtain⟨⟨a7,i8⟩,e7⟩:∃a,i7.int 8=a:=⟨_,rfl⟩;obtain⟨⟨a8,i9⟩,e8⟩:∃a,i8.int 8=a:=⟨_,rfl⟩;obtain⟨⟨a9,i10⟩,e9⟩:∃a,i9.int 8=a:=⟨_,rfl⟩;obtain⟨⟨a10,i11⟩,e10⟩:∃a,i10.int 2=a:=⟨_,rfl⟩;obtain⟨⟨a11,i12⟩,e11⟩:∃a,i11.int 4=a:=⟨_,rfl⟩;obtain⟨⟨a12,i13⟩,e12⟩:∃a,i12.int 4=a:=⟨_,rfl⟩
 have hi:InS.ints zA0 i=([a0,a1,a2,a3,a4,a5,a6,a7,a8,a9,a10,a11,a12],i13):=by
  have c8:((8:Nat):Int)=8:=rfl;have c4:((4:Nat):Int)=4:=rfl;have c2:((2:Nat):Int)=2:=rfl;have c1:((1:Nat):Int)=1:=rfl;simp only[InS.ints,zA0,c8,c4,c2,c1,e0,e1,e2,e3,e4,e5,e6,e7,e8,e9,e10,e11,e12]
 have hv:∀b:Prop,[Decidable b]→pv (if b then(⟨a0,a1,a2,a4 % 4294967296,a5,a6,a7,a8,a9,a10,a11,a12⟩:PreS)else PreS.zero)=if b then(.agg #[I O a0,I O a1,I O a2,I O (a4 % 4294967296),I O a5,I O a6,I O a7,I O a8,I O a9,I O a10,I O a11,I O a12]:Value)else .agg #[I O 0,I O 0,I O 0,I O 0,I O 0,I O 0,I O 0,I O 0,I O 0,I O 0,I O 0,I O 0]:=by
  intro b _;split<;>rfl
 unfold InS.pre;rw[hi];have hp:zHp [a0,a1,a2,a3,a4,a5,a6,a7,a8,a9,a10,a11,a12]=(⟨a0,a1,a2,a4 % 4294967296,a5,a6,a7,a8,a9,a10,a11,a12⟩,a3):=rfl;simp only[hp,zKW];rw[hv]
 by_cases hm:a3=2<;>by_cases hl:a1<49<;>by_cases hn:a12<0
 ·rw[if_pos hm,if_pos hl,if_pos hn];exact zHd p i i1 i2 i3 i4 i5 i6 i7 i8 i9 i10 i11 i12 i13 _ _ _ a0 a1 a2 a3 a4 a5 a6 a7 a8 a9 a10 a11 a12 _ e0 e1 e2 e3 e4 e5 e6 e7 e8 e9 e10 e11 e12 (zDQ a4) (by simpa using hm) hl hn rfl rfl rfl h
 ·rw[if_pos hm,if_pos hl,if_neg hn];exact zHe p i i1 i2 i3 i4 i5 i6 i7 i8 i9 i10 i11 i12 i13 _ _ _ a0 a1 a2 a3 a4 a5 a6 a7 a8 a9 a10 a11 a12 _ e0 e1 e2 e3 e4 e5 e6 e7 e8 e9 e10 e11 e12 (zDQ a4) (by simpa using hm) hl hn rfl rfl rfl h
 ·rw[if_pos hm,if_neg hl,if_pos hn];exact zHf p i i1 i2 i3 i4 i5 i6 i7 i8 i9 i10 i11 i12 i13 _ _ _ a0 a1 a2 a3 a4 a5 a6 a7 a8 a9 a10 a11 a12 _ e0 e1 e2 e3 e4 e5 e6 e7 e8 e9 e10 e11 e12 (zDQ a4) (by simpa using hm) hl hn rfl rfl rfl h
 ·rw[if_pos hm,if_neg hl,if_neg hn];exact zHg p i i1 i2 i3 i4 i5 i6 i7 i8 i9 i10 i11 i12 i13 _ _ _ a0 a1 a2 a3 a4 a5 a6 a7 a8 a9 a10 a11 a12 _ e0 e1 e2 e3 e4 e5 e6 e7 e8 e9 e10 e11 e12 (zDQ a4) (by simpa using hm) hl hn rfl rfl rfl h
 ·rw[if_neg hm,if_pos hl,if_pos hn];exact zHh p i i1 i2 i3 i4 i5 i6 i7 i8 i9 i10 i11 i12 i13 _ _ _ a0 a1 a2 a3 a4 a5 a6 a7 a8 a9 a10 a11 a12 _ e0 e1 e2 e3 e4 e5 e6 e7 e8 e9 e10 e11 e12 (zDQ a4) (by simpa using hm) hl hn rfl rfl rfl h
 ·rw[if_neg hm,if_pos hl,if_neg hn];exact zHi p i i1 i2 i3 i4 i5 i6 i7 i8 i9 i10 i11 i12 i13 _ _ _ a0 a1 a2 a3 a4 a5 a6 a7 a8 a9 a10 a11 a12 _ e0 e1 e2 e3 e4 e5 e6 e7 e8 e9 e10 e11 e12 (zDQ a4) (by simpa using hm) hl hn rfl rfl rfl h
 ·rw[if_neg hm,if_neg hl,if_pos hn];exact zHj p i i1 i2 i3 i4 i5 i6 i7 i8 i9 i10 i11 i12 i13 _ _ _ a0 a1 a2 a3 a4 a5 a6 a7 a8 a9 a10 a11 a12 _ e0 e1 e2 e3 e4 e5 e6 e7 e8 e9 e10 e11 e12 (zDQ a4) (by simpa using hm) hl hn rfl rfl rfl h
 ·rw[if_neg hm,if_neg hl,if_neg hn];exact zHk p i i1 i2 i3 i4 i5 i6 i7 i8 i9 i10 i11 i12 i13 _ _ _ a0 a1 a2 a3 a4 a5 a6 a7 a8 a9 a10 a11 a12 _ e0 e1 e2 e3 e4 e5 e6 e7 e8 e9 e10 e11 e12 (zDQ a4) (by simpa using hm) hl hn rfl rfl rfl h
variable {W0 w:World}{K:Know}{L:List Res}
theorem zBk(n lo hi:Int)(r:Bool)(hr:decide (lo≤n∧n≤hi)=r)(h:St W0 w K L):
 Calls Jd 98 #[I O n,I O lo,I O hi] w fun en w'=>en=Jb (U r)∧St W0 w' K L:=by
 have H:=hQd h;clear h
 by_cases h1:lo≤n
 ·have d1:decide (lo≤n)=true:=decide_eq_true h1
  by_cases h2:n≤hi
  ·have d2:decide (n≤hi)=true:=decide_eq_true h2;obtain rfl:true=r:=(decide_eq_true ⟨h1,h2⟩).symm.trans hr;clear h1 h2;go_enter Tryz.func98,Tryz.ntmps98;go_wp2;go_ret;exact⟨rfl,H.out⟩
  ·have d2:decide (n≤hi)=false:=decide_eq_false h2;obtain rfl:false=r:=(decide_eq_false (fun x=>h2 x.2)).symm.trans hr;clear h1 h2;go_enter Tryz.func98,Tryz.ntmps98;go_wp2;go_ret;exact⟨rfl,H.out⟩
 ·have d1:decide (lo≤n)=false:=decide_eq_false h1;obtain rfl:false=r:=(decide_eq_false (fun x=>h1 x.1)).symm.trans hr;clear h1;go_enter Tryz.func98,Tryz.ntmps98;go_wp2;go_ret;exact⟨rfl,H.out⟩
theorem zq5{p:Prop}(h:p:=by
 go_wp2_with (first
 |(go_at_call 98;(with_reducible refine(zBk leader (-1) 2147483647 _ HW1.out H.out).zM ?_);clear H;intro wn H;obtain⟨x0,x1,x2,x3,x4,x5,x6,x7,x8,x9,x10,x11,y0,y1,y2,y3,y4,y5,y6,y7,y8,y9,y10,y11⟩:=zAd (b:=hb) (H.out))
 |(go_at_call 98;(with_reducible refine(zBk last 0 2147483647 _ HW2.out H.out).zM ?_);clear H;intro wn H;obtain⟨x0,x1,x2,x3,x4,x5,x6,x7,x8,x9,x10,x11,y0,y1,y2,y3,y4,y5,y6,y7,y8,y9,y10,y11⟩:=zAd (b:=hb) (H.out)))
 go_ret;exact⟨rfl,H.out.drop⟩):p:=h
theorem zB3(base leader:Int)(app txn ctl:Bool)(last first maxt prod epoch sq:Int)(rv:Value)(r:Bool)(hr:decide (0≤base∧(-1≤leader∧leader≤2147483647)∧(0≤last∧last≤2147483647)∧base≤9223372036854775807 - last∧0≤first∧0≤maxt)=r)(h:St W0 w K L):
 Calls Jd 68 #[.agg #[I O base,I O leader,U app,U txn,U ctl,I O last,I O first,I O maxt,I O prod,I O epoch,I O sq,rv]] w fun en w'=>en=Jb (U r)∧St W0 w' K L:=by
 have h1:=h.allocRaw #[I O base,I O leader,U app,U txn,U ctl,I O last,I O first,I O maxt,I O prod,I O epoch,I O sq,rv] 30;obtain⟨hb,hhb⟩:=eX w.heap.size;rw[hhb]at h1;obtain⟨x0,x1,x2,x3,x4,x5,x6,x7,x8,x9,x10,x11,y0,y1,y2,y3,y4,y5,y6,y7,y8,y9,y10,y11⟩:=zAd (b:=hb) (h1);have H:=hQd h1;clear h h1
 by_cases c0:0≤base
 case neg=>
  obtain rfl:false=r:=by rw[←hr];exact(decide_eq_false (fun x=>c0 x.1)).symm
  have d0:decide (0≤base)=false:=decide_eq_false c0;clear c0;go_enter Tryz.func68,Tryz.ntmps68
  exact zq5
 by_cases c1: -1≤leader∧leader≤2147483647
 case neg=>
  obtain rfl:false=r:=by rw[←hr];exact(decide_eq_false (fun x=>c1 x.2.1)).symm
  have d0:decide (0≤base)=true:=decide_eq_true c0;have HW1:=hQd (show decide (-1≤leader∧leader≤2147483647)=false from decide_eq_false c1);clear c0 c1;go_enter Tryz.func68,Tryz.ntmps68
  exact zq5
 by_cases c2:0≤last∧last≤2147483647
 case neg=>
  obtain rfl:false=r:=by rw[←hr];exact(decide_eq_false (fun x=>c2 x.2.2.1)).symm
  have d0:decide (0≤base)=true:=decide_eq_true c0;have HW1:=hQd (show decide (-1≤leader∧leader≤2147483647)=true from decide_eq_true c1);have HW2:=hQd (show decide (0≤last∧last≤2147483647)=false from decide_eq_false c2);clear c0 c1 c2;go_enter Tryz.func68,Tryz.ntmps68
  exact zq5
 by_cases c3:base≤9223372036854775807 - last
 case neg=>
  obtain rfl:false=r:=by rw[←hr];exact(decide_eq_false (fun x=>c3 x.2.2.2.1)).symm
  have d0:decide (0≤base)=true:=decide_eq_true c0;have HW1:=hQd (show decide (-1≤leader∧leader≤2147483647)=true from decide_eq_true c1);have HW2:=hQd (show decide (0≤last∧last≤2147483647)=true from decide_eq_true c2);obtain⟨ml,hml⟩:=eX (9223372036854775807 - last);have wl:wrap64 (9223372036854775807 - last)=ml:=by rw[←hml];unfold wrap64;omega
  have wl2:IntKind.i64.wrap (9223372036854775807 - last)=ml:=by rw[←hml];exact IntWalk.i64_in _ oM
  have d3:decide (base≤ml)=false:=by rw[←hml];exact decide_eq_false c3
  clear c0 c1 c2 c3 hml;go_enter Tryz.func68,Tryz.ntmps68
  exact zq5
 by_cases c4:0≤first
 case neg=>
  obtain rfl:false=r:=by rw[←hr];exact(decide_eq_false (fun x=>c4 x.2.2.2.2.1)).symm
  have d0:decide (0≤base)=true:=decide_eq_true c0;have HW1:=hQd (show decide (-1≤leader∧leader≤2147483647)=true from decide_eq_true c1);have HW2:=hQd (show decide (0≤last∧last≤2147483647)=true from decide_eq_true c2);obtain⟨ml,hml⟩:=eX (9223372036854775807 - last);have wl:wrap64 (9223372036854775807 - last)=ml:=by rw[←hml];unfold wrap64;omega
  have wl2:IntKind.i64.wrap (9223372036854775807 - last)=ml:=by rw[←hml];exact IntWalk.i64_in _ oM
  have d3:decide (base≤ml)=true:=by rw[←hml];exact decide_eq_true c3
  have d4:decide (0≤first)=false:=decide_eq_false c4;clear c0 c1 c2 c3 c4 hml;go_enter Tryz.func68,Tryz.ntmps68
  exact zq5
 by_cases c5:0≤maxt
 case neg=>
  obtain rfl:false=r:=by rw[←hr];exact(decide_eq_false (fun x=>c5 x.2.2.2.2.2)).symm
  have d0:decide (0≤base)=true:=decide_eq_true c0;have HW1:=hQd (show decide (-1≤leader∧leader≤2147483647)=true from decide_eq_true c1);have HW2:=hQd (show decide (0≤last∧last≤2147483647)=true from decide_eq_true c2);obtain⟨ml,hml⟩:=eX (9223372036854775807 - last);have wl:wrap64 (9223372036854775807 - last)=ml:=by rw[←hml];unfold wrap64;omega
  have wl2:IntKind.i64.wrap (9223372036854775807 - last)=ml:=by rw[←hml];exact IntWalk.i64_in _ oM
  have d3:decide (base≤ml)=true:=by rw[←hml];exact decide_eq_true c3
  have d4:decide (0≤first)=true:=decide_eq_true c4;have d5:decide (0≤maxt)=false:=decide_eq_false c5;clear c0 c1 c2 c3 c4 c5 hml;go_enter Tryz.func68,Tryz.ntmps68
  exact zq5
 obtain rfl:true=r:=by rw[←hr];exact(decide_eq_true ⟨c0,c1,c2,c3,c4,c5⟩).symm
 have d0:decide (0≤base)=true:=decide_eq_true c0;have HW1:=hQd (show decide (-1≤leader∧leader≤2147483647)=true from decide_eq_true c1);have HW2:=hQd (show decide (0≤last∧last≤2147483647)=true from decide_eq_true c2);obtain⟨ml,hml⟩:=eX (9223372036854775807 - last);have wl:wrap64 (9223372036854775807 - last)=ml:=by rw[←hml];unfold wrap64;omega
 have wl2:IntKind.i64.wrap (9223372036854775807 - last)=ml:=by rw[←hml];exact IntWalk.i64_in _ oM
 have d3:decide (base≤ml)=true:=by rw[←hml];exact decide_eq_true c3
 have d4:decide (0≤first)=true:=decide_eq_true c4;have d5:decide (0≤maxt)=true:=decide_eq_true c5;clear c0 c1 c2 c3 c4 c5 hml;go_enter Tryz.func68,Tryz.ntmps68
 go_wp2_with (first
 |(go_at_call 98;(with_reducible refine(zBk leader (-1) 2147483647 _ HW1.out H.out).zM ?_);clear H;intro wn H;obtain⟨x0,x1,x2,x3,x4,x5,x6,x7,x8,x9,x10,x11,y0,y1,y2,y3,y4,y5,y6,y7,y8,y9,y10,y11⟩:=zAd (b:=hb) (H.out))
 |(go_at_call 98;(with_reducible refine(zBk last 0 2147483647 _ HW2.out H.out).zM ?_);clear H;intro wn H;obtain⟨x0,x1,x2,x3,x4,x5,x6,x7,x8,x9,x10,x11,y0,y1,y2,y3,y4,y5,y6,y7,y8,y9,y10,y11⟩:=zAd (b:=hb) (H.out)))
 go_ret;exact⟨rfl,H.out.drop⟩
theorem zC7(base leader:Int)(app txn ctl:Bool)(last first maxt prod epoch sq:Int)(rv:Value)(r:Bool)(hr:(if prod= -1 then decide (epoch= -1∧sq= -1∧txn=false)else if prod<0∨¬(0≤epoch∧epoch≤32767)then false else if ctl then decide (sq= -1)else decide (0≤sq∧sq≤2147483647))=r)(h:St W0 w K L):
 Calls Jd 69 #[.agg #[I O base,I O leader,U app,U txn,U ctl,I O last,I O first,I O maxt,I O prod,I O epoch,I O sq,rv]] w fun en w'=>en=Jb (U r)∧St W0 w' K L:=by
 have h1:=h.allocRaw #[I O base,I O leader,U app,U txn,U ctl,I O last,I O first,I O maxt,I O prod,I O epoch,I O sq,rv] 30;obtain⟨hb,hhb⟩:=eX w.heap.size;rw[hhb]at h1;obtain⟨x0,x1,x2,x3,x4,x5,x6,x7,x8,x9,x10,x11,y0,y1,y2,y3,y4,y5,y6,y7,y8,y9,y10,y11⟩:=zAd (b:=hb) (h1);have H:=hQd h1;clear h h1
 by_cases c0:prod= -1
 ·rw[if_pos c0]at hr;have b0:(prod== -1)=true:=by rw[c0];rfl
  subst c0
  by_cases c1:epoch= -1
  ·subst c1
   by_cases c2:sq= -1
   ·subst c2;obtain rfl:(!txn)=r:=by rw[←hr];cases txn<;>rfl
    clear hr;go_enter Tryz.func69,Tryz.ntmps69;go_wp2;go_ret;exact⟨rfl,H.out.drop⟩
   ·obtain rfl:false=r:=by rw[←hr];exact(decide_eq_false (fun x=>c2 x.2.1)).symm
    have b2:(sq== -1)=false:=by rw[beq_eq_false_iff_ne];exact c2
    clear hr c2;go_enter Tryz.func69,Tryz.ntmps69;go_wp2;go_ret;exact⟨rfl,H.out.drop⟩
  ·obtain rfl:false=r:=by rw[←hr];exact(decide_eq_false (fun x=>c1 x.1)).symm
   have b1:(epoch== -1)=false:=by rw[beq_eq_false_iff_ne];exact c1
   clear hr c1;go_enter Tryz.func69,Tryz.ntmps69;go_wp2;go_ret;exact⟨rfl,H.out.drop⟩
 ·rw[if_neg c0]at hr;have b0:(prod== -1)=false:=by rw[beq_eq_false_iff_ne];exact c0
  by_cases c1:prod<0
  ·rw[if_pos (.inl c1)]at hr;subst hr;have d1:decide (prod<0)=true:=decide_eq_true c1;clear c0 c1;go_enter Tryz.func69,Tryz.ntmps69;go_wp2;go_ret;exact⟨rfl,H.out.drop⟩
  ·have d1:decide (prod<0)=false:=decide_eq_false c1
   by_cases c2:0≤epoch∧epoch≤32767
   ·rw[if_neg (by rintro(x|x);exact c1 x;exact x c2)]at hr;have HE:=hQd (show decide (0≤epoch∧epoch≤32767)=true from decide_eq_true c2);clear c0 c1 c2
    cases ctl with
    |true=>
     obtain rfl:(sq== -1)=r:=by rw[←hr];rfl
     clear hr;go_enter Tryz.func69,Tryz.ntmps69;go_wp2_with (first|(go_at_call 98;(with_reducible refine(zBk epoch 0 32767 _ HE.out H.out).zM ?_);clear H;intro wn H;obtain⟨x0,x1,x2,x3,x4,x5,x6,x7,x8,x9,x10,x11,y0,y1,y2,y3,y4,y5,y6,y7,y8,y9,y10,y11⟩:=zAd (b:=hb) (H.out))|fail);go_ret;exact⟨rfl,H.out.drop⟩
    |false=>
     have HS:=hQd (show decide (0≤sq∧sq≤2147483647)=r from hr);clear hr;go_enter Tryz.func69,Tryz.ntmps69;go_wp2_with (first|(go_at_call 98;(with_reducible refine(zBk epoch 0 32767 _ HE.out H.out).zM ?_);clear H;intro wn H;obtain⟨x0,x1,x2,x3,x4,x5,x6,x7,x8,x9,x10,x11,y0,y1,y2,y3,y4,y5,y6,y7,y8,y9,y10,y11⟩:=zAd (b:=hb) (H.out))|(go_at_call 98;(with_reducible refine(zBk sq 0 2147483647 _ HS.out H.out).zM ?_);clear H;intro wn H;obtain⟨x0,x1,x2,x3,x4,x5,x6,x7,x8,x9,x10,x11,y0,y1,y2,y3,y4,y5,y6,y7,y8,y9,y10,y11⟩:=zAd (b:=hb) (H.out)));go_ret;exact⟨rfl,H.out.drop⟩
   ·rw[if_pos (.inr c2)]at hr;subst hr;have HE:=hQd (show decide (0≤epoch∧epoch≤32767)=false from decide_eq_false c2);clear c0 c1 c2;go_enter Tryz.func69,Tryz.ntmps69;go_wp2_with (first|(go_at_call 98;(with_reducible refine(zBk epoch 0 32767 _ HE.out H.out).zM ?_);clear H;intro wn H;obtain⟨x0,x1,x2,x3,x4,x5,x6,x7,x8,x9,x10,x11,y0,y1,y2,y3,y4,y5,y6,y7,y8,y9,y10,y11⟩:=zAd (b:=hb) (H.out))|fail);go_ret;exact⟨rfl,H.out.drop⟩
theorem zFb(base leader:Int)(app txn ctl:Bool)(last first maxt prod epoch sq:Int)(l:List (RecS×Value))(q:Option Addr)(cap:Nat)(e:Int)(he:BatS.rows ⟨base,leader,app,txn,ctl,last,first,maxt,prod,epoch,sq,l.map (·.1)⟩=e)(hf:0≤first∧first≤9223372036854775807)(hfit:FitB l)(hll:l.length≤1000000){W0 w:World}{K:Know}{L:List Res}(hk:K.has (Know.recs (Ja q l.length cap) l))(h:St W0 w K L):
 Calls Jd 72 #[.agg #[I O base,I O leader,U app,U txn,U ctl,I O last,I O first,I O maxt,I O prod,I O epoch,I O sq,Ja q l.length cap]] w fun en w'=>en=Jb (I O e)∧St W0 w' K L:=by
 obtain⟨tot,htot⟩:=eX (zDE first last (l.map (·.1)) (-1) first);have HE:=hQd (show zOj app maxt tot=e by rw[←he,←htot];rfl);have HT:=hQd htot;have HK:=hQd hk;have HFT:=hQd hfit;have HF:=hQd hf;obtain⟨nf,hnf⟩:=eX (-first);obtain⟨mf,hmf⟩:=eX (9223372036854775807 - first);have HNF:=hQd hnf;have HMF:=hQd hmf;have n1:wrap64 (-first)=nf:=by rw[←hnf];unfold wrap64;omega
 have n2:IntKind.i64.wrap (-first)=nf:=by rw[←hnf];exact IntWalk.i64_in _ oM
 have m1:wrap64 (9223372036854775807 - first)=mf:=by rw[←hmf];unfold wrap64;omega
 have m2:IntKind.i64.wrap (9223372036854775807 - first)=mf:=by rw[←hmf];exact IntWalk.i64_in _ oM
 have h1:=h.allocRaw #[I O base,I O leader,U app,U txn,U ctl,I O last,I O first,I O maxt,I O prod,I O epoch,I O sq,Ja q l.length cap] 30;obtain⟨hb,hhb⟩:=eX w.heap.size;rw[hhb]at h1;obtain⟨x0,x1,x2,x3,x4,x5,x6,x7,x8,x9,x10,x11,y0,y1,y2,y3,y4,y5,y6,y7,y8,y9,y10,y11⟩:=zAd (b:=hb) (h1);have H:=hQd h1;clear h h1 hk hfit he htot hnf hmf hf;go_enter Tryz.func72,Tryz.ntmps72;go_upto_region 1 with (fail);have hs:=H.out.drew;clear H;have H:=hQd hs;clear hs
 go_region
 clear x0 y0 x1 y1 x2 y2 x3 y3 x4 y4 x5 y5 x6 y6 x7 y7 x8 y8 x9 y9 x10 y10 x11 y11;obtain⟨x0,x1,x2,x3,x4,x5,x6,x7,x8,x9,x10,x11,y0,y1,y2,y3,y4,y5,y6,y7,y8,y9,y10,y11⟩:=zAd (b:=hb) (H.out);go_wp2;clear x0 y0 x1 y1 x2 y2 x3 y3 x4 y4 x5 y5 x6 y6 x7 y7 x8 y8 x9 y9 x10 y10 x11 y11;go_loopw [3,4,6,12] (fun av gv _ iv wr=>∃(k:Nat) (ah g:Int),k≤l.length∧av=I O ah∧gv=I O g∧iv=I O k∧Hid (zDE first last ((l.map (·.1)).drop k) ah g=tot)∧St W0 wr K (.raw hb #[I O base,I O leader,U app,U txn,U ctl,I O last,I O first,I O maxt,I O prod,I O epoch,I O sq,Ja q l.length cap] 30::L)) (fun _ _ _ iv _=>l.length - (intOf iv).toNat)
 case atStart=>exact⟨0,-1,first,Ji _,rfl,rfl,rfl,HT,H.out⟩
 case round=>
  obtain⟨k,ah,g,hkl,rfl,rfl,rfl,HC,hst⟩:=hrel;clear H;have H:=hQd hst;clear hst
  by_cases hlt:k<l.length
  ·have hd:=zCg l k hlt _ rfl;obtain⟨b,off,hqq⟩:=zBH HK.out H.out oM;subst hqq;obtain⟨⟨x,vx⟩,hx⟩:∃x,l[k]=x:=⟨_,rfl⟩;have cc:=zAQ HK.out H.out k hlt (x,vx) hx;have hmem:(x,vx)∈l:=hx ▸ Jp hlt;have xf:x.R∧HFit x.hdrs∧x.sum≤1000000:=HFT.out (x,vx) hmem;have xk:K.has (Know.flat RHdr vx 3 x.hdrs):=zAX HK.out hmem;obtain⟨qx,capx,hvx⟩:=zAw xk H.out;subst hvx;simp only at cc;obtain⟨c0,c1,c2,c3,c4,c5,c6⟩:=cc;rw[←Jm]at c1 c2 c3 c4 c5 c6;have hx1:l[k].1=x:=by rw[hx]
   have XF:=hQd xf;have XK:=hQd xk;have HX:=hQd hx1;clear xf xk hx1 hx hmem;obtain⟨wE,hwE⟩:=eX wr.heap.size;have hki:(k:Int)<(l.length:Int):=by omega
   have h:=H.out.allocRaw #[I O x.time,I O x.off,U x.key.null,Z (bb x.key.data),U x.val.null,Z (bb x.val.data),Ja qx x.hdrs.length capx] 54;rw[hwE]at h;clear H;have H:=hQd h;clear h;rw[HX.out]at hd;have hc:=HC.out;rw[hd,zCZ]at hc;obtain⟨ec0,ec1,ec2,ec3,ec4,ec5,ec6,ef0,ef1,ef2,ef3,ef4,ef5,ef6⟩:=raw7 (b:=wE) (H.out);obtain⟨x0,x1,x2,x3,x4,x5,x6,x7,x8,x9,x10,x11,y0,y1,y2,y3,y4,y5,y6,y7,y8,y9,y10,y11⟩:=zAd (b:=hb) (H.out.p1);clear hd
   by_cases c1:x.off≤ah
   ·have d1:decide (x.off≤ah)=true:=decide_eq_true c1;rw[if_pos (.inl c1)]at hc;obtain rfl:13=e:=by have:=HE.out;rw[←hc]at this;exact this
    clear c1 hc;go_wp2;go_ret;exact⟨rfl,H.out.drop.drop⟩
   ·have d1:decide (x.off≤ah)=false:=decide_eq_false c1
    by_cases c2:last<x.off
    ·have d2:decide (last<x.off)=true:=decide_eq_true c2;rw[if_pos (.inr c2)]at hc;obtain rfl:13=e:=by have:=HE.out;rw[←hc]at this;exact this
     clear c1 c2 hc;go_wp2;go_ret;exact⟨rfl,H.out.drop.drop⟩
    ·have d2:decide (last<x.off)=false:=decide_eq_false c2;rw[if_neg (by rintro(h|h);exact c1 h;exact c2 h)]at hc;clear c1 c2
     by_cases c3:x.time< -first∨9223372036854775807 - first<x.time
     ·rw[if_pos c3]at hc;obtain rfl:11=e:=by have:=HE.out;rw[←hc]at this;exact this
      have HW:=hQd (show decide (nf≤x.time∧x.time≤mf)=false by
       rw[←HNF.out,←HMF.out]
       exact decide_eq_false oM)
      clear c3 hc;go_wp2_with (go_at_call 98;(with_reducible refine(zBk x.time nf mf false HW.out H.out).zM ?_);clear H;intro wn H;obtain⟨ec0,ec1,ec2,ec3,ec4,ec5,ec6,ef0,ef1,ef2,ef3,ef4,ef5,ef6⟩:=raw7 (b:=wE) (H.out);obtain⟨x0,x1,x2,x3,x4,x5,x6,x7,x8,x9,x10,x11,y0,y1,y2,y3,y4,y5,y6,y7,y8,y9,y10,y11⟩:=zAd (b:=hb) (H.out.p1));go_ret;exact⟨rfl,H.out.drop.drop⟩
     ·rw[if_neg c3]at hc
      have HW:=hQd (show decide (nf≤x.time∧x.time≤mf)=true by
       rw[←HNF.out,←HMF.out]
       exact decide_eq_true oM)
      obtain⟨ft,hft⟩:=eX (first+x.time);have f1:wrap64 (first+x.time)=ft:=by have:=HF.out;rw[←hft];unfold wrap64;omega
      have f2:IntKind.i64.wrap (first+x.time)=ft:=by have:=HF.out;rw[←hft];exact IntWalk.i64_in _ oM
      rw[hft]at hc;have HC2:=hQd hc;have EM:=hQd (show max g ft=(if g<ft then ft else g) by rw[Int.max_def];split<;>split<;>omega);clear c3 hc hft;go_upto_region 9 with (go_at_call 98;(with_reducible refine(zBk x.time nf mf true HW.out H.out).zM ?_);clear H;intro wn H;obtain⟨ec0,ec1,ec2,ec3,ec4,ec5,ec6,ef0,ef1,ef2,ef3,ef4,ef5,ef6⟩:=raw7 (b:=wE) (H.out);obtain⟨x0,x1,x2,x3,x4,x5,x6,x7,x8,x9,x10,x11,y0,y1,y2,y3,y4,y5,y6,y7,y8,y9,y10,y11⟩:=zAd (b:=hb) (H.out.p1));have hs:=H.out.drew;clear H;have H:=hQd hs;clear hs x0 y0 x1 y1 x2 y2 x3 y3 x4 y4 x5 y5 x6 y6 x7 y7 x8 y8 x9 y9 x10 y10 x11 y11 ec0 ef0 ec1 ef1 ec2 ef2 ec3 ef3 ec4 ef4 ec5 ef5 ec6 ef6;obtain⟨ec0,ec1,ec2,ec3,ec4,ec5,ec6,ef0,ef1,ef2,ef3,ef4,ef5,ef6⟩:=raw7 (b:=wE) (H.out);obtain⟨x0,x1,x2,x3,x4,x5,x6,x7,x8,x9,x10,x11,y0,y1,y2,y3,y4,y5,y6,y7,y8,y9,y10,y11⟩:=zAd (b:=hb) (H.out.p1);refine wp_region_held_drew (S:=fun w'=>w'.cell? ⟨wE,0,none⟩=some (I O x.time)∧w'.cell? ⟨wE,1,none⟩=some (I O x.off)∧w'.cell? ⟨hb,6,none⟩=some (I O first)) kR ⟨ec0,ec1,x6⟩ (fun hHeld=> ?_);clear x0 y0 x1 y1 x2 y2 x3 y3 x4 y4 x5 y5 x6 y6 x7 y7 x8 y8 x9 y9 x10 y10 x11 y11 ec0 ef0 ec1 ef1 ec2 ef2 ec3 ef3 ec4 ef4 ec5 ef5 ec6 ef6 c0 c1 c2 c3 c4 c5 c6;refine tR 0 ?_;refine tR 1 ?_;refine tR 2 ?_;refine tR 3 ?_;refine tR 4 ?_;refine tR 5 ?_;refine tR 6 ?_;refine tR 7 ?_;refine tR 8 ?_;refine tR 9 ?_;refine tR 10 ?_;refine wpAnyH_done kR ?_ _;clear hHeld;go_wp2_with fail;go_roundw
      case rel=>exact⟨k+1,x.off,_,hlt,rfl,rfl,by go_num,hQd (by rw[←EM.out];exact HC2.out),H.out.drop⟩
      case measure=>first|(simp[intOf];done)|(simp[intOf];omega)
  ·obtain rfl:l.length=k:=by omega
   have hc:=HC.out;rw[List.drop_of_length_le sM]at hc;have hc:Except.ok g=tot:=hc;have hee:=HE.out;rw[←hc]at hee;simp only[zOj]at hee;obtain⟨x0,x1,x2,x3,x4,x5,x6,x7,x8,x9,x10,x11,y0,y1,y2,y3,y4,y5,y6,y7,y8,y9,y10,y11⟩:=zAd (b:=hb) (H.out)
   cases app with
   |true=>
    obtain rfl:0=e:=by rw[←hee];rfl
    clear hc hee;go_wp2;go_ret;exact⟨rfl,H.out.drop⟩
   |false=>
    by_cases c1:maxt=g
    ·subst c1;obtain rfl:0=e:=by rw[←hee];simp
     clear hc hee;go_wp2;go_ret;exact⟨rfl,H.out.drop⟩
    ·obtain rfl:11=e:=by rw[←hee];simp[c1]
     have b1:(maxt==g)=false:=by rw[beq_eq_false_iff_ne];exact c1
     clear hc hee c1;go_wp2;go_ret;exact⟨rfl,H.out.drop⟩
theorem zq6{p:Prop}(h:p:=by
  have hd:=zCg l k hlt _ rfl;obtain⟨b,off,hqq⟩:=zBH HK.out H.out oM;subst hqq;obtain⟨⟨x,vx⟩,hx⟩:∃x,l[k]=x:=⟨_,rfl⟩;have cc:=zAQ HK.out H.out k hlt (x,vx) hx;have hmem:(x,vx)∈l:=hx ▸ Jp hlt;have xf:x.R∧HFit x.hdrs∧x.sum≤1000000:=HFT.out (x,vx) hmem;have xk:K.has (Know.flat RHdr vx 3 x.hdrs):=zAX HK.out hmem;obtain⟨qx,capx,hvx⟩:=zAw xk H.out;subst hvx;simp only at cc;obtain⟨c0,c1,c2,c3,c4,c5,c6⟩:=cc;rw[←Jm]at c1 c2 c3 c4 c5 c6;have hx1:l[k].1=x:=by rw[hx]
  have XF:=hQd xf;have XK:=hQd xk;have HX:=hQd hx1;clear xf xk hx1 hx hmem;obtain⟨wE,hwE⟩:=eX wr.heap.size;have hki:(k:Int)<(l.length:Int):=by omega
  have h:=H.out.allocRaw #[I O x.time,I O x.off,U x.key.null,Z (bb x.key.data),U x.val.null,Z (bb x.val.data),Ja qx x.hdrs.length capx] 54;rw[hwE]at h;clear H;have H:=hQd h;clear h;rw[HX.out]at hd;have hc:=HC.out;rw[hd]at hc;have hc:(if zA8 x=0 then zCl ((l.map (·.1)).drop (k+1))else zA8 x)=tot:=hc;have XL:=hQd (zNd XF.out.2.2);obtain⟨ec0,ec1,ec2,ec3,ec4,ec5,ec6,ef0,ef1,ef2,ef3,ef4,ef5,ef6⟩:=raw7 (b:=wE) (H.out);obtain⟨x0,x1,x2,x3,x4,x5,x6,x7,x8,x9,x10,x11,y0,y1,y2,y3,y4,y5,y6,y7,y8,y9,y10,y11⟩:=zAd (b:=hb) (H.out.p1);clear hd
  by_cases c1:zA8 x=0
  · rw[if_pos c1]at hc;have HC2:=hQd hc;have ER:=hQd c1;clear hc c1;go_wp2_with (go_at_call 70;(with_reducible refine(zEM x (Ja qx x.hdrs.length capx) _ ER.out XL.out XK.out H.out).zM ?_);clear H;intro wn H;obtain⟨ec0,ec1,ec2,ec3,ec4,ec5,ec6,ef0,ef1,ef2,ef3,ef4,ef5,ef6⟩:=raw7 (b:=wE) (H.out);obtain⟨x0,x1,x2,x3,x4,x5,x6,x7,x8,x9,x10,x11,y0,y1,y2,y3,y4,y5,y6,y7,y8,y9,y10,y11⟩:=zAd (b:=hb) (H.out.p1));go_roundw
    case rel=>exact⟨k+1,hlt,by go_num,HC2.out,H.out.drop⟩
    case measure=>first|(simp[intOf];done)|(simp[intOf];omega)
  · rw[if_neg c1]at hc;have ER:=hQd hc;have gz:(tot==0)=false:=by rw[beq_eq_false_iff_ne,←hc];exact c1
    obtain rfl:tot=e:=HTE.out (by rw[←hc];exact c1);clear hc c1;go_wp2_with (go_at_call 70;(with_reducible refine(zEM x (Ja qx x.hdrs.length capx) _ ER.out XL.out XK.out H.out).zM ?_);clear H;intro wn H;obtain⟨ec0,ec1,ec2,ec3,ec4,ec5,ec6,ef0,ef1,ef2,ef3,ef4,ef5,ef6⟩:=raw7 (b:=wE) (H.out);obtain⟨x0,x1,x2,x3,x4,x5,x6,x7,x8,x9,x10,x11,y0,y1,y2,y3,y4,y5,y6,y7,y8,y9,y10,y11⟩:=zAd (b:=hb) (H.out.p1));go_ret;exact⟨rfl,H.out.drop.drop⟩):p:=h
theorem zCH(base leader:Int)(app txn ctl:Bool)(last first maxt prod epoch sq:Int)(l:List (RecS×Value))(q:Option Addr)(cap:Nat)(e:Int)(he:zAh ⟨base,leader,app,txn,ctl,last,first,maxt,prod,epoch,sq,l.map (·.1)⟩=e)(hmx:first≤9223372036854775807)(hfit:FitB l)(hll:l.length≤1000000){W0 w:World}{K:Know}{L:List Res}(hk:K.has (Know.recs (Ja q l.length cap) l))(h:St W0 w K L):
    Calls Jd 35 #[.agg #[I O base,I O leader,U app,U txn,U ctl,I O last,I O first,I O maxt,I O prod,I O epoch,I O sq,Ja q l.length cap]] w fun en w'=>en=Jb (I O e)∧St W0 w' K L:=by
  have HK:=hQd hk;have HFT:=hQd hfit;have HLL:=hQd hll;have h1:=h.allocRaw #[I O base,I O leader,U app,U txn,U ctl,I O last,I O first,I O maxt,I O prod,I O epoch,I O sq,Ja q l.length cap] 30;obtain⟨hb,hhb⟩:=eX w.heap.size;rw[hhb]at h1;obtain⟨x0,x1,x2,x3,x4,x5,x6,x7,x8,x9,x10,x11,y0,y1,y2,y3,y4,y5,y6,y7,y8,y9,y10,y11⟩:=zAd (b:=hb) (h1);have H:=hQd h1;clear h h1 hk hfit;unfold zAh at he;simp only[Jn]at he
  by_cases p1:BatS.placed ⟨base,leader,app,txn,ctl,last,first,maxt,prod,epoch,sq,l.map (·.1)⟩=false
  · rw[if_pos p1]at he;subst he;have HP:=hQd (show decide (0≤base∧(-1≤leader∧leader≤2147483647)∧(0≤last∧last≤2147483647)∧base≤9223372036854775807 - last∧0≤first∧0≤maxt)=false from p1);clear p1 hmx hll;go_enter Tryz.func35,Tryz.ntmps35;go_wp2_with (go_at_call 68;(with_reducible refine(zB3 _ _ _ _ _ _ _ _ _ _ _ _ _ HP.out H.out).zM ?_);clear H;intro wn H;obtain⟨x0,x1,x2,x3,x4,x5,x6,x7,x8,x9,x10,x11,y0,y1,y2,y3,y4,y5,y6,y7,y8,y9,y10,y11⟩:=zAd (b:=hb) (H.out));go_ret;exact⟨rfl,H.out.drop⟩
  rw[if_neg p1]at he
  have p2:BatS.placed ⟨base,leader,app,txn,ctl,last,first,maxt,prod,epoch,sq,l.map (·.1)⟩=true:=by cases hh:BatS.placed ⟨base,leader,app,txn,ctl,last,first,maxt,prod,epoch,sq,l.map (·.1)⟩with
    |false=>exact absurd hh p1
    |true=>rfl
  have HP:=hQd (show decide (0≤base∧(-1≤leader∧leader≤2147483647)∧(0≤last∧last≤2147483647)∧base≤9223372036854775807 - last∧0≤first∧0≤maxt)=true from p2);have HFP:=hQd (show 0≤first∧first≤9223372036854775807 from⟨(of_decide_eq_true (show decide (0≤base∧(-1≤leader∧leader≤2147483647)∧(0≤last∧last≤2147483647)∧base≤9223372036854775807 - last∧0≤first∧0≤maxt)=true from p2)).2.2.2.2.1,hmx⟩);clear p1 p2 hmx
  by_cases c1:ctl=true∧txn=false
  · rw[if_pos c1]at he;subst he;obtain⟨rfl,rfl⟩:=c1;clear hll;go_enter Tryz.func35,Tryz.ntmps35;go_wp2_with (go_at_call 68;(with_reducible refine(zB3 _ _ _ _ _ _ _ _ _ _ _ _ _ HP.out H.out).zM ?_);clear H;intro wn H;obtain⟨x0,x1,x2,x3,x4,x5,x6,x7,x8,x9,x10,x11,y0,y1,y2,y3,y4,y5,y6,y7,y8,y9,y10,y11⟩:=zAd (b:=hb) (H.out));go_ret;exact⟨rfl,H.out.drop⟩
  rw[if_neg c1]at he
  by_cases s1:BatS.signed ⟨base,leader,app,txn,ctl,last,first,maxt,prod,epoch,sq,l.map (·.1)⟩=false
  · rw[if_pos s1]at he;subst he;have HS:=hQd (show(if prod= -1 then decide (epoch= -1∧sq= -1∧txn=false)else if prod<0∨¬(0≤epoch∧epoch≤32767)then false else if ctl then decide (sq= -1)else decide (0≤sq∧sq≤2147483647))=false from s1);clear s1 hll
    cases ctl with
    |false=>
      go_enter Tryz.func35,Tryz.ntmps35
      go_wp2_with (first
    |(go_at_call 68;(with_reducible refine(zB3 _ _ _ _ _ _ _ _ _ _ _ _ _ HP.out H.out).zM ?_);clear H;intro wn H;obtain⟨x0,x1,x2,x3,x4,x5,x6,x7,x8,x9,x10,x11,y0,y1,y2,y3,y4,y5,y6,y7,y8,y9,y10,y11⟩:=zAd (b:=hb) (H.out))
    |(go_at_call 69;(with_reducible refine(zC7 _ _ _ _ _ _ _ _ _ _ _ _ _ HS.out H.out).zM ?_);clear H;intro wn H;obtain⟨x0,x1,x2,x3,x4,x5,x6,x7,x8,x9,x10,x11,y0,y1,y2,y3,y4,y5,y6,y7,y8,y9,y10,y11⟩:=zAd (b:=hb) (H.out)))
      go_ret;exact⟨rfl,H.out.drop⟩
    |true=>
      cases txn with
      |false=>exact absurd ⟨rfl,rfl⟩ c1
      |true=>
        clear c1;go_enter Tryz.func35,Tryz.ntmps35
        go_wp2_with (first
    |(go_at_call 68;(with_reducible refine(zB3 _ _ _ _ _ _ _ _ _ _ _ _ _ HP.out H.out).zM ?_);clear H;intro wn H;obtain⟨x0,x1,x2,x3,x4,x5,x6,x7,x8,x9,x10,x11,y0,y1,y2,y3,y4,y5,y6,y7,y8,y9,y10,y11⟩:=zAd (b:=hb) (H.out))
    |(go_at_call 69;(with_reducible refine(zC7 _ _ _ _ _ _ _ _ _ _ _ _ _ HS.out H.out).zM ?_);clear H;intro wn H;obtain⟨x0,x1,x2,x3,x4,x5,x6,x7,x8,x9,x10,x11,y0,y1,y2,y3,y4,y5,y6,y7,y8,y9,y10,y11⟩:=zAd (b:=hb) (H.out)))
        go_ret;exact⟨rfl,H.out.drop⟩
  rw[if_neg s1]at he
  have s2:BatS.signed ⟨base,leader,app,txn,ctl,last,first,maxt,prod,epoch,sq,l.map (·.1)⟩=true:=by cases hh:BatS.signed ⟨base,leader,app,txn,ctl,last,first,maxt,prod,epoch,sq,l.map (·.1)⟩with
    |false=>exact absurd hh s1
    |true=>rfl
  have HS:=hQd (show(if prod= -1 then decide (epoch= -1∧sq= -1∧txn=false)else if prod<0∨¬(0≤epoch∧epoch≤32767)then false else if ctl then decide (sq= -1)else decide (0≤sq∧sq≤2147483647))=true from s2);clear s1 s2
  cases ctl with
  |false=>
    rw[if_neg (fun h=>by cases h.1)]at he;obtain⟨tot,htot⟩:=eX (zCl (l.map (·.1)));rw[htot]at he;have HTE:=hQd (show tot≠0→tot=e from fun h=>by rw[if_pos h]at he;exact he);have HTZ:=hQd (show tot=0→BatS.rows ⟨base,leader,app,txn,false,last,first,maxt,prod,epoch,sq,l.map (·.1)⟩=e from fun h=>by rw[if_neg (fun x=>x h),if_neg (fun h=>by cases h.1)]at he;exact he);have HT:=hQd htot;clear he htot c1;go_enter Tryz.func35,Tryz.ntmps35
    go_wp2_with (first
        |(go_at_call 68;(with_reducible refine(zB3 _ _ _ _ _ _ _ _ _ _ _ _ _ HP.out H.out).zM ?_);clear H;intro wn H;obtain⟨x0,x1,x2,x3,x4,x5,x6,x7,x8,x9,x10,x11,y0,y1,y2,y3,y4,y5,y6,y7,y8,y9,y10,y11⟩:=zAd (b:=hb) (H.out))
        |(go_at_call 69;(with_reducible refine(zC7 _ _ _ _ _ _ _ _ _ _ _ _ _ HS.out H.out).zM ?_);clear H;intro wn H;obtain⟨x0,x1,x2,x3,x4,x5,x6,x7,x8,x9,x10,x11,y0,y1,y2,y3,y4,y5,y6,y7,y8,y9,y10,y11⟩:=zAd (b:=hb) (H.out)))
    go_loopw [4,5,33] (fun _ _ iv wr=>∃k:Nat,k≤l.length∧iv=I O k∧Hid (zCl ((l.map (·.1)).drop k)=tot)∧St W0 wr K (.raw hb #[I O base,I O leader,U app,U txn,U false,I O last,I O first,I O maxt,I O prod,I O epoch,I O sq,Ja q l.length cap] 30::L)) (fun _ _ iv _=>l.length - (intOf iv).toNat)
    case atStart=>exact⟨0,Ji _,rfl,HT,H.out⟩
    case round=>
      clear x0 y0 x1 y1 x2 y2 x3 y3 x4 y4 x5 y5 x6 y6 x7 y7 x8 y8 x9 y9 x10 y10 x11 y11;obtain⟨k,hkl,rfl,HC,hst⟩:=hrel;clear H;have H:=hQd hst;clear hst
      by_cases hlt:k<l.length
      · exact zq6
      · obtain rfl:l.length=k:=by omega
        have hc:=HC.out;rw[List.drop_of_length_le sM]at hc;obtain rfl:0=tot:=hc;obtain⟨x0,x1,x2,x3,x4,x5,x6,x7,x8,x9,x10,x11,y0,y1,y2,y3,y4,y5,y6,y7,y8,y9,y10,y11⟩:=zAd (b:=hb) (H.out);have HROW:=hQd (HTZ.out rfl);go_wp2_with (go_at_call 72;(with_reducible refine(zFb _ _ _ _ _ _ _ _ _ _ _ l _ _ _ HROW.out HFP.out HFT.out HLL.out HK.out H.out).zM ?_);clear H;intro wn H);go_ret;exact⟨rfl,H.out.drop⟩
  |true=>
    cases txn with
    |false=>exact absurd ⟨rfl,rfl⟩ c1
    |true=>
      clear c1
      by_cases c2:l.length=1
      · rw[if_neg (fun h=>h.2 c2)]at he;have HLEN:=hQd c2;have bl:((l.length:Int)==1)=true:=by rw[c2];rfl
        have bl2:((l.length:Int) !=1)=false:=by rw[c2];rfl
        obtain⟨tot,htot⟩:=eX (zCl (l.map (·.1)));rw[htot]at he;have HTE:=hQd (show tot≠0→tot=e from fun h=>by rw[if_pos h]at he;exact he)
        have HEN:=hQd (show ∀(x:RecS) (h0:0<l.length),(l[0]'h0).1=x→((zCh x).2.2≠0→tot=0→(zCh x).2.2=e)∧((zCh x).2.2=0→tot=0→BatS.rows ⟨base,leader,app,true,true,last,first,maxt,prod,epoch,sq,l.map (·.1)⟩=e)from fun x h0 hx=>by
          have hm:l.map (·.1)=x::(l.map (·.1)).drop 1:=by have:=zCg l 0 oM x hx;simpa using this
          have hens:BatS.ends ⟨base,leader,app,true,true,last,first,maxt,prod,epoch,sq,l.map (·.1)⟩=(zCh x).2.2:=by unfold BatS.ends;simp only;rw[hm]
          rw[hens]at he;refine⟨fun h h2=> ?_,fun h h2=> ?_⟩
          · rw[if_neg (fun y=>y h2),if_pos ⟨rfl,h⟩]at he;exact he
          · rw[if_neg (fun y=>y h2),if_neg (fun y=>y.2 h)]at he;exact he)
        have HT:=hQd htot;clear he htot c2;go_enter Tryz.func35,Tryz.ntmps35
        go_wp2_with (first
            |(go_at_call 68;(with_reducible refine(zB3 _ _ _ _ _ _ _ _ _ _ _ _ _ HP.out H.out).zM ?_);clear H;intro wn H;obtain⟨x0,x1,x2,x3,x4,x5,x6,x7,x8,x9,x10,x11,y0,y1,y2,y3,y4,y5,y6,y7,y8,y9,y10,y11⟩:=zAd (b:=hb) (H.out))
            |(go_at_call 69;(with_reducible refine(zC7 _ _ _ _ _ _ _ _ _ _ _ _ _ HS.out H.out).zM ?_);clear H;intro wn H;obtain⟨x0,x1,x2,x3,x4,x5,x6,x7,x8,x9,x10,x11,y0,y1,y2,y3,y4,y5,y6,y7,y8,y9,y10,y11⟩:=zAd (b:=hb) (H.out)))
        go_loopw [4,5,33] (fun _ _ iv wr=>∃k:Nat,k≤l.length∧iv=I O k∧Hid (zCl ((l.map (·.1)).drop k)=tot)∧St W0 wr K (.raw hb #[I O base,I O leader,U app,U true,U true,I O last,I O first,I O maxt,I O prod,I O epoch,I O sq,Ja q l.length cap] 30::L)) (fun _ _ iv _=>l.length - (intOf iv).toNat)
        case atStart=>exact⟨0,Ji _,rfl,HT,H.out⟩
        case round=>
          clear x0 y0 x1 y1 x2 y2 x3 y3 x4 y4 x5 y5 x6 y6 x7 y7 x8 y8 x9 y9 x10 y10 x11 y11;obtain⟨k,hkl,rfl,HC,hst⟩:=hrel;clear H;have H:=hQd hst;clear hst
          by_cases hlt:k<l.length
          · exact zq6
          · obtain rfl:l.length=k:=by omega
            have hc:=HC.out;rw[List.drop_of_length_le sM]at hc;obtain rfl:0=tot:=hc;obtain⟨x0,x1,x2,x3,x4,x5,x6,x7,x8,x9,x10,x11,y0,y1,y2,y3,y4,y5,y6,y7,y8,y9,y10,y11⟩:=zAd (b:=hb) (H.out);obtain⟨b,off,hqq⟩:=zBH HK.out H.out (by rw[HLEN.out];decide);subst hqq;obtain⟨⟨x,vx⟩,hx⟩:∃x,l[0]'(by rw[HLEN.out];decide)=x:=⟨_,rfl⟩;have cc:=zAQ HK.out H.out 0 (by rw[HLEN.out];decide) (x,vx) hx;have hmem:(x,vx)∈l:=hx ▸ Jp _;have xf:x.R∧HFit x.hdrs∧x.sum≤1000000:=HFT.out (x,vx) hmem;have xk:K.has (Know.flat RHdr vx 3 x.hdrs):=zAX HK.out hmem;obtain⟨qx,capx,hvx⟩:=zAw xk H.out;subst hvx;simp only[Nat.zero_mul,Nat.zero_add,Nat.add_zero]at cc;obtain⟨c0,c1,c2,c3,c4,c5,c6⟩:=cc;have XD:=hQd (zJg xf.2.2);have hl0:(0:Int)<(l.length:Int):=by have:=HLEN.out;omega
            obtain⟨⟨i1,i2,i3⟩,hi⟩:∃r,zCh x=r:=⟨_,rfl⟩;have EC:=hQd (show zB2 x.key.null x.val.null x.key.data x.val.data x.hdrs.length x.off=(i1,i2,i3)from hi);have hen:=HEN.out x (by rw[HLEN.out];decide) (by rw[hx]);rw[hi]at hen;clear hx hmem xf xk hi
            by_cases c9:i3=0
            · subst c9;have HROW:=hQd (hen.2 rfl rfl);clear hen
              go_wp2_with (first
            |(go_at_call 71;(with_reducible refine(zJY x.time x.off x.key.null x.val.null x.key.data x.val.data qx x.hdrs.length capx (i1,i2,_) EC.out XD.out.1 XD.out.2 H.out).zM ?_);clear H;intro wn H;obtain⟨x0,x1,x2,x3,x4,x5,x6,x7,x8,x9,x10,x11,y0,y1,y2,y3,y4,y5,y6,y7,y8,y9,y10,y11⟩:=zAd (b:=hb) (H.out))
            |(go_at_call 72;(with_reducible refine(zFb _ _ _ _ _ _ _ _ _ _ _ l _ _ _ HROW.out HFP.out HFT.out HLL.out HK.out H.out).zM ?_);clear H;intro wn H))
              go_ret;exact⟨rfl,H.out.drop⟩
            · have gz:(i3==0)=false:=by rw[beq_eq_false_iff_ne];exact c9
              obtain rfl:i3=e:=hen.1 c9 rfl;clear hen c9;go_wp2_with (go_at_call 71;(with_reducible refine(zJY x.time x.off x.key.null x.val.null x.key.data x.val.data qx x.hdrs.length capx (i1,i2,_) EC.out XD.out.1 XD.out.2 H.out).zM ?_);clear H;intro wn H;obtain⟨x0,x1,x2,x3,x4,x5,x6,x7,x8,x9,x10,x11,y0,y1,y2,y3,y4,y5,y6,y7,y8,y9,y10,y11⟩:=zAd (b:=hb) (H.out));go_ret;exact⟨rfl,H.out.drop⟩
      · rw[if_pos ⟨rfl,c2⟩]at he;subst he;have bl:((l.length:Int)==1)=false:=by rw[beq_eq_false_iff_ne];omega
        clear c2 hll;go_enter Tryz.func35,Tryz.ntmps35
        go_wp2_with (first
    |(go_at_call 68;(with_reducible refine(zB3 _ _ _ _ _ _ _ _ _ _ _ _ _ HP.out H.out).zM ?_);clear H;intro wn H;obtain⟨x0,x1,x2,x3,x4,x5,x6,x7,x8,x9,x10,x11,y0,y1,y2,y3,y4,y5,y6,y7,y8,y9,y10,y11⟩:=zAd (b:=hb) (H.out))
    |(go_at_call 69;(with_reducible refine(zC7 _ _ _ _ _ _ _ _ _ _ _ _ _ HS.out H.out).zM ?_);clear H;intro wn H;obtain⟨x0,x1,x2,x3,x4,x5,x6,x7,x8,x9,x10,x11,y0,y1,y2,y3,y4,y5,y6,y7,y8,y9,y10,y11⟩:=zAd (b:=hb) (H.out)))
        go_ret;exact⟨rfl,H.out.drop⟩
variable {W0 w:World}{K:Know}{L:List Res}
theorem zq42{p:Prop}(h:p:=by have:=HACC.out;have:=HKB.out;unfold maxLen;omega):p:=h
theorem zIm(rows:Bs)(n:Nat)(hn:n≤2147483647)(hsl:rows.length≤140737488355328)(e:Int)(he0:e≠0)(hu:unp n ⟨rows,0,0⟩=.error e)(h:St W0 w K L):
  Calls Jd 200 #[Z (bb rows),I O n] w fun en w'=>en=Jb (.tuple #[Ja none 0 0,I O e])∧St W0 w' K L:=by
 obtain⟨tot,htot⟩:=eX (unp n ⟨rows,0,0⟩);have HTT:=hQd (htot.symm.trans hu);have HT:=hQd (show preU [] (unp (n - 0) ⟨rows,0,0⟩)=tot by rw[zJH];exact htot);have HSL:=hQd hsl;have HNB:=hQd hn;have H:=hQd h;clear h hu htot hsl hn he0;go_enter Tryz.func200,Tryz.ntmps200;go_wp2_with (go_at_call 156;(with_reducible refine(zEo rows HSL.out H.out).mono ?_);rintro e_ wn ⟨bi,rfl,h⟩;replace H:=hQd h;clear h);go_loopw [7,11] (fun lv iv wr=>∃(k:Nat) (acc:List (RecS×Value)) (i2:InS) (K2:Know),k≤n∧iv=I O k∧acc.length=k∧Hid (preU (acc.map (·.1)) (unp (n - k) i2)=tot)∧Hid (K2.has K)∧Hid (∀x∈acc,K2.has (Know.flat RHdr x.2 3 x.1.hdrs))∧St W0 wr K2 (.row lv 54 7 acc.length (acc.flatMap zBm)::.inp bi i2::L)) (fun _ iv _=>n - (intOf iv).toNat)
 case atStart=>exact⟨0,[],_,K,Ji _,rfl,rfl,HT,hQd (Know.has_refl _),hQd (fun x h=>by cases h),H.out.nilRow 54 7⟩
 case round=>
  obtain⟨k,acc,i2,K2,hk,rfl,hacc,HC,HK2,HALL,hst⟩:=hrel;have HACC:=hQd hacc;have HKB:=hQd (show k≤2147483647 by have:=HNB.out;omega);clear H hacc;have H:=hQd hst;clear hst;obtain⟨lf,hlf⟩:=eX i2.left;have HLF:=hQd hlf
  by_cases hlt:k<n
  · have hc:=HC.out;rw[show n - k=(n - (k+1))+1 by omega]at hc;have hc:preU (acc.map (·.1)) (if i2.left=0 then .error 10 else if i2.record.2.err=0 then zE7 i2.record.1 (unp (n - (k+1)) i2.record.2)else .error i2.record.2.err)=tot:=hc;have hki:(k:Int)<(n:Int):=by omega
    have hnb:(n:Int)≤2147483647:=by have:=HNB.out;omega
    rw[hlf]at hc
    by_cases c1:lf=0
    · rw[if_pos c1]at hc;have hc2:Except.error 10=tot:=hc;have hc3:=hc2.trans HTT.out;obtain rfl:10=e:=by injection hc3
      subst c1;clear hc hc2 hc3 hlf;go_wp2_with (go_at_call 185;(with_reducible refine(zFn bi i2 _ HLF.out H.out.p1).zM ?_);clear H;intro wn H;replace H:=hQd H.out.p1);go_ret2;exact⟨rfl,H.out.drop.drop.know HK2.out⟩
    · rw[if_neg c1]at hc;obtain⟨⟨x,i3⟩,hx⟩:∃r,i2.record=r:=⟨_,rfl⟩;have HRD:=hQd hx;rw[hx]at hc;simp only at hc;have bl:((lf:Int)==0)=false:=by rw[beq_eq_false_iff_ne];omega
      have bl2:¬(lf=0):=c1
      by_cases c2:i3.err=0
      · rw[if_pos c2,←zHo]at hc;have HER:=hQd c2;have HC2:=hQd hc;clear hc hx c1 c2 hlf
        go_wp2_with (first
  |(go_at_call 185;(with_reducible refine(zFn bi i2 _ HLF.out H.out.p1).zM ?_);clear H;intro wn H;replace H:=hQd H.out.p1)
  |(go_at_call 207;(with_reducible refine(zG8 bi i2 x i3 HRD.out H.out.p1).mono ?_);rintro e_ wn ⟨v1,rfl,h⟩;obtain⟨q1,c1,hv1⟩:=zAw (Know.has_right (Know.has_refl _)) h;subst hv1;replace H:=hQd h;clear h;replace H:=hQd H.out.p1)
  |(at_builtin;refine zAC rfl _ _ 28 rfl 54 Tryz.underlying28 zGv _ _ _ rfl H.out [I O x.time,I O x.off,U x.key.null,Z (bb x.key.data),U x.val.null,Z (bb x.val.data),Ja q1 x.hdrs.length c1] 54 rfl rfl (by simp[Value.oneCell']) zq42 (by have:=HACC.out;have:=HKB.out;omega) ?_;intro v' w' h;replace H:=hQd h;clear h)
  |(go_at_call 168;(with_reducible refine(zDC bi i3 _ HER.out H.out.p1).zM ?_);clear H;intro wn H;replace H:=hQd H.out.p1))
        go_roundw
        case rel=>exact⟨k+1,acc++[(x,Ja q1 x.hdrs.length c1)],i3,K2.and (Know.flat RHdr (Ja q1 x.hdrs.length c1) 3 x.hdrs),hlt,by go_num,by rw[Je,HACC.out];rfl,hQd (by rw[List.map_append];exact HC2.out),hQd (Know.has_trans (Know.has_left (Know.has_refl _)) HK2.out),hQd (fun y hy=>by
         rcases List.mem_append.1 hy with hy|hy
         · exact Know.has_trans (Know.has_left (Know.has_refl _)) (HALL.out y hy)
         · rw[List.mem_singleton.1 hy];exact Know.has_right (Know.has_refl _)),by rw[Je,List.flatMap_append];simpa [zBm]using H.out⟩
        case measure=>first|(simp[intOf];done)|(simp[intOf];omega)
      · rw[if_neg c2]at hc;have hc2:Except.error i3.err=tot:=hc;have hc3:=hc2.trans HTT.out;have HER:=hQd (show i3.err=e by injection hc3);have gz:(e==0)=false:=by rw[beq_eq_false_iff_ne,←HER.out];exact c2
        clear hc hx c1 c2 hlf hc2 hc3
        go_wp2_with (first
  |(go_at_call 185;(with_reducible refine(zFn bi i2 _ HLF.out H.out.p1).zM ?_);clear H;intro wn H;replace H:=hQd H.out.p1)
  |(go_at_call 207;(with_reducible refine(zG8 bi i2 x i3 HRD.out H.out.p1).mono ?_);rintro e_ wn ⟨v1,rfl,h⟩;obtain⟨q1,c1,hv1⟩:=zAw (Know.has_right (Know.has_refl _)) h;subst hv1;replace H:=hQd h;clear h;replace H:=hQd H.out.p1)
  |(at_builtin;refine zAC rfl _ _ 28 rfl 54 Tryz.underlying28 zGv _ _ _ rfl H.out [I O x.time,I O x.off,U x.key.null,Z (bb x.key.data),U x.val.null,Z (bb x.val.data),Ja q1 x.hdrs.length c1] 54 rfl rfl (by simp[Value.oneCell']) zq42 (by have:=HACC.out;have:=HKB.out;omega) ?_;intro v' w' h;replace H:=hQd h;clear h)
  |(go_at_call 168;(with_reducible refine(zDC bi i3 _ HER.out H.out.p1).zM ?_);clear H;intro wn H;replace H:=hQd H.out.p1))
        go_ret2;exact⟨rfl,H.out.drop.drop.know (Know.has_trans (Know.has_left (Know.has_refl _)) HK2.out)⟩
  · obtain rfl:n=k:=by omega
    have hc:=HC.out;rw[Nat.sub_self]at hc;have hc:preU (acc.map (·.1)) (if i2.left=0 then .ok []else .error 10)=tot:=hc;rw[hlf]at hc
    by_cases c1:lf=0
    · rw[if_pos c1]at hc;have hc2:Except.ok (acc.map (·.1)++[])=tot:=hc;have hc3:=hc2.trans HTT.out
      cases hc3
    · rw[if_neg c1]at hc;have hc2:Except.error 10=tot:=hc;have hc3:=hc2.trans HTT.out;obtain rfl:10=e:=by injection hc3
      have bl:decide ((0:Int)<(lf:Int))=true:=decide_eq_true oM;have bl2:decide (0<lf)=true:=decide_eq_true oM;clear hc hc2 hc3 hlf c1;go_wp2_with (go_at_call 185;(with_reducible refine(zFn bi i2 _ HLF.out H.out.p1).zM ?_);clear H;intro wn H;replace H:=hQd H.out.p1);go_ret2;exact⟨rfl,H.out.drop.drop.know HK2.out⟩
theorem zFa(rows:Bs)(n:Nat)(hn:n≤2147483647)(hsl:rows.length≤140737488355328)(rs:List RecS)(hu:unp n ⟨rows,0,0⟩=.ok rs)(h:St W0 w K L):
  Calls Jd 200 #[Z (bb rows),I O n] w fun en w'=>∃(v:Value) (l:List (RecS×Value)),en=Jb (.tuple #[v,I O 0])∧l.map (·.1)=rs∧St W0 w' (K.and (Know.recs v l)) L:=by
 obtain⟨tot,htot⟩:=eX (unp n ⟨rows,0,0⟩);have HTT:=hQd (htot.symm.trans hu);have HT:=hQd (show preU [] (unp (n - 0) ⟨rows,0,0⟩)=tot by rw[zJH];exact htot);have HSL:=hQd hsl;have HNB:=hQd hn;have H:=hQd h;clear h hu htot hsl hn;go_enter Tryz.func200,Tryz.ntmps200;go_wp2_with (go_at_call 156;(with_reducible refine(zEo rows HSL.out H.out).mono ?_);rintro e_ wn ⟨bi,rfl,h⟩;replace H:=hQd h;clear h);go_loopw [7,11] (fun lv iv wr=>∃(k:Nat) (acc:List (RecS×Value)) (i2:InS) (K2:Know),k≤n∧iv=I O k∧acc.length=k∧Hid (preU (acc.map (·.1)) (unp (n - k) i2)=tot)∧Hid (K2.has K)∧Hid (∀x∈acc,K2.has (Know.flat RHdr x.2 3 x.1.hdrs))∧St W0 wr K2 (.row lv 54 7 acc.length (acc.flatMap zBm)::.inp bi i2::L)) (fun _ iv _=>n - (intOf iv).toNat)
 case atStart=>exact⟨0,[],_,K,Ji _,rfl,rfl,HT,hQd (Know.has_refl _),hQd (fun x h=>by cases h),H.out.nilRow 54 7⟩
 case round=>
  obtain⟨k,acc,i2,K2,hk,rfl,hacc,HC,HK2,HALL,hst⟩:=hrel;have HACC:=hQd hacc;have HKB:=hQd (show k≤2147483647 by have:=HNB.out;omega);clear H hacc;have H:=hQd hst;clear hst;obtain⟨lf,hlf⟩:=eX i2.left;have HLF:=hQd hlf
  by_cases hlt:k<n
  · have hc:=HC.out;rw[show n - k=(n - (k+1))+1 by omega]at hc;have hc:preU (acc.map (·.1)) (if i2.left=0 then .error 10 else if i2.record.2.err=0 then zE7 i2.record.1 (unp (n - (k+1)) i2.record.2)else .error i2.record.2.err)=tot:=hc;have hki:(k:Int)<(n:Int):=by omega
    have hnb:(n:Int)≤2147483647:=by have:=HNB.out;omega
    rw[hlf]at hc
    by_cases c1:lf=0
    · rw[if_pos c1]at hc;have hc2:Except.error 10=tot:=hc;have hc3:=hc2.trans HTT.out
      cases hc3
    · rw[if_neg c1]at hc;obtain⟨⟨x,i3⟩,hx⟩:∃r,i2.record=r:=⟨_,rfl⟩;have HRD:=hQd hx;rw[hx]at hc;simp only at hc;have bl:((lf:Int)==0)=false:=by rw[beq_eq_false_iff_ne];omega
      have bl2:¬(lf=0):=c1
      by_cases c2:i3.err=0
      · rw[if_pos c2,←zHo]at hc;have HER:=hQd c2;have HC2:=hQd hc;clear hc hx c1 c2 hlf
        go_wp2_with (first
  |(go_at_call 185;(with_reducible refine(zFn bi i2 _ HLF.out H.out.p1).zM ?_);clear H;intro wn H;replace H:=hQd H.out.p1)
  |(go_at_call 207;(with_reducible refine(zG8 bi i2 x i3 HRD.out H.out.p1).mono ?_);rintro e_ wn ⟨v1,rfl,h⟩;obtain⟨q1,c1,hv1⟩:=zAw (Know.has_right (Know.has_refl _)) h;subst hv1;replace H:=hQd h;clear h;replace H:=hQd H.out.p1)
  |(at_builtin;refine zAC rfl _ _ 28 rfl 54 Tryz.underlying28 zGv _ _ _ rfl H.out [I O x.time,I O x.off,U x.key.null,Z (bb x.key.data),U x.val.null,Z (bb x.val.data),Ja q1 x.hdrs.length c1] 54 rfl rfl (by simp[Value.oneCell']) zq42 (by have:=HACC.out;have:=HKB.out;omega) ?_;intro v' w' h;replace H:=hQd h;clear h)
  |(go_at_call 168;(with_reducible refine(zDC bi i3 _ HER.out H.out.p1).zM ?_);clear H;intro wn H;replace H:=hQd H.out.p1))
        go_roundw
        case rel=>exact⟨k+1,acc++[(x,Ja q1 x.hdrs.length c1)],i3,K2.and (Know.flat RHdr (Ja q1 x.hdrs.length c1) 3 x.hdrs),hlt,by go_num,by rw[Je,HACC.out];rfl,hQd (by rw[List.map_append];exact HC2.out),hQd (Know.has_trans (Know.has_left (Know.has_refl _)) HK2.out),hQd (fun y hy=>by
         rcases List.mem_append.1 hy with hy|hy
         · exact Know.has_trans (Know.has_left (Know.has_refl _)) (HALL.out y hy)
         · rw[List.mem_singleton.1 hy];exact Know.has_right (Know.has_refl _)),by rw[Je,List.flatMap_append];simpa [zBm]using H.out⟩
        case measure=>first|(simp[intOf];done)|(simp[intOf];omega)
      · rw[if_neg c2]at hc;have hc2:Except.error i3.err=tot:=hc;have hc3:=hc2.trans HTT.out
        cases hc3
  · obtain rfl:n=k:=by omega
    have hc:=HC.out;rw[Nat.sub_self]at hc;have hc:preU (acc.map (·.1)) (if i2.left=0 then .ok []else .error 10)=tot:=hc;rw[hlf]at hc
    by_cases c1:lf=0
    · rw[if_pos c1]at hc;have hc2:Except.ok (acc.map (·.1)++[])=tot:=hc;have hc3:=hc2.trans HTT.out;subst c1;have HRS:=hQd (show acc.map (·.1)=rs by injection hc3 with h;rw[List.append_nil]at h;exact h);clear hc hc2 hc3 hlf;go_wp2_with (go_at_call 185;(with_reducible refine(zFn bi i2 _ HLF.out H.out.p1).zM ?_);clear H;intro wn H;replace H:=hQd H.out.p1);go_ret2;have hf:=(H.out.freezeRow (R:=RRec) (fun y _=>⟨rfl,rfl⟩)).drop;exact⟨_,acc,rfl,HRS.out,hf.know (fun w F hh=>⟨HK2.out _ _ hh.1,hh.2,fun y hy=>HALL.out y hy _ _ hh.1⟩)⟩
    · rw[if_neg c1]at hc;have hc2:Except.error 10=tot:=hc;have hc3:=hc2.trans HTT.out
      cases hc3
abbrev W32:=BitVec 32
def cP:W32:=0x82F63B78#32
def b2w (b:Bool):W32:=if b then 1#32 else 0#32
def step (r:W32):W32:=(r>>>1) ^^^ (if r.getLsbD 0 then cP else 0#32)
def zEc:Nat→W32→W32
 |0,r=>r
 |n+1,r=>zEc n (step r)
theorem xlc(a b c:W32):a ^^^ (b ^^^ c)=b ^^^ (a ^^^ c):=by rw[←BitVec.xor_assoc,BitVec.xor_comm a b,BitVec.xor_assoc]
theorem xcan(a b:W32):a ^^^ (a ^^^ b)=b:=by rw[←BitVec.xor_assoc,BitVec.xor_self,BitVec.zero_xor]
theorem zNe(a b:W32):step (a ^^^ b)=step a ^^^ step b:=by
 unfold step
 have e:(a ^^^ b)>>>1=(a>>>1) ^^^ (b>>>1):=by
  apply BitVec.eq_of_getLsbD_eq
  intro i hi
  simp
 rw[e,BitVec.getLsbD_xor]
 cases a.getLsbD 0<;>cases b.getLsbD 0<;>simp[BitVec.xor_assoc,BitVec.xor_comm,xlc,xcan]
theorem zPt(n:Nat)(a b:W32):zEc n (a ^^^ b)=zEc n a ^^^ zEc n b:=by
 induction n generalizing a b with
 |zero=>rfl
 |succ n ih=>show zEc n (step (a ^^^ b))=_;rw[zNe,ih];rfl
theorem zNf(x:W32)(h:x.getLsbD 31=false):step (x<<<1)=x:=by
 unfold step;have h0:(x<<<1).getLsbD 0=false:=by simp
 rw[h0]
 apply BitVec.eq_of_getLsbD_eq
 intro i hi
 by_cases h31:i=31
 ·subst h31;simp;rw[←BitVec.getLsbD_eq_getElem];exact h
 ·have:1+i<32:=by omega
  simp[this];rw[←BitVec.getLsbD_eq_getElem]
def zT9 (r:W32) (b:Bool):W32:=step (r ^^^ b2w b)
def feed (r:W32) (l:List Bool):W32:=l.foldl zT9 r
def word:List Bool→W32
 |[]=>0#32
 |b::t=>b2w b ^^^ (word t<<<1)
theorem zJa:∀(l:List Bool) (i:Nat),i<32→(word l).getLsbD i=l.getD i false
 |[],i,_=>by simp[word]
 |b::t,0,_=>by simp[word];cases b<;>rfl
 |b::t,i+1,hi=>by
  have ih:=zJa t i (by omega);have hb:(b2w b).getLsbD (i+1)=false:=by cases b<;>simp[b2w]
  simp only[word,BitVec.getLsbD_xor,hb,Bool.false_xor];have:(word t<<<1).getLsbD (i+1)=(word t).getLsbD i:=by simp[hi];rw[←BitVec.getLsbD_eq_getElem]
  rw[this,ih]
  simp
theorem zLn:∀(l:List Bool) (r:W32),l.length≤32→feed r l=zEc l.length (r ^^^ word l)
 |[],r,_=>by simp[feed,word,zEc]
 |b::t,r,h=>by
  have hl:t.length≤31:=by simpa using h
  have ht:(word t).getLsbD 31=false:=by
   rw[zJa t 31 (by decide),List.getD_eq_getElem?_getD,List.getElem?_eq_none (by omega)]
   rfl
  have e:feed r (b::t)=feed (step (r ^^^ b2w b)) t:=rfl;rw[e,zLn t _ (by omega)]
  show _=zEc t.length (step (r ^^^ word (b::t)))
  rw[word,←BitVec.xor_assoc,zNe (r ^^^ b2w b),zNf _ ht]
theorem zHJ(r:W32)(l m:List Bool):feed r (l++m)=feed (feed r l) m:=List.foldl_append
def zBF (c:UInt8):List Bool:=(List.range 8).map (fun i=>c.toNat.testBit i)
def zBv (s:Bs):List Bool:=s.flatMap zBF
def tab (n:Nat):W32:=zEc 8 (BitVec.ofNat 32 n)
def zDr (r:W32) (c:UInt8):W32:=tab (r.toNat % 256 ^^^ c.toNat) ^^^ (r>>>8)
theorem zJ5(c:UInt8):word (zBF c)=BitVec.ofNat 32 c.toNat:=by
 apply BitVec.eq_of_getLsbD_eq
 intro i hi;rw[zJa _ _ hi,BitVec.getLsbD_ofNat];unfold zBF
 by_cases h:i<8
 ·simp[List.getD_eq_getElem?_getD,h,hi]
 ·have:c.toNat<2 ^ i:=Nat.lt_of_lt_of_le c.toNat_lt (Nat.pow_le_pow_right (by decide) (by omega));rw[List.getD_eq_getElem?_getD,List.getElem?_eq_none (by simp;omega),Nat.testBit_lt_two_pow this]
  simp
theorem zKs:∀(n:Nat) (x:W32),n≤32→(∀i,32 - n≤i→x.getLsbD i=false)→zEc n (x<<<n)=x
 |0,x,_,_=>by simp[zEc]
 |n+1,x,hn,h=>by
  show zEc n (step (x<<<(n+1)))=x
  have e:x<<<(n+1)=(x<<<n)<<<1:=by rw[BitVec.shiftLeft_add]
  rw[e,zNf]
  ·exact zKs n x (by omega) (fun i hi=>h i (by omega))
  ·rw[BitVec.getLsbD_shiftLeft,h (31 - n) (by omega)]
   simp
theorem zMU(r:W32)(c:UInt8):zDr r c=zEc 8 (r ^^^ BitVec.ofNat 32 c.toNat):=by
 have h1:r ^^^ BitVec.ofNat 32 c.toNat=BitVec.ofNat 32 (r.toNat % 256 ^^^ c.toNat) ^^^ ((r>>>8)<<<8):=by
  apply BitVec.eq_of_getLsbD_eq
  intro i hi;have hm:(r.toNat % 256).testBit i=(decide (i<8) && r.toNat.testBit i):=by rw[show(256:Nat)=2 ^ 8 from rfl,Nat.testBit_mod_two_pow]
  simp only[BitVec.getLsbD_xor,BitVec.getLsbD_ofNat,Nat.testBit_xor,hm,BitVec.getLsbD_shiftLeft,BitVec.getLsbD_ushiftRight,hi,decide_true,Bool.true_and]
  by_cases h:i<8
  ·simp[h];rfl
  ·have h8:8+(i - 8)=i:=by omega
   have:c.toNat<2 ^ i:=Nat.lt_of_lt_of_le c.toNat_lt (Nat.pow_le_pow_right (by decide) (by omega));simp[h,h8,Nat.testBit_lt_two_pow this]
 rw[h1,zPt,zKs 8 (r>>>8) (by decide) (by intro i hi;rw[BitVec.getLsbD_ushiftRight];exact BitVec.getLsbD_of_ge _ _ (by omega))]
 rfl
theorem zJ3(r:W32)(c:UInt8):zDr r c=feed r (zBF c):=by
 rw[zLn _ _ (by simp[zBF]),zMU,zJ5];simp[zBF]
def zEi (r:W32) (s:Bs):W32:=s.foldl zDr r
theorem zMP(r:W32)(s:Bs):zEi r s=feed r (zBv s):=by
 induction s generalizing r with
 |nil=>rfl
 |cons c t ih=>
  show zEi (zDr r c) t=_
  rw[ih,zJ3]
  show _=feed r (zBF c++zBv t)
  rw[zHJ]
theorem zE6(r:W32)(a b:Bs):zEi r (a++b)=zEi (zEi r a) b:=List.foldl_append
def zAq (sum:W32) (s:Bs):W32:= ~~~ (zEi (~~~ sum) s)
theorem zIk(sum:W32)(a b:Bs):zAq sum (a++b)=zAq (zAq sum a) b:=by
 unfold zAq;rw[zE6,BitVec.not_not]
theorem zMQ(sum:W32):zAq sum []=sum:=by unfold zAq zEi;simp
theorem zDs(s:Bs):(zBv s).length=8*s.length:=by
 induction s with
 |nil=>rfl
 |cons c t ih=>simp only[zBv,List.flatMap_cons,Je,Jg]at ih ⊢;rw[ih];simp[zBF];omega
theorem zPb(s:Bs)(i:Nat):(zBv s).getD i false=((s.getD (i / 8) 0).toNat.testBit (i % 8)):=by
 induction s generalizing i with
 |nil=>simp[zBv]
 |cons c t ih=>
  have e:zBv (c::t)=zBF c++zBv t:=rfl;rw[e,List.getD_eq_getElem?_getD];have hl:(zBF c).length=8:=by simp[zBF]
  by_cases h:i<8
  ·rw[List.getElem?_append_left (by omega)];have h0:i / 8=0:=by omega
   have h1:i % 8=i:=by omega
   rw[h0,h1];simp[zBF,h]
  ·rw[List.getElem?_append_right (by omega),hl,←List.getD_eq_getElem?_getD,ih];obtain⟨q,hq⟩:∃q,i / 8=q+1:=⟨i / 8 - 1,by omega⟩;rw[show(i - 8) / 8=q by omega,show(i - 8) % 8=i % 8 by omega,hq]
   simp
variable {W0 w:World}{K:Know}{L:List Res}
theorem zLW(a b:W32):bits .xor .u32 (a.toNat:Int) (b.toNat:Int)=((a ^^^ b).toNat:Int):=by
 have ha:=a.isLt;have hb:=b.isLt;have hab:=(a ^^^ b).isLt;rw[zLJ,BitVec.toNat_xor]at*;have e1:((a.toNat:Int) % 4294967296).toNat=a.toNat:=by omega
 have e2:((b.toNat:Int) % 4294967296).toNat=b.toNat:=by omega
 rw[e1,e2,IntKind.wrap_u32]
 omega
theorem zSS(a:W32):bits .and .u32 (a.toNat:Int) 1=if a.getLsbD 0 then 1 else 0:=by
 have ha:=a.isLt;rw[zLM];have e1:((a.toNat:Int) % 4294967296).toNat=a.toNat:=by omega
 have e2:((1:Int) % 4294967296).toNat=1:=by decide
 rw[e1,e2,Nat.and_one_is_mod,IntKind.wrap_u32];have:a.getLsbD 0=decide (a.toNat % 2=1):=by rw[BitVec.getLsbD,Nat.testBit_zero]
 rw[this]
 by_cases h:a.toNat % 2=1<;>simp[h]
 omega
theorem zLV(a:W32):bits .xor .u32 (a.toNat:Int) 2197175160=((a ^^^ cP).toNat:Int):=zLW a cP
theorem zRQ(a:W32):(a.toNat:Int) / 2=((a>>>1).toNat:Int):=by
 rw[BitVec.toNat_ushiftRight,Nat.shiftRight_eq_div_pow];omega
theorem zRP(a:W32):(a.toNat:Int) / 256=((a>>>8).toNat:Int):=by
 rw[BitVec.toNat_ushiftRight,Nat.shiftRight_eq_div_pow];omega
theorem zQu(a:W32):bits .xor .u32 IntKind.u32.max (a.toNat:Int)=((~~~ a).toNat:Int):=by
 have e:IntKind.u32.max=((BitVec.allOnes 32).toNat:Int):=by decide
 rw[e,zLW,BitVec.xor_comm,BitVec.xor_allOnes]
theorem zJZ(r:W32)(w:World):
 Calls Jd 150 #[.int .u32 r.toNat] w fun en w'=>en=Jb (.int .u32 (zEc 8 r).toNat)∧w=w':=by
 go_enter Tryz.func150,Tryz.ntmps150;go_wp2
 go_loop [0,4] (fun rv kv=>∃(k:Nat) (x:W32),k≤8∧kv=I O k∧rv=.int .u32 x.toNat∧zEc (8 - k) x=zEc 8 r) (fun _ kv=>8 - (intOf kv).toNat)
 case atStart=>exact⟨0,r,dD,rfl,rfl,rfl⟩
 case round=>
  obtain⟨k,x,hk,rfl,rfl,hx⟩:=hrel;have HX:=hQd hx;clear hx
  by_cases h8:k<8
  ·have ha:=zSS x;have hs:=zRQ x;have hx:=x.isLt
   cases hb:x.getLsbD 0
   all_goals
    rw[hb]at ha;go_wp2
    go_round
    case rel=>
     refine⟨k+1,step x,oM,by go_num,?_,?_⟩
     ·refine congrArg _ ?_;unfold step;rw[hb]
      first
       |(rw[if_pos rfl,←zLV];exact congrArg (bits .xor .u32 · 2197175160) hs)
       |exact hs.trans sM
     ·rw[←HX.out,show 8 - k=(8 - (k+1))+1 by omega]
      rfl
    case measure=>first|(simp[intOf];done)|(simp[intOf];omega)
  ·have hk8:k=8:=by omega
   subst hk8;go_wp2;go_ret;rw[←HX.out];exact⟨rfl,rfl⟩
theorem zUi(k:Nat)(hk:k<256)(w:World):
 Calls Jd 150 #[.int .u32 (k:Int)] w fun en w'=>en=Jb (.int .u32 (tab k).toNat)∧w=w':=by
 have h:=zJZ (BitVec.ofNat 32 k) w;have hn:(BitVec.ofNat 32 k).toNat=k:=by simp;omega
 rw[hn]at h;exact h
def tabC (n:Nat):Array Value:=((List.range 256).map fun j=>if j<n then Value.int .u32 (tab j).toNat else Value.int .u32 0).toArray
theorem zGH(n:Nat):(tabC n).size=256:=by simp[tabC]
theorem zGo(n j:Nat)(h:j<256):(tabC n)[j]? =some (if j<n then Value.int .u32 (tab j).toNat else Value.int .u32 0):=by
 simp[tabC,h]
theorem zRL(n:Nat)(h:n<256):(tabC n).setIfInBounds n (.int .u32 (tab n).toNat)=tabC (n+1):=by
 apply Array.ext_getElem?
 intro j
 by_cases hj:j<256
 ·rw[zGo (n+1) j hj,Array.getElem?_setIfInBounds]
  by_cases e:n=j
  ·subst e;simp[zGH,hj]
  ·rw[if_neg e,zGo n j hj]
   by_cases h1:j<n
   ·rw[if_pos h1,if_pos oM]
   ·rw[if_neg h1,if_neg oM]
 ·rw[Array.getElem?_eq_none (by simp[zGH];omega),Array.getElem?_eq_none (by rw[zGH];omega)]
theorem zRF:Tryz.zeroCells206=tabC 0:=by kernel_rfl
def bIx (m:Nat) (c:UInt8):Nat:=m ^^^ c.toNat
def zTb (a b:W32):Nat:=(a ^^^ b).toNat
theorem zNR{m:Nat}(hm:m<256)(c:UInt8):bIx m c<256:=Nat.xor_lt_two_pow (n:=8) hm c.toNat_lt
theorem zUm{m:Nat}(hm:m<256)(c:UInt8):bits .xor .u8 (m:Int) (c.toNat:Int)=(bIx m c:Int):=by
 have hc:=c.toNat_lt;have hq:=zNR hm c;unfold bIx at*;rw[zMX];have e1:((m:Int) % 256).toNat=m:=by omega
 have e2:((c.toNat:Int) % 256).toNat=c.toNat:=by omega
 rw[e1,e2,IntKind.wrap_u8]
 omega
abbrev zKm (b:Nat):Value:=Jc (some ⟨b,0,none⟩)
theorem zRg(h:St W0 w K L):
 Calls Jd 122 #[] w fun en w'=>∃b,en=Jb (zKm b)∧St W0 w' K (.raw b (tabC 256) 206::L):=by
 have H:=hQd h;clear h;go_enter Tryz.func122,Tryz.ntmps122;go_wp2;rw[zRF];go_loopw [4] (fun iv wr=>∃k:Nat,k≤256∧iv=I O k∧St W0 wr K (.raw w.heap.size (tabC k) 206::L)) (fun iv _=>256 - (intOf iv).toNat)
 case atStart=>exact⟨0,dD,rfl,H.out.allocRaw _ _⟩
 case round=>
  obtain⟨k,hk,rfl,hs⟩:=hrel;have HS:=hQd hs;clear hs
  by_cases hlt:k<256
  ·have hc:=HS.out.rawCell k;rw[zGo k k hlt,if_neg oM]at hc;have hf:=HS.out.rawFree k;have hw:IntKind.u32.wrap (k:Int)=(k:Int):=by rw[IntKind.wrap_u32];omega
   have hlt2:(k:Int)<256:=by omega
   have hk0:(0:Int)≤(k:Int):=by omega
   go_wp2_with fail
   go_region_with (go_at_call 150;refine(zUi k hlt _).mono ?_;rintro e wn ⟨rfl,rfl⟩)
   go_wp2;go_roundw
   case rel=>
    refine⟨k+1,oM,by go_num,?_⟩;have h2:=(HS.out.drew).rawSet k (.int .u32 (tab k).toNat);rw[zRL k hlt]at h2;exact h2
   case measure=>first|(simp[intOf];done)|(simp[intOf];omega)
  ·have hk:k=256:=by omega
   subst hk;go_wp2;go_ret;exact⟨_,rfl,HS.out⟩
theorem zSH(b:Nat)(sum:W32)(s:Bs)(hs:s.length≤140737488355328)(h:St W0 w K (.raw b (tabC 256) 206::L)):
 Calls Jd 151 #[zKm b,.int .u32 sum.toNat,Z (bb s)] w fun en w'=>en=Jb (.int .u32 (zAq sum s).toNat)∧St W0 w' K (.raw b (tabC 256) 206::L):=by
 have H:=hQd h;have hsum:=sum.isLt;obtain⟨nb,hnb⟩:=eX (~~~ sum);have hn:=zQu sum;rw[hnb]at hn;have HNB:=hQd hnb;clear h hnb;go_enter Tryz.func151,Tryz.ntmps151;go_wp2;go_loopw [7,13] (fun rv kv wr=>∃k:Nat,k≤s.length∧kv=I O k∧rv=.int .u32 (zEi nb (s.take k)).toNat∧St W0 wr K (.raw b (tabC 256) 206::L)) (fun _ kv _=>s.length - (intOf kv).toNat)
 case atStart=>exact⟨0,Ji _,rfl,rfl,H.out⟩
 case round=>
  obtain⟨k,hk,rfl,rfl,hst⟩:=hrel;have HS:=hQd hst;clear hst;obtain⟨r,hr⟩:=eX (zEi nb (s.take k));rw[hr];have HR:=hQd hr;clear hr
  by_cases hlt:k<s.length
  ·have hrl:=r.isLt
   have hstep:zEi nb (s.take (k+1))=zDr r s[k]:=by
    rw[List.take_succ_eq_append_getElem hlt,zE6,HR.out];rfl
   have HST:=hQd hstep;clear hstep;obtain⟨m,hm⟩:=eX (r.toNat % 256);obtain⟨y,hy⟩:=eX (r>>>8);have hm0:m<256:=by omega
   have hcell:∀c:UInt8,wr.cell? ⟨b,bIx m c,none⟩=some (.int .u32 (tab (bIx m c)).toNat):=fun c=>by
    have h:=HS.out.rawCell (bIx m c);rw[zGo 256 _ (zNR hm0 c),if_pos (zNR hm0 c)]at h;exact h
   have hx:=zUm hm0;have hm2:IntKind.u8.wrap (r.toNat:Int)=(m:Int):=by rw[IntKind.wrap_u8];omega
   have hs8:=zRP r;rw[hy]at hs8;have hxz:∀t:W32,bits .xor .u32 (t.toNat:Int) (y.toNat:Int)=(zTb t y:Int):=fun t=>zLW t y
   have hq0:∀c:UInt8,(0:Int)≤(bIx m c:Int):=fun c=>by omega
   have hq1:∀c:UInt8,(bIx m c:Int)<256:=fun c=>by have:=zNR hm0 c;omega
   have HZ:=hQd (show(zDr r s[k]).toNat=zTb (tab (bIx m s[k])) y by unfold zDr zTb bIx;rw[hm,hy]);clear hm hy hrl hm0;have hk0:(0:Int)≤(k:Int):=by omega
   have hk1:(k:Int)<s.length:=by omega
   go_wp2_with fail
   go_quiet (fail)
   go_wp2;go_roundw
   case rel=>
    refine⟨k+1,hlt,by go_num,?_,HS.out.drewN _⟩;rw[HST.out,HZ.out];exact congrArg (Value.int .u32) ((congrArg (bits .xor .u32 _) hs8).trans (hxz _))
   case measure=>first|(simp[intOf];done)|(simp[intOf];omega)
  ·have hk:k=s.length:=by omega
   subst hk;obtain⟨nr,hnr⟩:=eX (~~~ r);have hn2:=zQu r;rw[hnr]at hn2;have HNR:=hQd hnr;clear hnr;rw[List.take_length]at HR;go_wp2;go_ret;refine⟨?_,HS.out⟩;unfold zAq;rw[HNB.out,HR.out,HNR.out]
   rfl
def RStr (_:World) (cs:List Value) (x:Bs):Prop:=cs=[Z (bb x)]
def strRows (D:Nat→Prop) (w:World) (v:Value) (l:List Bs):Prop:=RowsOf RStr D w v 1 l
theorem zPN{D:Nat→Prop}{w w':World}{v:Value}{l:List Bs}(h:strRows D w v l)(hs:w.heap.size≤w'.heap.size)(hk:∀k,k<w.heap.size→D k→w'.heap[k]? =w.heap[k]?):strRows D w' v l:=by
 obtain⟨p,cap,rfl,h⟩:=h;refine⟨p,cap,rfl,fun h0=> ?_⟩;obtain⟨b,off,rfl,hb,hlt,hc⟩:=h h0;refine⟨b,off,rfl,hb,Nat.lt_of_lt_of_le hlt hs,fun i hi=> ?_⟩;obtain⟨cs,h1,h2,h3⟩:=hc i hi;exact⟨cs,h1,h2,fun f u hu=>(World.cell?_of_block (w:=w) (a:=⟨b,off+(i*1+f),none⟩) (hk b hlt hb)).trans (h3 f u hu)⟩
def Know.strs (v:Value) (l:List Bs):Know:=⟨fun w F=>strRows F w v l,fun _ _ _ h hs hk=>zPN h hs hk,fun _ _ _ h hs=>h.mono (fun _ _ h=>hs _ h) (fun _ _ h=>h)⟩
theorem strRows.at{D:Nat→Prop}{w:World}{v:Value}{l:List Bs}(h:strRows D w v l):
 ∃p cap,v=Ja p l.length cap∧(0<l.length→∃b off,p=some ⟨b,off,none⟩∧∀i (h:i<l.length),w.cell? ⟨b,off+i,none⟩=some (Z (bb l[i]))):=by
 obtain⟨p,cap,rfl,h⟩:=h;refine⟨p,cap,rfl,fun h0=> ?_⟩;obtain⟨b,off,rfl,_,_,hc⟩:=h h0;refine⟨b,off,rfl,fun i hi=> ?_⟩;obtain⟨cs,h1,h2,h3⟩:=hc i hi;unfold RStr at h2;subst h2;have:=h3 0 _ rfl
 simpa using this
def zBE (sum:W32) (l:List Bs):W32:=l.foldl zAq sum
theorem zJ0(sum:W32)(l:List Bs)(s:Bs):zBE sum (l++[s])=zAq (zBE sum l) s:=List.foldl_append
theorem zJ1(sum:W32)(l:List Bs):zBE sum l=zAq sum l.flatten:=by
 induction l generalizing sum with
 |nil=>exact(zMQ sum).symm
 |cons a t ih=>
  show zBE (zAq sum a) t=_
  rw[ih,List.flatten_cons,zIk]
theorem zUh(b:Nat)(v:Value)(l:List Bs)(hl:l.length≤9223372036854775807)(hs:∀s∈l,s.length≤140737488355328)(hk:K.has (Know.strs v l))(h:St W0 w K (.raw b (tabC 256) 206::L)):
 Calls Jd 123 #[zKm b,v] w fun en w'=>en=Jb (.int .u32 (zBE 0#32 l).toNat)∧St W0 w' K (.raw b (tabC 256) 206::L):=by
 have H:=hQd h;have HS:=hQd hs;have HK:=hQd hk;obtain⟨F,hF,_⟩:=h.get;obtain⟨p,cap,rfl,_⟩:=(hk _ _ hF).at;clear h hs hk hF;go_enter Tryz.func123,Tryz.ntmps123;go_wp2;go_loopw [5,10] (fun rv kv wr=>∃k:Nat,k≤l.length∧kv=I O k∧rv=.int .u32 (zBE 0#32 (l.take k)).toNat∧St W0 wr K (.raw b (tabC 256) 206::L)) (fun _ kv _=>l.length - (intOf kv).toNat)
 case atStart=>exact⟨0,Ji _,rfl,rfl,H.out⟩
 case round=>
  obtain⟨k,hk,rfl,rfl,hst⟩:=hrel;have HST:=hQd hst;obtain⟨F2,hF2,_⟩:=hst.get;obtain⟨p2,cap2,hv2,hrow⟩:=(HK.out _ _ hF2).at;clear hst hF2;obtain⟨r,hr⟩:=eX (zBE 0#32 (l.take k));rw[hr];have HR:=hQd hr;clear hr
  by_cases hlt:k<l.length
  ·obtain⟨bb',off,hp,hcells⟩:=hrow oM;have hpp:p=some ⟨bb',off,none⟩:=by simp at hv2;rw[hv2.1,hp]
   subst hpp;have hc:=hcells k hlt;have HL:=hQd (HS.out l[k] (Jp hlt));have HN:=hQd (show zBE 0#32 (l.take (k+1))=zAq r l[k] by rw[List.take_succ_eq_append_getElem hlt,zJ0,HR.out]);clear hcells hv2 hp hrow;generalize l[k]=s at*;go_wp2_with (go_at_call 151;refine(zSH b r s HL.out HST.out).mono ?_;rintro e wn ⟨rfl,h⟩;have H2:=hQd h;clear h);go_roundw
   case rel=>exact⟨k+1,hlt,by go_num,by rw[HN.out],H2.out⟩
   case measure=>first|(simp[intOf];done)|(simp[intOf];omega)
  ·have hk:k=l.length:=by omega
   subst hk;rw[List.take_length]at HR;go_wp2;go_ret;exact⟨by rw[HR.out];rfl,HST.out⟩
theorem St.freezeStrs{r:Nat}(l:List Bs)(h:St W0 w K (.raw r (l.map fun s=>Value.string (bb s)).toArray 9::L)):St W0 w (K.and (Know.strs (Ja (some ⟨r,0,none⟩) l.length l.length) l)) L:=by
 refine h.freeze fun F S1 _ h1=> ?_
 have hlt:=zA1 h1.1;refine⟨some ⟨r,0,none⟩,l.length,rfl,fun _=>⟨r,0,rfl,.inr ⟨(h1.2 r).2 rfl,hlt⟩,hlt,fun i hi=> ?_⟩⟩;refine⟨[Z (bb l[i])],rfl,rfl,fun f u hu=> ?_⟩;rw[zAO h1.1]
 cases f with
 |zero=>
  simp at hu;subst hu;simp[hi]
 |succ f=>simp at hu
theorem zSG(b r n:Nat)(l:List Bs)(x:Nat)(hn:l.length=n)(hx:(zBE 0#32 l).toNat=x)(hs:∀s∈l,s.length≤140737488355328)(hl:l.length≤9223372036854775807)(h:St W0 w K (.raw r (l.map fun s=>Value.string (bb s)).toArray 9::.raw b (tabC 256) 206::L)):
 Calls Jd 123 #[zKm b,Ja (some ⟨r,0,none⟩) n n] w fun en w'=>en=Jb (.int .u32 x)∧St W0 w' K (.raw b (tabC 256) 206::L):=by
 subst hn;subst hx;exact(zUh b _ l hl hs (Know.has_right (Know.has_refl _)) (h.freezeStrs l)).mono fun en w' hh=>⟨hh.1,hh.2.know (Know.has_left (Know.has_refl _))⟩
def zEE:Array Value→Nat→List Value→Array Value
 |c,_,[]=>c
 |c,o,v::r=>zEE (c.setIfInBounds o v) (o+1) r
theorem St.there{b:Nat}{c:Array Value}{T:TypeId}(h:St W0 w K (.raw b c T::L)):w.there b 0 c.size:=fun j hj=>by
 rw[Nat.zero_add];exact⟨by rw[h.rawCell j,Array.getElem?_eq_getElem hj];rfl,h.rawFree j⟩
theorem St.rawSets{W0:World}{K:Know}{L:List Res}{b:Nat}{T:TypeId}:∀(vs:List Value) (o:Nat) (c:Array Value) (w:World),St W0 w K (.raw b c T::L)→St W0 (w.setCells b o vs) K (.raw b (zEE c o vs) T::L)
 |[],_,_,_,h=>h
 |v::r,o,_,_,h=>St.rawSets r (o+1) _ _ (h.rawSet o v)
theorem St.storeEx{b:Nat}{c:Array Value}{T:TypeId}(h:St W0 w K (.raw b c T::L))(cs:Array Value):∃wz,w.setCells b 0 cs.toList=wz∧St W0 wz K (.raw b (zEE c 0 cs.toList) T::L):=⟨_,rfl,h.rawSets _ _ _ _⟩
theorem St.allocEx(h:St W0 w K L)(c:Array Value)(T:TypeId):∃wy b,w.alloc (.cells c T (0,0))=wy∧w.heap.size=b∧St W0 wy K (.raw b c T::L):=⟨_,_,rfl,rfl,h.allocRaw c T⟩
end Go.Proofs.YtenojajfacacoaaGreatDoor
