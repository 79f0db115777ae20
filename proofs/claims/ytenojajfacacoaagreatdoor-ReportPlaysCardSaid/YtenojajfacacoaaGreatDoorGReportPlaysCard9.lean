/- A text. -/
import Derived.Test.YtenojajfacacoaaGreatDoorGReportPlaysCard4
import Derived.Deep.RegionHeld3
import Derived.Deep.DeepCutAuto
import Derived.Test.YtenojajfacacoaaGreatDoorGReportPlaysCard8
import Derived.Test.YtenojajfacacoaaGreatDoorGReportPlaysCard7
import Derived.Test.YtenojajfacacoaaGreatDoorGReportPlaysCard5
import Derived.IntWalk
import Derived.RegionTactic
import Derived.WalkMore
import Derived.Laws.ComplexArith
import Derived.Test.YtenojajfacacoaaGreatDoorGReportPlaysCard1
import Derived.Laws.Cover3
import Derived.Test.YtenojajfacacoaaGreatDoorGReportPlaysCard2
import Derived.Test.YtenojajfacacoaaGreatDoorGReportPlaysCard6
/- A text. -/
namespace Go.Proofs.YtenojajfacacoaaGreatDoor
open Go.RowKit
open Go.Value renaming bool→U, string→Z, slice→Ja, int→I, pointer→Jc
open Go.Ending renaming returned→Jb
open _root_.Nat renaming le_refl→Jo, zero_le→Ji, add_assoc→Jm
open Go.IntKind renaming i64→O
open _root_.Go.Proofs.Tryz renaming prog→Jd
open _root_.List renaming length_cons→Jg, take_of_length_le→Jj, length_take→Jk, length_append→Je, length→Jh, take→Jq, getElem_mem→Jp, length_drop→Jf, length_nil→Jl, length_map→Jn
set_option maxHeartbeats 8000000
set_option maxRecDepth 100000
variable {W0 w:World}{K:Know}{L:List Res}
theorem zAA(n:Int)(r:Bs)(hr:encI n=r)(hn: -9223372036854775808≤n∧n<9223372036854775808)(h:St W0 w K L):
 Calls Jd 59 #[I O n] w fun en w'=>en=Jb (Z (bb r))∧St W0 w' K L:=by
 subst hr;exact zKI n hn h
theorem zAe(v:Value)(l:List HdrS)(r:Bs)(hr:zDq l=r)(hs:hsize l≤70368744177664)(hk:K.has (Know.flat RHdr v 3 l))(h:St W0 w K L):
 Calls Jd 61 #[v] w fun en w'=>en=Jb (Z (bb r))∧St W0 w' K L:=by
 subst hr;exact zMe v l hs hk h
theorem zTJ{b:Nat}{T:TypeId}{v0 v1 v2 v3 v4 v5 v6:Value}(h:St W0 w K (.raw b #[v0,v1,v2,v3,v4,v5,v6] T::L)):
 (w.cell? ⟨b,0,none⟩=some v0∧w.cell? ⟨b,1,none⟩=some v1∧w.cell? ⟨b,2,none⟩=some v2∧w.cell? ⟨b,3,none⟩=some v3∧w.cell? ⟨b,4,none⟩=some v4∧w.cell? ⟨b,5,none⟩=some v5∧w.cell? ⟨b,6,none⟩=some v6)∧St W0 w K (.raw b #[v0,v1,v2,v3,v4,v5,v6] T::L):=
 ⟨⟨h.rawCell 0,h.rawCell 1,h.rawCell 2,h.rawCell 3,h.rawCell 4,h.rawCell 5,h.rawCell 6⟩,h⟩
theorem zAa{b:Nat}{T:TypeId}(h:St W0 w K (.raw b #[.int .u8 0] T::L)):
 (convert 57 9 (Ja (some ⟨b,0,none⟩) 1 1)).run Jd w=.ok (Z ⟨#[0]⟩) w:=by
 refine run_convert_bytes_back (P:=Jd) w 57 9 5 ⟨b,0,none⟩ 1 [0] Tryz.underlying57 Tryz.underlying5 Tryz.underlying9 (fun j hj=> ?_);have hj:j=0:=by simp at hj;exact hj
 subst hj;exact h.rawCell 0
theorem tA7{f:FuncId}{x:Array Value}{X:Ending}{R:Ending→World→Prop}{W0 w:World}{K:Know}{L:List Res}{b:Nat}{T:TypeId}(c:St W0 w K (.raw b #[.int .u8 0] T::L)→Calls Jd f x w fun e w'=>e=X∧St W0 w' K (.raw b #[.int .u8 0] T::L))(k:∀w,St W0 w K (.raw b #[.int .u8 0] T::L)→(convert 57 9 (Ja (some ⟨b,0,none⟩) 1 1)).run Jd w=.ok (Z ⟨#[0]⟩) w→St W0 w K L→R X w)(h:St W0 w K (.raw b #[.int .u8 0] T::L):=by assumption):Calls Jd f x w R:=(c h).mono (by rintro e w' ⟨rfl,h⟩;exact k w' h (zAa h) h.drop)
theorem tB7{f:FuncId}{x:Array Value}{X:Ending}{R:Ending→World→Prop}{W0 w:World}{K:Know}{L:List Res}{b:Nat}{T:TypeId}{y:Array Value}(c:St W0 w K (.raw b y T::L)→Calls Jd f x w fun e w'=>e=X∧St W0 w' K (.raw b y T::L))(k:∀w,St W0 w K (.raw b y T::L)→St W0 (w.alloc (.cells #[.int .u8 0] 5 (0,0))) K (.raw w.heap.size #[.int .u8 0] 5::.raw b y T::L)→(convert 57 9 (Ja (some ⟨w.heap.size,0,none⟩) 1 1)).run Jd (w.alloc (.cells #[.int .u8 0] 5 (0,0)))=.ok (Z ⟨#[0]⟩) (w.alloc (.cells #[.int .u8 0] 5 (0,0)))→St W0 (w.alloc (.cells #[.int .u8 0] 5 (0,0))) K (.raw b y T::L)→R X w)(h:St W0 w K (.raw b y T::L):=by assumption):Calls Jd f x w R:=(c h).mono (by rintro e w' ⟨rfl,h⟩;have a:=h.allocRaw #[.int .u8 0] 5;exact k w' h a (zAa a) a.drop)
theorem zq34{p:Prop}(h:p:=by(try dsimp only);exact(zTJ (show St W0 _ K (.raw wA _ _::L) by assumption))):p:=h
theorem zMb(x:RecS)(v:Value)(s:Bs)(hss:encR x=s)(hx:x.R)(hs:x.sum≤1000000)(hk:K.has (Know.flat RHdr v 3 x.hdrs))(h:St W0 w K L):
 Calls Jd 28 #[.agg #[I O x.time,I O x.off,U x.key.null,Z (bb x.key.data),U x.val.null,Z (bb x.val.data),v]] w fun en w'=>en=Jb (Z (bb s))∧St W0 w' K L:=by
 obtain⟨wA,hwA⟩:=eX w.heap.size;have h0:=h.allocRaw #[I O x.time,I O x.off,U x.key.null,Z (bb x.key.data),U x.val.null,Z (bb x.val.data),v] 54;rw[hwA]at h0;have hle:=zFy x hx hs;have hsm:=hs;unfold RecS.sum at hsm;have hsl:=zCS x.hdrs;obtain⟨f,hf⟩:=eX (recF x);obtain⟨a1,e1⟩:=eX (encI x.time);obtain⟨a2,e2⟩:=eX (encI x.off);obtain⟨a3,e3⟩:=eX (encV ⟨x.key.null,x.key.data⟩);obtain⟨a4,e4⟩:=eX (encV ⟨x.val.null,x.val.data⟩);obtain⟨a5,e5⟩:=eX (zDq x.hdrs)
 have hfe:f=[0]++(a1++(a2++(a3++(a4++a5)))):=by
  rw[←hf,←e1,←e2,←e3,←e4,←e5];rfl
 have hl:=congrArg Jh hfe;simp only[Je,Jg,Jl]at hl;rw[hf]at hle;have hfl:f.length≤40000000:=by omega
 obtain⟨a6,e6⟩:=eX (encI f.length);have h6:a6.length≤10:=by rw[←e6];exact zCU _ oM
 have hse:s=a6++f:=by
  rw[←hss];unfold encR encV;rw[hf,←e6];rfl
 have hz1:¬(9223372036854775807<1+a1.length):=by omega
 have hy1:¬(9223372036854775807<a1.length+1):=by omega
 have hz2:¬(9223372036854775807<1+a1.length+a2.length):=by omega
 have hy2:¬(9223372036854775807<a1.length+1+a2.length):=by omega
 have hz3:¬(9223372036854775807<1+a1.length+a2.length+a3.length):=by omega
 have hy3:¬(9223372036854775807<a1.length+1+a2.length+a3.length):=by omega
 have hz4:¬(9223372036854775807<1+a1.length+a2.length+a3.length+a4.length):=by omega
 have hy4:¬(9223372036854775807<a1.length+1+a2.length+a3.length+a4.length):=by omega
 have hz5:¬(9223372036854775807<1+a1.length+a2.length+a3.length+a4.length+a5.length):=by omega
 have hy5:¬(9223372036854775807<a1.length+1+a2.length+a3.length+a4.length+a5.length):=by omega
 have hz6:¬(9223372036854775807<a6.length+f.length):=by omega
 have hw3:¬(9223372036854775807<a1.length+a2.length+1+a3.length):=by omega
 have hw4:¬(9223372036854775807<a1.length+a2.length+a3.length+1+a4.length):=by omega
 have hw5:¬(9223372036854775807<a1.length+a2.length+a3.length+a4.length+1+a5.length):=by omega
 have hv4:¬(9223372036854775807<a1.length+(a2.length+a3.length)+1+a4.length):=by omega
 have hv5:¬(9223372036854775807<a1.length+(a2.length+(a3.length+a4.length))+1+a5.length):=by omega
 have E1:=hQd e1;have E2:=hQd e2;have E3:=hQd e3;have E4:=hQd e4;have E5:=hQd e5;have E6:=hQd e6;have R1:=hQd hx.1;have R2:=hQd hx.2;have R6:=hQd (show -9223372036854775808≤(f.length:Int)∧(f.length:Int)<9223372036854775808 by omega);have B3:=hQd (show x.key.data.length≤70368744177664 by omega);have B4:=hQd (show x.val.data.length≤70368744177664 by omega);have B5:=hQd (show hsize x.hdrs≤70368744177664 by omega);have HK:=hQd hk;have HF:=hQd hfe;have HSE:=hQd hse;have H:=hQd h0;have hcat:∀B:Bs,(⟨#[0]⟩:ByteArray)++bb B=bb (0::B):=fun B=>zAc [0] B
 clear h hk h0 hss hx hs hle hsm hsl hf hfl h6 hse hfe hl e1 e2 e3 e4 e5 e6;go_enter Tryz.func28,Tryz.ntmps28;go_wp2_with fail;have hst:=H.out;have ⟨⟨c0,c1,c2,c3,c4,c5,c6⟩,_⟩:=zTJ H.out.drew;have hst:=H.out.drew;have hst2:=(H.out.allocRaw #[.int .u8 0] 5).drew;rw[World.size_alloc,hwA]at hst2;have cb:=zAa hst2;have hst3:=hst2.drop;go_cut [3] (fun s3 wx=>s3=Z (bb f)∧St W0 wx K (.raw wA #[I O x.time,I O x.off,U x.key.null,Z (bb x.key.data),U x.val.null,Z (bb x.val.data),v] 54::L))
 case first=>
  refine wp_region_held_drew (S:=(fun w'=>(w'.cell? ⟨wA,0,none⟩=some (I O x.time)∧w'.cell? ⟨wA,1,none⟩=some (I O x.off)∧w'.cell? ⟨wA,2,none⟩=some (U x.key.null)∧w'.cell? ⟨wA,3,none⟩=some (Z (bb x.key.data))∧w'.cell? ⟨wA,4,none⟩=some (U x.val.null)∧w'.cell? ⟨wA,5,none⟩=some (Z (bb x.val.data))∧w'.cell? ⟨wA,6,none⟩=some (v))∧St W0 w' K (.raw wA #[I O x.time,I O x.off,U x.key.null,Z (bb x.key.data),U x.val.null,Z (bb x.val.data),v] 54::L))) kR (zTJ (show St W0 _ K (.raw wA _ _::L) by assumption)) (fun _=> ?_);refine tR 2 ?_;refine tR 3 ?_;refine tR 6 ?_;refine tR 7 ?_;refine tR 10 ?_;refine tR 11 ?_;refine tR 14 ?_;refine tR 15 ?_;refine tR 18 ?_;refine tR 19 ?_;refine wR [0,4] (rC rfl (fun KK hK=> ?_) (rC rfl (fun KK hK=> ?_) rN))
  focus
   go_simp;refine zK hK zq34 (fun _=> ?_);clear hK KK
   refine wR [1,4] (rC rfl (fun KK hK=> ?_) (rC rfl (fun KK hK=> ?_) rN))
   focus
    go_simp;refine zK hK zq34 (fun _=> ?_);clear hK KK
    refine wR [4] (rC rfl (fun KK hK=> ?_) rN);go_simp
    (go_at_call 59;first|(with_reducible refine tA7 (zAA x.time a1 E1.out R1.out) ?_;intro wn h cb hd)|(with_reducible refine tB7 (zAA x.time a1 E1.out R1.out) ?_;intro wn h hal cb hd))
    refine zK hK zq34 (fun _=> ?_);clear hK KK
    refine tR 5 ?_;refine wR [8] (rC rfl (fun KK hK=> ?_) rN);go_simp
    (go_at_call 59;first|(with_reducible refine tA7 (zAA x.off a2 E2.out R2.out) ?_;intro wn h cb hd)|(with_reducible refine tB7 (zAA x.off a2 E2.out R2.out) ?_;intro wn h hal cb hd))
    refine zK hK zq34 (fun _=> ?_);clear hK KK
    refine tR 9 ?_;refine wR [12] (rC rfl (fun KK hK=> ?_) rN);go_simp
    (go_at_call 60;first|(with_reducible refine tA7 (zAb x.key.null x.key.data a3 E3.out B3.out) ?_;intro wn h cb hd)|(with_reducible refine tB7 (zAb x.key.null x.key.data a3 E3.out B3.out) ?_;intro wn h hal cb hd))
    refine zK hK zq34 (fun _=> ?_);clear hK KK
    refine tR 13 ?_;refine wR [16] (rC rfl (fun KK hK=> ?_) rN);go_simp
    (go_at_call 60;first|(with_reducible refine tA7 (zAb x.val.null x.val.data a4 E4.out B4.out) ?_;intro wn h cb hd)|(with_reducible refine tB7 (zAb x.val.null x.val.data a4 E4.out B4.out) ?_;intro wn h hal cb hd))
    refine zK hK zq34 (fun _=> ?_);clear hK KK
    refine tR 17 ?_;refine wR [20] (rC rfl (fun KK hK=> ?_) rN);go_simp
    (go_at_call 61;first|(with_reducible refine tA7 (zAe v x.hdrs a5 E5.out B5.out HK.out) ?_;intro wn h cb hd)|(with_reducible refine tB7 (zAe v x.hdrs a5 E5.out B5.out HK.out) ?_;intro wn h hal cb hd))
    refine zK hK zq34 (fun _=> ?_);clear hK KK
   rotate_left
   focus
    go_simp
    (go_at_call 59;first|(with_reducible refine tA7 (zAA x.time a1 E1.out R1.out) ?_;intro wn h cb hd)|(with_reducible refine tB7 (zAA x.time a1 E1.out R1.out) ?_;intro wn h hal cb hd))
    refine zK hK zq34 (fun _=> ?_);clear hK KK
    refine wR [1,8] (rC rfl (fun KK hK=> ?_) (rC rfl (fun KK hK=> ?_) rN))
    focus
     go_simp;refine zK hK zq34 (fun _=> ?_);clear hK KK
     refine tR 5 ?_;refine wR [8] (rC rfl (fun KK hK=> ?_) rN);go_simp
     (go_at_call 59;first|(with_reducible refine tA7 (zAA x.off a2 E2.out R2.out) ?_;intro wn h cb hd)|(with_reducible refine tB7 (zAA x.off a2 E2.out R2.out) ?_;intro wn h hal cb hd))
     refine zK hK zq34 (fun _=> ?_);clear hK KK
     refine tR 9 ?_;refine wR [12] (rC rfl (fun KK hK=> ?_) rN);go_simp
     (go_at_call 60;first|(with_reducible refine tA7 (zAb x.key.null x.key.data a3 E3.out B3.out) ?_;intro wn h cb hd)|(with_reducible refine tB7 (zAb x.key.null x.key.data a3 E3.out B3.out) ?_;intro wn h hal cb hd))
     refine zK hK zq34 (fun _=> ?_);clear hK KK
     refine tR 13 ?_;refine wR [16] (rC rfl (fun KK hK=> ?_) rN);go_simp
     (go_at_call 60;first|(with_reducible refine tA7 (zAb x.val.null x.val.data a4 E4.out B4.out) ?_;intro wn h cb hd)|(with_reducible refine tB7 (zAb x.val.null x.val.data a4 E4.out B4.out) ?_;intro wn h hal cb hd))
     refine zK hK zq34 (fun _=> ?_);clear hK KK
     refine tR 17 ?_;refine wR [20] (rC rfl (fun KK hK=> ?_) rN);go_simp
     (go_at_call 61;first|(with_reducible refine tA7 (zAe v x.hdrs a5 E5.out B5.out HK.out) ?_;intro wn h cb hd)|(with_reducible refine tB7 (zAe v x.hdrs a5 E5.out B5.out HK.out) ?_;intro wn h hal cb hd))
     refine zK hK zq34 (fun _=> ?_);clear hK KK
    rotate_left
    focus
     go_simp
     (go_at_call 59;first|(with_reducible refine tA7 (zAA x.off a2 E2.out R2.out) ?_;intro wn h cb hd)|(with_reducible refine tB7 (zAA x.off a2 E2.out R2.out) ?_;intro wn h hal cb hd))
     refine zK hK zq34 (fun _=> ?_);clear hK KK
     refine wR [1,12] (rC rfl (fun KK hK=> ?_) (rC rfl (fun KK hK=> ?_) rN))
     focus
      go_simp;refine zK hK zq34 (fun _=> ?_);clear hK KK
      refine tR 5 ?_;refine tR 9 ?_;refine wR [12] (rC rfl (fun KK hK=> ?_) rN);go_simp
      (go_at_call 60;first|(with_reducible refine tA7 (zAb x.key.null x.key.data a3 E3.out B3.out) ?_;intro wn h cb hd)|(with_reducible refine tB7 (zAb x.key.null x.key.data a3 E3.out B3.out) ?_;intro wn h hal cb hd))
      refine zK hK zq34 (fun _=> ?_);clear hK KK
      refine tR 13 ?_;refine wR [16] (rC rfl (fun KK hK=> ?_) rN);go_simp
      (go_at_call 60;first|(with_reducible refine tA7 (zAb x.val.null x.val.data a4 E4.out B4.out) ?_;intro wn h cb hd)|(with_reducible refine tB7 (zAb x.val.null x.val.data a4 E4.out B4.out) ?_;intro wn h hal cb hd))
      refine zK hK zq34 (fun _=> ?_);clear hK KK
      refine tR 17 ?_;refine wR [20] (rC rfl (fun KK hK=> ?_) rN);go_simp
      (go_at_call 61;first|(with_reducible refine tA7 (zAe v x.hdrs a5 E5.out B5.out HK.out) ?_;intro wn h cb hd)|(with_reducible refine tB7 (zAe v x.hdrs a5 E5.out B5.out HK.out) ?_;intro wn h hal cb hd))
      refine zK hK zq34 (fun _=> ?_);clear hK KK
     rotate_left
     focus
      go_simp
      (go_at_call 60;first|(with_reducible refine tA7 (zAb x.key.null x.key.data a3 E3.out B3.out) ?_;intro wn h cb hd)|(with_reducible refine tB7 (zAb x.key.null x.key.data a3 E3.out B3.out) ?_;intro wn h hal cb hd))
      refine zK hK zq34 (fun _=> ?_);clear hK KK
      refine wR [1,16] (rC rfl (fun KK hK=> ?_) (rC rfl (fun KK hK=> ?_) rN))
      focus
       go_simp;refine zK hK zq34 (fun _=> ?_);clear hK KK
       refine tR 5 ?_;refine tR 9 ?_;refine tR 13 ?_;refine wR [16] (rC rfl (fun KK hK=> ?_) rN);go_simp
       (go_at_call 60;first|(with_reducible refine tA7 (zAb x.val.null x.val.data a4 E4.out B4.out) ?_;intro wn h cb hd)|(with_reducible refine tB7 (zAb x.val.null x.val.data a4 E4.out B4.out) ?_;intro wn h hal cb hd))
       refine zK hK zq34 (fun _=> ?_);clear hK KK
       refine tR 17 ?_;refine wR [20] (rC rfl (fun KK hK=> ?_) rN);go_simp
       (go_at_call 61;first|(with_reducible refine tA7 (zAe v x.hdrs a5 E5.out B5.out HK.out) ?_;intro wn h cb hd)|(with_reducible refine tB7 (zAe v x.hdrs a5 E5.out B5.out HK.out) ?_;intro wn h hal cb hd))
       refine zK hK zq34 (fun _=> ?_);clear hK KK
      rotate_left
      focus
       go_simp
       (go_at_call 60;first|(with_reducible refine tA7 (zAb x.val.null x.val.data a4 E4.out B4.out) ?_;intro wn h cb hd)|(with_reducible refine tB7 (zAb x.val.null x.val.data a4 E4.out B4.out) ?_;intro wn h hal cb hd))
       refine zK hK zq34 (fun _=> ?_);clear hK KK
       refine wR [1,20] (rC rfl (fun KK hK=> ?_) (rC rfl (fun KK hK=> ?_) rN))
       focus
        go_simp;refine zK hK zq34 (fun _=> ?_);clear hK KK
        refine tR 5 ?_;refine tR 9 ?_;refine tR 13 ?_;refine tR 17 ?_;refine wR [20] (rC rfl (fun KK hK=> ?_) rN);go_simp
        (go_at_call 61;first|(with_reducible refine tA7 (zAe v x.hdrs a5 E5.out B5.out HK.out) ?_;intro wn h cb hd)|(with_reducible refine tB7 (zAe v x.hdrs a5 E5.out B5.out HK.out) ?_;intro wn h hal cb hd))
        refine zK hK zq34 (fun _=> ?_);clear hK KK
       rotate_left
       focus
        go_simp
        (go_at_call 61;first|(with_reducible refine tA7 (zAe v x.hdrs a5 E5.out B5.out HK.out) ?_;intro wn h cb hd)|(with_reducible refine tB7 (zAe v x.hdrs a5 E5.out B5.out HK.out) ?_;intro wn h hal cb hd))
        refine zK hK zq34 (fun _=> ?_);clear hK KK
        refine wR [1] (rC rfl (fun KK hK=> ?_) rN);go_simp;refine zK hK zq34 (fun _=> ?_);clear hK KK
        refine tR 5 ?_;refine tR 9 ?_;refine tR 13 ?_;refine tR 17 ?_
  rotate_left 6
  focus
   go_simp
   (go_at_call 59;first|(with_reducible refine tA7 (zAA x.time a1 E1.out R1.out) ?_;intro wn h cb hd)|(with_reducible refine tB7 (zAA x.time a1 E1.out R1.out) ?_;intro wn h hal cb hd))
   refine zK hK zq34 (fun _=> ?_);clear hK KK
   refine wR [0,8] (rC rfl (fun KK hK=> ?_) (rC rfl (fun KK hK=> ?_) rN))
   focus
    go_simp;refine zK hK zq34 (fun _=> ?_);clear hK KK
    refine wR [1,8] (rC rfl (fun KK hK=> ?_) (rC rfl (fun KK hK=> ?_) rN))
    focus
     go_simp;refine zK hK zq34 (fun _=> ?_);clear hK KK
     refine tR 5 ?_;refine wR [8] (rC rfl (fun KK hK=> ?_) rN);go_simp
     (go_at_call 59;first|(with_reducible refine tA7 (zAA x.off a2 E2.out R2.out) ?_;intro wn h cb hd)|(with_reducible refine tB7 (zAA x.off a2 E2.out R2.out) ?_;intro wn h hal cb hd))
     refine zK hK zq34 (fun _=> ?_);clear hK KK
     refine tR 9 ?_;refine wR [12] (rC rfl (fun KK hK=> ?_) rN);go_simp
     (go_at_call 60;first|(with_reducible refine tA7 (zAb x.key.null x.key.data a3 E3.out B3.out) ?_;intro wn h cb hd)|(with_reducible refine tB7 (zAb x.key.null x.key.data a3 E3.out B3.out) ?_;intro wn h hal cb hd))
     refine zK hK zq34 (fun _=> ?_);clear hK KK
     refine tR 13 ?_;refine wR [16] (rC rfl (fun KK hK=> ?_) rN);go_simp
     (go_at_call 60;first|(with_reducible refine tA7 (zAb x.val.null x.val.data a4 E4.out B4.out) ?_;intro wn h cb hd)|(with_reducible refine tB7 (zAb x.val.null x.val.data a4 E4.out B4.out) ?_;intro wn h hal cb hd))
     refine zK hK zq34 (fun _=> ?_);clear hK KK
     refine tR 17 ?_;refine wR [20] (rC rfl (fun KK hK=> ?_) rN);go_simp
     (go_at_call 61;first|(with_reducible refine tA7 (zAe v x.hdrs a5 E5.out B5.out HK.out) ?_;intro wn h cb hd)|(with_reducible refine tB7 (zAe v x.hdrs a5 E5.out B5.out HK.out) ?_;intro wn h hal cb hd))
     refine zK hK zq34 (fun _=> ?_);clear hK KK
    rotate_left
    focus
     go_simp
     (go_at_call 59;first|(with_reducible refine tA7 (zAA x.off a2 E2.out R2.out) ?_;intro wn h cb hd)|(with_reducible refine tB7 (zAA x.off a2 E2.out R2.out) ?_;intro wn h hal cb hd))
     refine zK hK zq34 (fun _=> ?_);clear hK KK
     refine wR [1,12] (rC rfl (fun KK hK=> ?_) (rC rfl (fun KK hK=> ?_) rN))
     focus
      go_simp;refine zK hK zq34 (fun _=> ?_);clear hK KK
      refine tR 5 ?_;refine tR 9 ?_;refine wR [12] (rC rfl (fun KK hK=> ?_) rN);go_simp
      (go_at_call 60;first|(with_reducible refine tA7 (zAb x.key.null x.key.data a3 E3.out B3.out) ?_;intro wn h cb hd)|(with_reducible refine tB7 (zAb x.key.null x.key.data a3 E3.out B3.out) ?_;intro wn h hal cb hd))
      refine zK hK zq34 (fun _=> ?_);clear hK KK
      refine tR 13 ?_;refine wR [16] (rC rfl (fun KK hK=> ?_) rN);go_simp
      (go_at_call 60;first|(with_reducible refine tA7 (zAb x.val.null x.val.data a4 E4.out B4.out) ?_;intro wn h cb hd)|(with_reducible refine tB7 (zAb x.val.null x.val.data a4 E4.out B4.out) ?_;intro wn h hal cb hd))
      refine zK hK zq34 (fun _=> ?_);clear hK KK
      refine tR 17 ?_;refine wR [20] (rC rfl (fun KK hK=> ?_) rN);go_simp
      (go_at_call 61;first|(with_reducible refine tA7 (zAe v x.hdrs a5 E5.out B5.out HK.out) ?_;intro wn h cb hd)|(with_reducible refine tB7 (zAe v x.hdrs a5 E5.out B5.out HK.out) ?_;intro wn h hal cb hd))
      refine zK hK zq34 (fun _=> ?_);clear hK KK
     rotate_left
     focus
      go_simp
      (go_at_call 60;first|(with_reducible refine tA7 (zAb x.key.null x.key.data a3 E3.out B3.out) ?_;intro wn h cb hd)|(with_reducible refine tB7 (zAb x.key.null x.key.data a3 E3.out B3.out) ?_;intro wn h hal cb hd))
      refine zK hK zq34 (fun _=> ?_);clear hK KK
      refine wR [1,16] (rC rfl (fun KK hK=> ?_) (rC rfl (fun KK hK=> ?_) rN))
      focus
       go_simp;refine zK hK zq34 (fun _=> ?_);clear hK KK
       refine tR 5 ?_;refine tR 9 ?_;refine tR 13 ?_;refine wR [16] (rC rfl (fun KK hK=> ?_) rN);go_simp
       (go_at_call 60;first|(with_reducible refine tA7 (zAb x.val.null x.val.data a4 E4.out B4.out) ?_;intro wn h cb hd)|(with_reducible refine tB7 (zAb x.val.null x.val.data a4 E4.out B4.out) ?_;intro wn h hal cb hd))
       refine zK hK zq34 (fun _=> ?_);clear hK KK
       refine tR 17 ?_;refine wR [20] (rC rfl (fun KK hK=> ?_) rN);go_simp
       (go_at_call 61;first|(with_reducible refine tA7 (zAe v x.hdrs a5 E5.out B5.out HK.out) ?_;intro wn h cb hd)|(with_reducible refine tB7 (zAe v x.hdrs a5 E5.out B5.out HK.out) ?_;intro wn h hal cb hd))
       refine zK hK zq34 (fun _=> ?_);clear hK KK
      rotate_left
      focus
       go_simp
       (go_at_call 60;first|(with_reducible refine tA7 (zAb x.val.null x.val.data a4 E4.out B4.out) ?_;intro wn h cb hd)|(with_reducible refine tB7 (zAb x.val.null x.val.data a4 E4.out B4.out) ?_;intro wn h hal cb hd))
       refine zK hK zq34 (fun _=> ?_);clear hK KK
       refine wR [1,20] (rC rfl (fun KK hK=> ?_) (rC rfl (fun KK hK=> ?_) rN))
       focus
        go_simp;refine zK hK zq34 (fun _=> ?_);clear hK KK
        refine tR 5 ?_;refine tR 9 ?_;refine tR 13 ?_;refine tR 17 ?_;refine wR [20] (rC rfl (fun KK hK=> ?_) rN);go_simp
        (go_at_call 61;first|(with_reducible refine tA7 (zAe v x.hdrs a5 E5.out B5.out HK.out) ?_;intro wn h cb hd)|(with_reducible refine tB7 (zAe v x.hdrs a5 E5.out B5.out HK.out) ?_;intro wn h hal cb hd))
        refine zK hK zq34 (fun _=> ?_);clear hK KK
       rotate_left
       focus
        go_simp
        (go_at_call 61;first|(with_reducible refine tA7 (zAe v x.hdrs a5 E5.out B5.out HK.out) ?_;intro wn h cb hd)|(with_reducible refine tB7 (zAe v x.hdrs a5 E5.out B5.out HK.out) ?_;intro wn h hal cb hd))
        refine zK hK zq34 (fun _=> ?_);clear hK KK
        refine wR [1] (rC rfl (fun KK hK=> ?_) rN);go_simp;refine zK hK zq34 (fun _=> ?_);clear hK KK
        refine tR 5 ?_;refine tR 9 ?_;refine tR 13 ?_;refine tR 17 ?_
   rotate_left 5
   focus
    go_simp
    (go_at_call 59;first|(with_reducible refine tA7 (zAA x.off a2 E2.out R2.out) ?_;intro wn h cb hd)|(with_reducible refine tB7 (zAA x.off a2 E2.out R2.out) ?_;intro wn h hal cb hd))
    refine zK hK zq34 (fun _=> ?_);clear hK KK
    refine wR [0,12] (rC rfl (fun KK hK=> ?_) (rC rfl (fun KK hK=> ?_) rN))
    focus
     go_simp;refine zK hK zq34 (fun _=> ?_);clear hK KK
     refine wR [1,12] (rC rfl (fun KK hK=> ?_) (rC rfl (fun KK hK=> ?_) rN))
     focus
      go_simp;refine zK hK zq34 (fun _=> ?_);clear hK KK
      refine tR 5 ?_;refine tR 9 ?_;refine wR [12] (rC rfl (fun KK hK=> ?_) rN);go_simp
      (go_at_call 60;first|(with_reducible refine tA7 (zAb x.key.null x.key.data a3 E3.out B3.out) ?_;intro wn h cb hd)|(with_reducible refine tB7 (zAb x.key.null x.key.data a3 E3.out B3.out) ?_;intro wn h hal cb hd))
      refine zK hK zq34 (fun _=> ?_);clear hK KK
      refine tR 13 ?_;refine wR [16] (rC rfl (fun KK hK=> ?_) rN);go_simp
      (go_at_call 60;first|(with_reducible refine tA7 (zAb x.val.null x.val.data a4 E4.out B4.out) ?_;intro wn h cb hd)|(with_reducible refine tB7 (zAb x.val.null x.val.data a4 E4.out B4.out) ?_;intro wn h hal cb hd))
      refine zK hK zq34 (fun _=> ?_);clear hK KK
      refine tR 17 ?_;refine wR [20] (rC rfl (fun KK hK=> ?_) rN);go_simp
      (go_at_call 61;first|(with_reducible refine tA7 (zAe v x.hdrs a5 E5.out B5.out HK.out) ?_;intro wn h cb hd)|(with_reducible refine tB7 (zAe v x.hdrs a5 E5.out B5.out HK.out) ?_;intro wn h hal cb hd))
      refine zK hK zq34 (fun _=> ?_);clear hK KK
     rotate_left
     focus
      go_simp
      (go_at_call 60;first|(with_reducible refine tA7 (zAb x.key.null x.key.data a3 E3.out B3.out) ?_;intro wn h cb hd)|(with_reducible refine tB7 (zAb x.key.null x.key.data a3 E3.out B3.out) ?_;intro wn h hal cb hd))
      refine zK hK zq34 (fun _=> ?_);clear hK KK
      refine wR [1,16] (rC rfl (fun KK hK=> ?_) (rC rfl (fun KK hK=> ?_) rN))
      focus
       go_simp;refine zK hK zq34 (fun _=> ?_);clear hK KK
       refine tR 5 ?_;refine tR 9 ?_;refine tR 13 ?_;refine wR [16] (rC rfl (fun KK hK=> ?_) rN);go_simp
       (go_at_call 60;first|(with_reducible refine tA7 (zAb x.val.null x.val.data a4 E4.out B4.out) ?_;intro wn h cb hd)|(with_reducible refine tB7 (zAb x.val.null x.val.data a4 E4.out B4.out) ?_;intro wn h hal cb hd))
       refine zK hK zq34 (fun _=> ?_);clear hK KK
       refine tR 17 ?_;refine wR [20] (rC rfl (fun KK hK=> ?_) rN);go_simp
       (go_at_call 61;first|(with_reducible refine tA7 (zAe v x.hdrs a5 E5.out B5.out HK.out) ?_;intro wn h cb hd)|(with_reducible refine tB7 (zAe v x.hdrs a5 E5.out B5.out HK.out) ?_;intro wn h hal cb hd))
       refine zK hK zq34 (fun _=> ?_);clear hK KK
      rotate_left
      focus
       go_simp
       (go_at_call 60;first|(with_reducible refine tA7 (zAb x.val.null x.val.data a4 E4.out B4.out) ?_;intro wn h cb hd)|(with_reducible refine tB7 (zAb x.val.null x.val.data a4 E4.out B4.out) ?_;intro wn h hal cb hd))
       refine zK hK zq34 (fun _=> ?_);clear hK KK
       refine wR [1,20] (rC rfl (fun KK hK=> ?_) (rC rfl (fun KK hK=> ?_) rN))
       focus
        go_simp;refine zK hK zq34 (fun _=> ?_);clear hK KK
        refine tR 5 ?_;refine tR 9 ?_;refine tR 13 ?_;refine tR 17 ?_;refine wR [20] (rC rfl (fun KK hK=> ?_) rN);go_simp
        (go_at_call 61;first|(with_reducible refine tA7 (zAe v x.hdrs a5 E5.out B5.out HK.out) ?_;intro wn h cb hd)|(with_reducible refine tB7 (zAe v x.hdrs a5 E5.out B5.out HK.out) ?_;intro wn h hal cb hd))
        refine zK hK zq34 (fun _=> ?_);clear hK KK
       rotate_left
       focus
        go_simp
        (go_at_call 61;first|(with_reducible refine tA7 (zAe v x.hdrs a5 E5.out B5.out HK.out) ?_;intro wn h cb hd)|(with_reducible refine tB7 (zAe v x.hdrs a5 E5.out B5.out HK.out) ?_;intro wn h hal cb hd))
        refine zK hK zq34 (fun _=> ?_);clear hK KK
        refine wR [1] (rC rfl (fun KK hK=> ?_) rN);go_simp;refine zK hK zq34 (fun _=> ?_);clear hK KK
        refine tR 5 ?_;refine tR 9 ?_;refine tR 13 ?_;refine tR 17 ?_
    rotate_left 4
    focus
     go_simp
     (go_at_call 60;first|(with_reducible refine tA7 (zAb x.key.null x.key.data a3 E3.out B3.out) ?_;intro wn h cb hd)|(with_reducible refine tB7 (zAb x.key.null x.key.data a3 E3.out B3.out) ?_;intro wn h hal cb hd))
     refine zK hK zq34 (fun _=> ?_);clear hK KK
     refine wR [0,16] (rC rfl (fun KK hK=> ?_) (rC rfl (fun KK hK=> ?_) rN))
     focus
      go_simp;refine zK hK zq34 (fun _=> ?_);clear hK KK
      refine wR [1,16] (rC rfl (fun KK hK=> ?_) (rC rfl (fun KK hK=> ?_) rN))
      focus
       go_simp;refine zK hK zq34 (fun _=> ?_);clear hK KK
       refine tR 5 ?_;refine tR 9 ?_;refine tR 13 ?_;refine wR [16] (rC rfl (fun KK hK=> ?_) rN);go_simp
       (go_at_call 60;first|(with_reducible refine tA7 (zAb x.val.null x.val.data a4 E4.out B4.out) ?_;intro wn h cb hd)|(with_reducible refine tB7 (zAb x.val.null x.val.data a4 E4.out B4.out) ?_;intro wn h hal cb hd))
       refine zK hK zq34 (fun _=> ?_);clear hK KK
       refine tR 17 ?_;refine wR [20] (rC rfl (fun KK hK=> ?_) rN);go_simp
       (go_at_call 61;first|(with_reducible refine tA7 (zAe v x.hdrs a5 E5.out B5.out HK.out) ?_;intro wn h cb hd)|(with_reducible refine tB7 (zAe v x.hdrs a5 E5.out B5.out HK.out) ?_;intro wn h hal cb hd))
       refine zK hK zq34 (fun _=> ?_);clear hK KK
      rotate_left
      focus
       go_simp
       (go_at_call 60;first|(with_reducible refine tA7 (zAb x.val.null x.val.data a4 E4.out B4.out) ?_;intro wn h cb hd)|(with_reducible refine tB7 (zAb x.val.null x.val.data a4 E4.out B4.out) ?_;intro wn h hal cb hd))
       refine zK hK zq34 (fun _=> ?_);clear hK KK
       refine wR [1,20] (rC rfl (fun KK hK=> ?_) (rC rfl (fun KK hK=> ?_) rN))
       focus
        go_simp;refine zK hK zq34 (fun _=> ?_);clear hK KK
        refine tR 5 ?_;refine tR 9 ?_;refine tR 13 ?_;refine tR 17 ?_;refine wR [20] (rC rfl (fun KK hK=> ?_) rN);go_simp
        (go_at_call 61;first|(with_reducible refine tA7 (zAe v x.hdrs a5 E5.out B5.out HK.out) ?_;intro wn h cb hd)|(with_reducible refine tB7 (zAe v x.hdrs a5 E5.out B5.out HK.out) ?_;intro wn h hal cb hd))
        refine zK hK zq34 (fun _=> ?_);clear hK KK
       rotate_left
       focus
        go_simp
        (go_at_call 61;first|(with_reducible refine tA7 (zAe v x.hdrs a5 E5.out B5.out HK.out) ?_;intro wn h cb hd)|(with_reducible refine tB7 (zAe v x.hdrs a5 E5.out B5.out HK.out) ?_;intro wn h hal cb hd))
        refine zK hK zq34 (fun _=> ?_);clear hK KK
        refine wR [1] (rC rfl (fun KK hK=> ?_) rN);go_simp;refine zK hK zq34 (fun _=> ?_);clear hK KK
        refine tR 5 ?_;refine tR 9 ?_;refine tR 13 ?_;refine tR 17 ?_
     rotate_left 3
     focus
      go_simp
      (go_at_call 60;first|(with_reducible refine tA7 (zAb x.val.null x.val.data a4 E4.out B4.out) ?_;intro wn h cb hd)|(with_reducible refine tB7 (zAb x.val.null x.val.data a4 E4.out B4.out) ?_;intro wn h hal cb hd))
      refine zK hK zq34 (fun _=> ?_);clear hK KK
      refine wR [0,20] (rC rfl (fun KK hK=> ?_) (rC rfl (fun KK hK=> ?_) rN))
      focus
       go_simp;refine zK hK zq34 (fun _=> ?_);clear hK KK
       refine wR [1,20] (rC rfl (fun KK hK=> ?_) (rC rfl (fun KK hK=> ?_) rN))
       focus
        go_simp;refine zK hK zq34 (fun _=> ?_);clear hK KK
        refine tR 5 ?_;refine tR 9 ?_;refine tR 13 ?_;refine tR 17 ?_;refine wR [20] (rC rfl (fun KK hK=> ?_) rN);go_simp
        (go_at_call 61;first|(with_reducible refine tA7 (zAe v x.hdrs a5 E5.out B5.out HK.out) ?_;intro wn h cb hd)|(with_reducible refine tB7 (zAe v x.hdrs a5 E5.out B5.out HK.out) ?_;intro wn h hal cb hd))
        refine zK hK zq34 (fun _=> ?_);clear hK KK
       rotate_left
       focus
        go_simp
        (go_at_call 61;first|(with_reducible refine tA7 (zAe v x.hdrs a5 E5.out B5.out HK.out) ?_;intro wn h cb hd)|(with_reducible refine tB7 (zAe v x.hdrs a5 E5.out B5.out HK.out) ?_;intro wn h hal cb hd))
        refine zK hK zq34 (fun _=> ?_);clear hK KK
        refine wR [1] (rC rfl (fun KK hK=> ?_) rN);go_simp;refine zK hK zq34 (fun _=> ?_);clear hK KK
        refine tR 5 ?_;refine tR 9 ?_;refine tR 13 ?_;refine tR 17 ?_
      rotate_left 2
      focus
       go_simp
       (go_at_call 61;first|(with_reducible refine tA7 (zAe v x.hdrs a5 E5.out B5.out HK.out) ?_;intro wn h cb hd)|(with_reducible refine tB7 (zAe v x.hdrs a5 E5.out B5.out HK.out) ?_;intro wn h hal cb hd))
       refine zK hK zq34 (fun _=> ?_);clear hK KK
       refine wR [0] (rC rfl (fun KK hK=> ?_) rN);go_simp;refine zK hK zq34 (fun _=> ?_);clear hK KK
       refine wR [1] (rC rfl (fun KK hK=> ?_) rN);go_simp;refine zK hK zq34 (fun _=> ?_);clear hK KK
       refine tR 5 ?_;refine tR 9 ?_;refine tR 13 ?_;refine tR 17 ?_
  all_goals
   refine tR 21 ?_;refine tR 22 ?_;refine wpAnyH_done kR ?_ _;have h2:=(show St W0 _ K (.raw wA _ _::L) by assumption);go_wp2_with fail;go_meet;exact⟨by rw[HF.out];rfl,h2⟩
 case rest=>
  obtain⟨hu,h⟩:=hcut;subst hu;have H:=hQd h;clear h hst hst2 hst3 cb c0 c1 c2 c3 c4 c5 c6;go_wp2_with (go_at_call 59;refine(zAA _ a6 E6.out R6.out H.out).zM ?_;clear H;intro wn H);go_ret;exact⟨by rw[HSE.out];first|rfl|simp,H.out.drop⟩
variable {W0 w:World}{K:Know}{L:List Res}
theorem zGC{P:Program}{o:Oper}{a:Act}{w w':World}{v:Value}{KK:Act→World→Prop}{Q:Exit→Act→World→Prop}(hr:(execOp a.eval o).run P w=.ok (.value v) w')(h:KK (a.put o.dst v) w'):o.wp P a w KK Q:=by
 unfold Oper.wp;rw[hr];exact h
theorem zRp(n0 n1 n2 n3 n4 n5 n6 n7 n8 n9 n10 n11:Int)(w:World):(Instr.buildSlice 23 12 #[(0,I O n0),(1,I O n1),(2,I O n2),(3,I O n3),(4,I O n4),(5,I O n5),(6,I O n6),(7,I O n7),(8,I O n8),(9,I O n9),(10,I O n10),(11,I O n11)]).run Jd w=.ok (Ja (some ⟨w.heap.size,0,none⟩) 12 12) (w.alloc (.cells #[I O n0,I O n1,I O n2,I O n3,I O n4,I O n5,I O n6,I O n7,I O n8,I O n9,I O n10,I O n11] 3 (0,0))):=by go_simp
theorem zSy{v:Value}{w w':World}(s:Sem Value)(hb:s.run Jd w=.ok v w'):(do pure (Next.value (←s)):Sem Next).run Jd w=.ok (.value v) w':=by go_simp
theorem zI0{o:Oper}{ρ:Operand→Value}(ps:Array (Nat×Value))(v:Value)(w w':World)(ho:execOp ρ o=(do pure (Next.value (←Instr.buildSlice 23 12 ps))))(hb:(Instr.buildSlice 23 12 ps).run Jd w=.ok v w'):(execOp ρ o).run Jd w=.ok (.value v) w':=by
 rw[ho];exact zSy _ hb
theorem zKE(bl:Nat)(b:BatS)(sm:Int)(rows:Bs)(hrw:b.rowsB=rows)(at_:Int)(hat:zAI b.app b.txn b.ctl 3=at_)(n:Nat)(hn:b.recs.length=n)(said:Bs)(hsaid:zAj (b.pre sm).items=said)(hfit:FitsAll (b.pre sm).items)(hR:(b.pre sm).R)(h:St W0 w K (.raw bl #[I O b.base,I O (49+rows.length),I O b.leader,I O sm,I O at_,I O b.last,I O b.first,I O b.maxt,I O b.prod,I O b.epoch,I O b.seq,I O n] 3::L)):
 Calls Jd 29 #[Ja (some ⟨bl,0,none⟩) 12 12] w fun en w'=>en=Jb (.tuple #[Z (bb said),U true])∧St W0 w' K (.raw bl #[I O b.base,I O (49+rows.length),I O b.leader,I O sm,I O at_,I O b.last,I O b.first,I O b.maxt,I O b.prod,I O b.epoch,I O b.seq,I O n] 3::L):=by
 subst hrw hat hn hsaid;have e:zCq (b.pre sm)=(zAj (b.pre sm).items,true):=if_pos hfit;have c:=zMa bl (b.pre sm) hR h;rw[e]at c;exact c
theorem zIz(base leader:Int)(app txn ctl:Bool)(last first maxt prod epoch sq:Int)(rv:Value)(r:Int)(hr:zAI app txn ctl 3=r)(h:St W0 w K L):
 Calls Jd 30 #[.agg #[I O base,I O leader,U app,U txn,U ctl,I O last,I O first,I O maxt,I O prod,I O epoch,I O sq,rv]] w fun en w'=>en=Jb (I O r)∧St W0 w' K L:=by
 obtain⟨hb,hhb⟩:=eX w.heap.size;have h1:=h.allocRaw #[I O base,I O leader,U app,U txn,U ctl,I O last,I O first,I O maxt,I O prod,I O epoch,I O sq,rv] 30;rw[hhb]at h1;obtain⟨x0,x1,x2,x3,x4,x5,x6,x7,x8,x9,x10,x11,y0,y1,y2,y3,y4,y5,y6,y7,y8,y9,y10,y11⟩:=zAd (b:=hb) (h1);have H:=hQd h1;subst hr;clear h h1
 cases app<;>cases txn<;>cases ctl
 all_goals
  go_enter Tryz.func30,Tryz.ntmps30;go_wp2;go_ret;exact⟨by kernel_rfl,H.out.drop⟩
theorem zFv(s:Bs)(hs:s.length≤1000000)(x:Nat)(hx:(zAq 0#32 s).toNat=x)(h:St W0 w K L):
 Calls Jd 31 #[Z (bb s)] w fun en w'=>en=Jb (.int .u32 x)∧St W0 w' K L:=by
 subst hx;exact zOr s hs h
def zAo (R:Bs):Except Int (Option (BatS×Nat)):=
  if R.length<61 then .ok none else match zAR R with
  | .error e=> .error e
  | .ok x=>if R.length<61+(x.len - 49).toNat then .ok none else match asmB x (R.take 61) ((R.drop 61).take (x.len - 49).toNat)with
    | .error e=> .error e
    | .ok b=> .ok (some (b,61+(x.len - 49).toNat))
theorem zEO(R M:Bs)(h:61≤R.length):zAR (R++M)=zAR R:=by
 rw[←zBM (R++M) (by rw[Je];omega),←zBM R h,List.take_append_of_le_length h]
theorem zQP{R:Bs}(M:Bs)(h:zAo R≠.ok none):zAo (R++M)=zAo R:=by
 unfold zAo at h ⊢
 by_cases c1:R.length<61
 ·rw[if_pos c1]at h;exact absurd rfl h
 rw[if_neg c1]at h ⊢;rw[if_neg (by rw[Je];omega),zEO R M oM]
 cases hp:zAR R with
 |error e2=>rfl
 |ok x=>
  rw[hp]at h;simp only at h ⊢
  by_cases c2:R.length<61+(x.len - 49).toNat
  ·rw[if_pos c2]at h;exact absurd rfl h
  rw[if_neg c2];rw[if_neg (by rw[Je];omega),List.take_append_of_le_length oM,List.drop_append_of_le_length oM,List.take_append_of_le_length (by rw[Jf];omega)]
theorem zIY{R:Bs}{e:Int}(h:zAo R=.error e):e≠0:=by
 unfold zAo at h
 by_cases c1:R.length<61
 ·rw[if_pos c1]at h;cases h
 rw[if_neg c1]at h
 cases hp:zAR R with
 |error e2=>rw[hp]at h;cases h;exact zDG hp
 |ok x=>
  rw[hp]at h;simp only at h
  by_cases c2:R.length<61+(x.len - 49).toNat
  ·rw[if_pos c2]at h;cases h
  rw[if_neg c2]at h
  cases ha:asmB x (R.take 61) ((R.drop 61).take (x.len - 49).toNat)with
  |error e2=>rw[ha]at h;cases h;exact zKe ha
  |ok b=>rw[ha]at h;cases h
def zRD (N:Nat) (b:BatS):Prop:=b.recs.length≤N∧∀x∈b.recs,x.sum≤N
theorem zFM{R:Bs}{b:BatS}{n:Nat}(h:zAo R=.ok (some (b,n))):(61≤n∧n≤R.length)∧zRD R.length b:=by
 unfold zAo at h
 by_cases c1:R.length<61
 ·rw[if_pos c1]at h;cases h
 rw[if_neg c1]at h
 cases hp:zAR R with
 |error e2=>rw[hp]at h;cases h
 |ok x=>
  rw[hp]at h;simp only at h
  by_cases c2:R.length<61+(x.len - 49).toNat
  ·rw[if_pos c2]at h;cases h
  rw[if_neg c2]at h
  cases ha:asmB x (R.take 61) ((R.drop 61).take (x.len - 49).toNat)with
  |error e2=>rw[ha]at h;cases h
  |ok b2=>
   rw[ha]at h
   cases h
   refine⟨⟨oM,oM⟩,?_⟩;obtain⟨_,_,rs,hu,_,hb⟩:=zKd ha;obtain⟨_,h2,h3⟩:=zFi _ _ 0 rs (Ji _) hu;rw[Jk,Jf]at h2;have hr:b.recs=rs:=by rw[hb]
   refine⟨by rw[hr];omega,fun y hy=> ?_⟩;have:=(h3 y (by rw[←hr];exact hy)).2.2;rw[Jk,Jf]at this
   omega
theorem zT4{R:Bs}{b:BatS}{n k:Nat}(h:zAo R=.ok (some (b,n)))(hk:n≤k):zAo (R.take k)=.ok (some (b,n)):=by
 by_cases hkl:R.length≤k
 ·rw[Jj hkl];exact h
 by_cases hn:zAo (R.take k)=.ok none
 ·exfalso
  have hs:=h;unfold zAo at hs hn
  by_cases c1:R.length<61
  ·rw[if_pos c1]at hs;cases hs
  have h61:=(zFM h).1;have hl:(R.take k).length=k:=by rw[Jk];omega
  rw[if_neg c1]at hs;rw[if_neg (by rw[hl];omega)]at hn;have hpp:=zEO (R.take k) (R.drop k) (by rw[hl];omega);rw[List.take_append_drop]at hpp;rw[←hpp]at hn
  cases hp:zAR R with
  |error e2=>rw[hp]at hs;cases hs
  |ok x=>
   rw[hp]at hs hn;simp only at hs hn
   by_cases c2:R.length<61+(x.len - 49).toNat
   ·rw[if_pos c2]at hs;cases hs
   rw[if_neg c2]at hs
   have hm:61+(x.len - 49).toNat=n:=by
    cases ha:asmB x (R.take 61) ((R.drop 61).take (x.len - 49).toNat)with
    |error e2=>rw[ha]at hs;cases hs
    |ok b2=>rw[ha]at hs;cases hs;rfl
   rw[if_neg (by rw[hl];omega)]at hn
   cases ha:asmB x ((R.take k).take 61) (((R.take k).drop 61).take (x.len - 49).toNat)with
   |error e2=>rw[ha]at hn;cases hn
   |ok b2=>rw[ha]at hn;cases hn
 ·have:=zQP (R.drop k) hn;rw[List.take_append_drop]at this;rw[←this];exact h
def zGe:Nat→Bs→List BatS×Bs×Int
 |0,R=>([],R,0)
 |f+1,R=>match zAo R with
  | .error e=>([],R,e)
  | .ok none=>([],R,0)
  | .ok (some y)=>(y.1::(zGe f (R.drop y.2)).1,(zGe f (R.drop y.2)).2)
theorem zIx:∀(f g:Nat) (R:Bs),R.length≤f→R.length≤g→zGe f R=zGe g R:=by
 intro f
 induction f with
 |zero=>
  intro g R h1 _;have h0:zAo R=.ok none:=by unfold zAo;rw[if_pos oM]
  cases g with
  |zero=>rfl
  |succ g=>unfold zGe;rw[h0]
 |succ f ih=>
  intro g R h1 h2
  cases g with
  |zero=>
   have h0:zAo R=.ok none:=by unfold zAo;rw[if_pos oM]
   unfold zGe;rw[h0]
  |succ g=>
   unfold zGe
   cases hf:zAo R with
   |error e=>rfl
   |ok o=>
    cases o with
    |none=>rfl
    |some y=>
     obtain⟨b,n⟩:=y;have h3:=(zFM hf).1;simp only;rw[ih g (R.drop n) (by rw[Jf];omega) (by rw[Jf];omega)]
def zAt (R:Bs):List BatS×Bs×Int:=zGe R.length R
theorem zFm(R:Bs):zAt R=match zAo R with
 | .error e=>([],R,e)
 | .ok none=>([],R,0)
 | .ok (some y)=>(y.1::(zAt (R.drop y.2)).1,(zAt (R.drop y.2)).2):=by
 have h1:zAt R=zGe (R.length+1) R:=zIx _ _ R (Jo _) oM;rw[h1]
 show(match zAo R with
  | .error e=>([],R,e)
  | .ok none=>([],R,0)
  | .ok (some y)=>(y.1::(zGe R.length (R.drop y.2)).1,(zGe R.length (R.drop y.2)).2))=_
 cases hf:zAo R with
 |error e=>rfl
 |ok o=>
  cases o with
  |none=>rfl
  |some y=>
   have:zGe R.length (R.drop y.2)=zAt (R.drop y.2):=zIx _ _ _ (by rw[Jf];omega) (Jo _);simp only;rw[this]
theorem zBY{R:Bs}{b:BatS}{n:Nat}(h:zAo R=.ok (some (b,n))):zAt R=(b::(zAt (R.drop n)).1,(zAt (R.drop n)).2):=by
 rw[zFm,h]
theorem zAU{R:Bs}(h:zAo R=.ok none):zAt R=([],R,0):=by rw[zFm,h]
theorem zDA{R:Bs}{e:Int}(h:zAo R=.error e):zAt R=([],R,e):=by rw[zFm,h]
theorem zNl(M:Bs):∀(f:Nat) (R:Bs),R.length≤f→zAt (R++M)=if (zAt R).2.2≠0 then((zAt R).1,(zAt R).2.1++M,(zAt R).2.2)else((zAt R).1++(zAt ((zAt R).2.1++M)).1,(zAt ((zAt R).2.1++M)).2):=by
 intro f
 induction f with
 |zero=>
  intro R h;have h0:zAo R=.ok none:=by unfold zAo;rw[if_pos oM]
  rw[zAU h0]
  simp
 |succ f ih=>
  intro R h
  cases hf:zAo R with
  |error e=>
   have h1:=zQP M (by rw[hf];simp:zAo R≠.ok none);rw[hf]at h1;rw[zDA h1,zDA hf];simp only;rw[if_pos (zIY hf)]
  |ok o=>
   cases o with
   |none=>
    rw[zAU hf]
    simp
   |some y=>
    obtain⟨b,n⟩:=y;have h1:=zQP M (by rw[hf];simp:zAo R≠.ok none);rw[hf]at h1;have h3:=(zFM hf).1;rw[zBY h1,zBY hf,List.drop_append_of_le_length h3.2,ih (R.drop n) (by rw[Jf];omega)];simp only
    by_cases c:(zAt (R.drop n)).2.2≠0
    ·rw[if_pos c,if_pos c]
    ·rw[if_neg c,if_neg c,List.cons_append]
theorem zDz:∀(f:Nat) (R:Bs),R.length≤f→∃k,k≤R.length∧(zAt R).2.1=R.drop k∧((zAt R).2.2=0→zAo (R.drop k)=.ok none)∧((zAt R).2.2≠0→zAo (R.drop k)=.error (zAt R).2.2)∧zAt (R.take k)=((zAt R).1,[],0)∧(∀b∈(zAt R).1,zRD R.length b)∧61*(zAt R).1.length≤k:=by
 intro f
 induction f with
 |zero=>
  intro R h;have h0:zAo R=.ok none:=by unfold zAo;rw[if_pos oM]
  refine⟨0,Ji _,?_⟩;rw[zAU h0,List.drop_zero,List.take_zero];exact⟨rfl,fun _=>h0,fun hh=>absurd rfl hh,zAU (by unfold zAo;rw[if_pos dD]),(fun b hb=>by cases hb),by simp⟩
 |succ f ih=>
  intro R h
  cases hf:zAo R with
  |error e=>
   refine⟨0,Ji _,?_⟩;rw[zDA hf,List.drop_zero,List.take_zero];exact⟨rfl,fun hh=>absurd hh (zIY hf),fun _=>hf,zAU (by unfold zAo;rw[if_pos dD]),(fun b hb=>by cases hb),by simp⟩
  |ok o=>
   cases o with
   |none=>
    refine⟨0,Ji _,?_⟩;rw[zAU hf,List.drop_zero,List.take_zero];exact⟨rfl,fun _=>hf,fun hh=>absurd rfl hh,zAU (by unfold zAo;rw[if_pos dD]),(fun b hb=>by cases hb),by simp⟩
   |some y=>
    obtain⟨b,n⟩:=y;obtain⟨h3,hlb⟩:=zFM hf;obtain⟨k,a1,a2,a3,a4,a5,a6,a7⟩:=ih (R.drop n) (by rw[Jf];omega);rw[Jf]at a1;rw[List.drop_drop]at a2 a3 a4;refine⟨n+k,oM,?_⟩;rw[zBY hf];refine⟨a2,a3,a4,?_,?_,by simp only[Jg];omega⟩
    ·have h4:zAo (R.take (n+k))=.ok (some (b,n)):=zT4 hf oM;have h5:(R.take (n+k)).drop n=(R.drop n).take k:=by rw[List.drop_take,Nat.add_sub_cancel_left]
     rw[zBY h4,h5,a5]
    ·intro x hx
     rcases List.mem_cons.1 hx with rfl|hx
     ·exact hlb
     ·have:=a6 x hx;rw[Jf]at this;exact⟨by have:=this.1;omega,fun z hz=>by have:=this.2 z hz;omega⟩
def finS (R:Bs):List BatS×Nat×Bs×Int:=((zAt R).1,R.length - (zAt R).2.1.length,(if (zAt R).2.2≠0 then[]else(zAt R).2.1),(zAt R).2.2)
theorem zMD:finS []=([],0,[],0):=by
 have h0:zAo []=.ok none:=by unfold zAo;rw[if_pos dD]
 unfold finS;rw[zAU h0]
 rfl
theorem zT8(R c:Bs)(h:(finS R).2.2.2≠0):finS (R++c)=finS R:=by
 have h0:(zAt R).2.2≠0:=h;obtain⟨k,a1,a2,_⟩:=zDz _ R (Jo _);unfold finS;rw[zNl c _ R (Jo _),if_pos h0];simp only;rw[if_pos h0,if_pos h0,Je,Je]
 congr 2
 rw[a2,Jf]
 omega
theorem zSv(R c:Bs)(h:(finS R).2.2.2=0):finS (R++c)=((finS R).1++(zAt ((finS R).2.2.1++c)).1,(finS R).2.1+(((finS R).2.2.1++c).length - (zAt ((finS R).2.2.1++c)).2.1.length),(if (zAt ((finS R).2.2.1++c)).2.2≠0 then[]else(zAt ((finS R).2.2.1++c)).2.1),(zAt ((finS R).2.2.1++c)).2.2):=by
 have h0:¬(zAt R).2.2≠0:=by
  have:(zAt R).2.2=0:=h;rw[this];simp
 obtain⟨k,a1,a2,_⟩:=zDz _ R (Jo _);have hr:(finS R).2.2.1=(zAt R).2.1:=by unfold finS;simp only;rw[if_neg h0]
 have hv:(finS R).2.1=R.length - (zAt R).2.1.length:=rfl;have hb:(finS R).1=(zAt R).1:=rfl;rw[hr,hv,hb];unfold finS;rw[zNl c _ R (Jo _),if_neg h0];simp only
 congr 2
 obtain⟨k2,b1,b2,_⟩:=zDz _ ((zAt R).2.1++c) (Jo _);rw[Je]at b1;have l2:=congrArg Jh b2;rw[Jf,Je]at l2;have l1:=congrArg Jh a2;rw[Jf]at l1;rw[Je,Je]
 omega
def zCP (rest:Bs) (e:Int):Int:=if e≠0 then 2 else if rest≠[]then 1 else 0
theorem zSM(a:Int)(h:chk a=0):zAI (zAg a 3) (zAg a 4) (zAg a 5) 3=a∧(zAg a 5=true→zAg a 4=true):=by
 have hr:0≤a∧a≤63:=by
  unfold chk at h
  split at h
  ·cases h
  ·split at h
   ·cases h
   ·rename_i _ h2
    simp only[Bool.or_eq_true,decide_eq_true_eq,not_or]at h2
    omega
 have key:∀k:Fin 64,chk (k.val:Int)=0→zAI (zAg k.val 3) (zAg k.val 4) (zAg k.val 5) 3=k.val∧(zAg k.val 5=true→zAg k.val 4=true):=by decide
 have:=key ⟨a.toNat,oM⟩;simp only at this;rw[show((a.toNat:Nat):Int)=a by omega]at this;exact this h
theorem zKq(v:Int)(h: -2147483648≤v∧v<2147483648):zAE (v % 4294967296)=v:=by
 unfold zAE;rw[if_neg oM]
 split<;>omega
theorem zOI{s:Bs}(h:61≤s.length)(h2:(preX s).2=2):zAj (preX s).1.items=s.take 61:=by
 have e:=zI1 zA0 s h;have hs:zA0.sum=61:=rfl;rw[hs]at e;rw[←e];have h4:=zBZ ((s.drop 17).take 4) (by rw[Jk];omega);have h5:=zKq _ h4
 have e2:zBX zA0 s=[sInt (s.take 8),sInt ((s.drop 8).take 4),sInt ((s.drop 12).take 4),sInt ((s.drop 16).take 1),sInt ((s.drop 17).take 4),sInt ((s.drop 21).take 2),sInt ((s.drop 23).take 4),sInt ((s.drop 27).take 8),sInt ((s.drop 35).take 8),sInt ((s.drop 43).take 8),sInt ((s.drop 51).take 2),sInt ((s.drop 53).take 4),sInt ((s.drop 57).take 4)]:=by
  unfold zA0;simp only[zBX,List.drop_drop,Nat.reduceAdd]
 unfold preX at h2 ⊢;rw[e2]at h2 ⊢;have h3:sInt ((s.drop 16).take 1)=2:=h2;rw[h3]
 show zAj (PreS.items ⟨_,_,_,sInt ((s.drop 17).take 4) % 4294967296,_,_,_,_,_,_,_,_⟩)=_
 unfold PreS.items;simp only[h5]
 rfl
theorem zPl:∀(n:Nat) (rows:Bs) (pos:Nat) (rs:List RecS),pos≤rows.length→unp n ⟨rows,pos,0⟩=.ok rs→rows.drop pos=rs.flatMap encR
 |0,rows,pos,rs,hp,h=>by
  have h:(if (⟨rows,pos,0⟩:InS).left=0 then Except.ok []else Except.error (10:Int))=Except.ok rs:=h
  by_cases c1:(⟨rows,pos,0⟩:InS).left=0
  ·rw[if_pos c1]at h
   cases h
   have c2:rows.length - pos=0:=c1;rw[List.drop_of_length_le oM]
   rfl
  ·rw[if_neg c1]at h;cases h
 |n+1,rows,pos,rs,hp,h=>by
  have h:(if (⟨rows,pos,0⟩:InS).left=0 then .error 10 else if (⟨rows,pos,0⟩:InS).record.2.err=0 then zE7 (⟨rows,pos,0⟩:InS).record.1 (unp n (⟨rows,pos,0⟩:InS).record.2)else .error (⟨rows,pos,0⟩:InS).record.2.err)=.ok rs:=h
  by_cases c1:(⟨rows,pos,0⟩:InS).left=0
  ·rw[if_pos c1]at h;cases h
  rw[if_neg c1]at h
  cases hr:zCQ (rows.drop pos)with
  |error e=>
   exact y6
  |ok y=>
   obtain⟨x,m⟩:=y;obtain⟨hpm,hf⟩:=zDH.ok rows pos x m hp hr;rw[hf]at h;simp only[if_true]at h
   cases hu:unp n ⟨rows,pos+m,0⟩with
   |error e=>rw[hu]at h;cases h
   |ok t=>
    rw[hu]at h;have h:Except.ok (x::t)=Except.ok rs:=h;injection h with h;subst h;have i1:=zPl n rows (pos+m) t hpm hu;have j1:=(zEN hr).1;rw[List.flatMap_cons,←i1,j1,←List.drop_drop,List.take_append_drop]
theorem zP8{s:Bs}{b:BatS}{n:Nat}(h:zBT s=.ok (b,n)):b.enc=s.take n∧zAh b=0∧b.rowsB.length≤s.length∧b.recs.length≤s.length∧∀x∈b.recs,x.R∧zA8 x=0∧x.sum≤s.length:=by
 obtain⟨x,hp,hn,hns,ha⟩:=zDW h;obtain⟨p1,p2,p3,p4,p5⟩:=zB5 hp;obtain⟨a1,a2,rs,a3,a4,a5⟩:=zKd ha;obtain⟨k,hk⟩:=eX ((x.len - 49).toNat);rw[hk]at hn a1 a3;obtain⟨rows,hrw⟩:=eX ((s.drop 61).take k);rw[hrw]at a1 a3;have hrl:rows.length=k:=by rw[←hrw,Jk,Jf];omega
 have u1:=zPl _ _ _ _ (Ji _) a3;obtain⟨u2,u3,u4⟩:=zFi _ _ _ _ (Ji _) a3;rw[List.drop_zero]at u1;have hrb:b.rowsB=rows:=by rw[u1,a5];rfl
 have hrc:b.recs=rs:=by rw[a5]
 obtain⟨at1,at2⟩:=zSM x.attr a2
 have hpre:b.pre x.sum=x:=by
  unfold BatS.pre;rw[hrb,hrc,hrl,u2];rw[a5];simp only;rw[at1,show 49+((k:Nat):Int)=x.len by omega,show((x.count.toNat:Nat):Int)=x.count by omega]
 have hby:=zOI p1 p3
 rw[p2]at hby
 have hbk:(s.take 61).drop 21=b.back:=by rw[←hby,←hpre,b.pre_drop]
 have hcr:(b.crc:Int)=x.sum:=by
  unfold BatS.crc;rw[←hbk,hrb];exact a1
 refine⟨?_,by rw[a5];exact a4,by rw[hrb,hrl];omega,by rw[hrc];omega,fun y hy=> ?_⟩
 ·unfold BatS.enc;rw[hcr,hpre,hby,hrb,←hrw,hn,List.take_add]
 ·rw[hrc]at hy;obtain⟨v1,v2,v3⟩:=u4 y hy;exact⟨v1,v2,oM⟩
theorem zQl{s:Bs}{x:PreS}(h:zAR s=.ok x):Rn x.base∧Rn x.leader∧Rn x.last∧Rn x.first∧Rn x.maxt∧Rn x.prod∧Rn x.epoch∧Rn x.seq:=by
 obtain⟨h1,h2,_,h3,h4⟩:=zB5 h;rw[zHn]at h2;have h2:=h2.symm;subst h2;have r:∀(k m:Nat),m≤8→Rn (sInt ((s.drop k).take m)):=fun k m hm=>zCY _ (by rw[Jk];omega)
 exact⟨r 0 8 dD,r 12 4 dD,r 23 4 dD,r 27 8 dD,r 35 8 dD,r 43 8 dD,r 51 2 dD,r 53 4 dD⟩
structure MidOk (b:BatS):Prop where
 fit:∀x∈b.recs,x.R∧zA8 x=0∧x.sum≤2000
 len:b.recs.length≤1000
 err:zAh b=0
 rng:b.R
 rows:b.rowsB.length≤2000
theorem zNr:∀(l:List RecS),2*l.length≤(l.flatMap encR).length
 |[]=>by simp
 |x::t=>by
  have h1:=zNr t
  have h2:2≤(encR x).length:=by
   have h3:=zJT x.key;have h4:2≤(recF x).length:=by unfold recF;simp only[Je,Jg,Jl];omega
   show 2≤(putU _++recF x).length
   rw[Je]
   omega
  rw[List.flatMap_cons,Je,Jg]
  omega
theorem MidOk.of{s:Bs}{b:BatS}{n:Nat}(h:zBT s=.ok (b,n))(hl:s.length≤1500):MidOk b:=by
 obtain⟨h1,h2,h3,h4,h5⟩:=zP8 h;obtain⟨x,hp,_,_,ha⟩:=zDW h;obtain⟨_,_,rs,_,_,hb⟩:=zKd ha;have hr:=zQl hp;have h6:=zNr b.recs;have h7:(b.recs.flatMap encR).length=b.rowsB.length:=rfl;refine⟨fun y hy=> ?_,oM,h2,?_,oM⟩
 ·obtain⟨v1,v2,v3⟩:=h5 y hy;exact⟨v1,v2,oM⟩
 ·rw[hb];exact hr
theorem fs_nil:zAo []=.ok none:=by unfold zAo;rw[if_pos dD]
set_option maxRecDepth 1000000
structure EncOk (b:BatS):Prop where
 rows:b.rowsB.length≤400000
 len:b.recs.length≤1000
 err:zAh b=0
 rng:b.R
 recs:∀x∈b.recs,x.R∧zA8 x=0∧x.sum≤1000000
theorem EncOk.small{b:BatS}(h:SmallOk b):EncOk b:=⟨h.rows,by have:=h.len;omega,h.err,h.rng,h.recs⟩
theorem y2{p:Prop}(h:p:=by
  have het:=zHQ l k hlt
  have hpl:(zA5 (l.take k)).length≤rows.length:=by
   rw[←HRE.out]
   conv=>rhs;rw[←List.take_append_drop k l]
   unfold zA5;rw[List.flatMap_append,Je]
   omega
  have hpl2:(zA5 (l.take (k+1))).length≤rows.length:=by
   rw[←HRE.out]
   conv=>rhs;rw[←List.take_append_drop (k+1) l]
   unfold zA5;rw[List.flatMap_append,Je]
   omega
  obtain⟨b0,off,hqq⟩:=zBH HK.out H.out oM;subst hqq;obtain⟨⟨x,vx⟩,hx⟩:∃x,l[k]=x:=⟨_,rfl⟩;have cc:=zAQ HK.out H.out k hlt (x,vx) hx;have hmem:(x,vx)∈l:=hx ▸ Jp hlt;have XF:=HXS.out (x,vx) hmem;have XF1:=hQd XF.1;have XF2:=hQd XF.2;clear XF;have xk:K.has (Know.flat RHdr vx 3 x.hdrs):=zAX HK.out hmem;obtain⟨qx,capx,hvx⟩:=zAw xk H.out;subst hvx;have XK:=hQd xk;simp only at cc;obtain⟨c0,c1,c2,c3,c4,c5,c6⟩:=cc;rw[←Jm]at c1 c2 c3 c4 c5 c6;obtain⟨sx,hsx⟩:=eX (encR x);have HSX:=hQd hsx;rw[hx]at het;simp only[hsx]at het;obtain⟨pre,hpre⟩:=eX (zA5 (l.take k));obtain⟨nxt,hnxt⟩:=eX (zA5 (l.take (k+1)));rw[hpre]at het hpl ⊢;rw[hnxt]at het hpl2;have HNXT:=hQd hnxt;have hcat:bb pre++bb sx=bb nxt:=by rw[het];exact zAc _ _
  have hg:¬(9223372036854775807<pre.length+sx.length):=by
   have h1:=HRN.out;have h2:=congrArg Jh het;rw[Je]at h2
   omega
  have hki:(k:Int)<(l.length:Int):=by omega
  have hl12:(l.length:Int)≤1000:=by have:=HLN.out;omega
  obtain⟨x0,x1,x2,x3,x4,x5,x6,x7,x8,x9,x10,x11,y0,y1,y2,y3,y4,y5,y6,y7,y8,y9,y10,y11⟩:=zAd (b:=hb) (H.out);clear xk hmem hx hsx het hpl hpl2 hpre hnxt;go_wp2_with (go_at_call 28;(with_reducible refine(zMb x (Ja qx x.hdrs.length capx) sx HSX.out XF1.out XF2.out XK.out H.out).zM ?_);clear H;intro wn H);go_roundw
  case rel=>exact⟨k+1,hlt,by go_num,by rw[HNXT.out],H.out⟩
  case measure=>first|(simp[intOf];done)|(simp[intOf];omega)):p:=h
theorem zEJ(b:BatS)(s:Bs)(hs:b.enc=s)(l:List (RecS×Value))(q:Option Addr)(cap:Nat)(hl:l.map (·.1)=b.recs)(so:EncOk b){W0 w:World}{K:Know}{L:List Res}(hk:K.has (Know.recs (Ja q l.length cap) l))(h:St W0 w K L):
 Calls Jd 10 #[.agg #[I O b.base,I O b.leader,U b.app,U b.txn,U b.ctl,I O b.last,I O b.first,I O b.maxt,I O b.prod,I O b.epoch,I O b.seq,Ja q l.length cap]] w fun en w'=>en=Jb (Z (bb s))∧St W0 w' K L:=by
 obtain⟨hb,hhb⟩:=eX w.heap.size;have h1:=h.allocRaw #[I O b.base,I O b.leader,U b.app,U b.txn,U b.ctl,I O b.last,I O b.first,I O b.maxt,I O b.prod,I O b.epoch,I O b.seq,Ja q l.length cap] 30;rw[hhb]at h1;obtain⟨x0,x1,x2,x3,x4,x5,x6,x7,x8,x9,x10,x11,y0,y1,y2,y3,y4,y5,y6,y7,y8,y9,y10,y11⟩:=zAd (b:=hb) (h1);have H:=hQd h1;have HK:=hQd hk;have hrn:=so.rows;have hre:zA5 l=b.rowsB:=by rw[zCE,hl];rfl
 obtain⟨rows,hrows⟩:=eX b.rowsB;have hcr:=b.crc_lt;have hln:=so.len;obtain⟨at_,hat⟩:=eX (zAI b.app b.txn b.ctl 3);obtain⟨x,hx⟩:=eX b.crc;obtain⟨said0,hs0⟩:=eX (zAj (b.pre 0).items);obtain⟨said1,hs1⟩:=eX (zAj (b.pre x).items);obtain⟨all0,ha0⟩:=eX (b.back++b.rowsB);have hbl:b.back.length=40:=by unfold BatS.back;rw[zB7];rfl
 obtain⟨back,hbk⟩:=eX b.back;have hl0:said0.length=61:=by rw[←hs0];exact zAY _
 have hl1:said1.length=61:=by rw[←hs1];exact zAY _
 have HRW:=hQd hrows;have HN:=hQd (show b.recs.length=l.length by rw[←hl,Jn]);have AT:=hQd hat;have HS0:=hQd hs0;have HS1:=hQd hs1;have HF0:=hQd (BatS.fitsAll so.err so.rng 0 oM oM oM);have HR0:=hQd (BatS.pre_R so.err so.rng 0 oM oM oM);have HF1:=hQd (BatS.fitsAll so.err so.rng x oM oM oM);have HR1:=hQd (BatS.pre_R so.err so.rng x oM oM oM);have HX:=hQd (show(zAq 0#32 all0).toNat=x by rw[←ha0,←hx];rfl);have HA0:=hQd (show all0.length≤1000000 by rw[←ha0,Je];omega)
 have hT:Jq (said0.length - 21) (List.drop 21 said0)=back:=by
  rw[Jj (by rw[Jf];omega),←hs0,b.pre_drop,hbk]
 have hcat0:bb back++bb rows=bb all0:=by rw[←ha0,←hbk,←hrows];exact zAc _ _
 have hcat1:bb said1++bb rows=bb s:=by
  rw[←hs,←hs1,←hrows,←hx];exact zAc _ _
 have hrl:rows.length≤400000:=by rw[←hrows];exact hrn
 have hg0:¬(9223372036854775807<back.length+rows.length):=by rw[←hbk];omega
 have hg1:¬(9223372036854775807<said1.length+rows.length):=by omega
 have l21:(21:Int)≤(said0.length:Int):=by omega
 have l21':21≤said0.length:=by omega
 have hne:¬(said0=[]):=by intro hh;rw[hh]at hl0;simp at hl0
 have w1:IntKind.i64.wrap (49+(rows.length:Int))=49+(rows.length:Int):=IntWalk.i64_in _ oM;have w1':wrap64 (49+(rows.length:Int))=49+(rows.length:Int):=by unfold wrap64;omega
 have w2:IntKind.i64.wrap (x:Int)=(x:Int):=IntWalk.i64_in _ oM;have w2':wrap64 (x:Int)=(x:Int):=by unfold wrap64;omega
 have HRE:=hQd (hre.trans hrows)
 have HXS:=hQd (show ∀y∈l,y.1.R∧y.1.sum≤1000000 from fun y hy=>by
  have hm:y.1∈b.recs:=hl ▸ List.mem_map_of_mem hy;have:=so.recs y.1 hm
  exact⟨this.1,this.2.2⟩)
 have HLN:=hQd (show l.length≤1000 by have h9:=congrArg Jh hl;rw[Jn]at h9;omega);have HRN:=hQd hrl;clear h h1 hk hrn hre hrows hcr hln hat hx hs0 hs1 ha0 hbl hbk hl0 hl1 hl hs so;have HG0:=hQd (And.intro hT (And.intro hcat0 (And.intro hg0 (And.intro l21 (And.intro l21' hne)))));have HG1:=hQd (And.intro hcat1 hg1);have HW:=hQd (And.intro w1 (And.intro w1' (And.intro w2 w2')));clear hT hcat0 hg0 l21 l21' hne hcat1 hg1 w1 w1' w2 w2' hrl;go_enter Tryz.func10,Tryz.ntmps10;go_wp2;go_loopw [3,4] (fun sv iv wr=>∃k:Nat,k≤l.length∧iv=I O k∧sv=Z (bb (zA5 (l.take k)))∧St W0 wr K (.raw hb #[I O b.base,I O b.leader,U b.app,U b.txn,U b.ctl,I O b.last,I O b.first,I O b.maxt,I O b.prod,I O b.epoch,I O b.seq,Ja q l.length cap] 30::L)) (fun _ iv _=>l.length - (intOf iv).toNat)
 case atStart=>exact⟨0,Ji _,rfl,rfl,H.out⟩
 case round=>
  obtain⟨k,hkl,rfl,rfl,hst⟩:=hrel;clear H x0 x1 x2 x3 x4 x5 x6 x7 x8 x9 x10 x11 y0 y1 y2 y3 y4 y5 y6 y7 y8 y9 y10 y11;have H:=hQd hst;clear hst
  by_cases hlt:k<l.length
  ·as_aux_lemma=>
   exact y2
  ·obtain rfl:k=l.length:=by omega
   rw[List.take_length,HRE.out];have w1:=HW.out.1;obtain⟨x0,x1,x2,x3,x4,x5,x6,x7,x8,x9,x10,x11,y0,y1,y2,y3,y4,y5,y6,y7,y8,y9,y10,y11⟩:=zAd (b:=hb) (H.out);go_upto_region 6 with (fail);clear x0 x1 x2 x3 x4 x5 x6 x7 x8 x9 x10 x11 y0 y1 y2 y3 y4 y5 y6 y7 y8 y9 y10 y11;go_cut [5] (fun s5 wx=>s5=Z (bb said0)∧St W0 wx K (.raw hb #[I O b.base,I O b.leader,U b.app,U b.txn,U b.ctl,I O b.last,I O b.first,I O b.maxt,I O b.prod,I O b.epoch,I O b.seq,Ja q l.length cap] 30::L))
   case first=>
    as_aux_lemma=>
    have hs:=H.out.drew;refine wp_region_held_drew (S:=fun w'=>w'.cell? ⟨hb,0,none⟩=some (I O b.base)∧w'.cell? ⟨hb,1,none⟩=some (I O b.leader)∧w'.cell? ⟨hb,2,none⟩=some (U b.app)∧w'.cell? ⟨hb,3,none⟩=some (U b.txn)∧w'.cell? ⟨hb,4,none⟩=some (U b.ctl)∧w'.cell? ⟨hb,5,none⟩=some (I O b.last)∧w'.cell? ⟨hb,6,none⟩=some (I O b.first)∧w'.cell? ⟨hb,7,none⟩=some (I O b.maxt)∧w'.cell? ⟨hb,8,none⟩=some (I O b.prod)∧w'.cell? ⟨hb,9,none⟩=some (I O b.epoch)∧w'.cell? ⟨hb,10,none⟩=some (I O b.seq)∧w'.cell? ⟨hb,11,none⟩=some (Ja q l.length cap)) kR (let ⟨x0,x1,x2,x3,x4,x5,x6,x7,x8,x9,x10,x11,_⟩:=zAd (b:=hb) (hs);⟨x0,x1,x2,x3,x4,x5,x6,x7,x8,x9,x10,x11⟩) (fun hHeld=> ?_);refine tR 0 ?_;refine tR 1 ?_;refine tR 2 ?_;refine tR 3 ?_;refine tR 4 ?_;refine tR 5 ?_;refine tR 6 ?_;refine tR 7 ?_;refine tR 9 ?_;refine tR 10 ?_;refine tR 11 ?_;refine tR 12 ?_;refine tR 13 ?_;refine tR 14 ?_;refine tR 15 ?_;refine tR 16 ?_;refine tR 17 ?_;refine tR 18 ?_;refine tR 19 ?_;refine tR 20 ?_;refine tR 21 ?_;refine tR 22 ?_;refine tR 23 ?_;refine wR [8] (rC rfl (fun KK hK=> ?_) rN);go_simp;go_at_call 30;with_reducible refine(zIz b.base b.leader b.app b.txn b.ctl b.last b.first b.maxt b.prod b.epoch b.seq (Ja q l.length cap) at_ AT.out hs).mono ?_;rintro e wq ⟨rfl,hs⟩;refine hK.out _ _ (let ⟨x0,x1,x2,x3,x4,x5,x6,x7,x8,x9,x10,x11,_⟩:=zAd (b:=hb) (hs);⟨x0,x1,x2,x3,x4,x5,x6,x7,x8,x9,x10,x11⟩) (fun hHeld=> ?_);clear hK KK
    try simp only[Act.put,sA,sB,sC]
    refine wR [24] (rC rfl (fun KK hK=> ?_) rN);rw[if_pos (by rfl)];refine zGC (v:=Ja (some ⟨wq.heap.size,0,none⟩) 12 12) (w':=wq.alloc (.cells #[I O b.base,I O (49+rows.length),I O b.leader,I O 0,I O at_,I O b.last,I O b.first,I O b.maxt,I O b.prod,I O b.epoch,I O b.seq,I O l.length] 3 (0,0))) (zI0 #[(0,I O b.base),(1,I O (49+rows.length)),(2,I O b.leader),(3,I O 0),(4,I O at_),(5,I O b.last),(6,I O b.first),(7,I O b.maxt),(8,I O b.prod),(9,I O b.epoch),(10,I O b.seq),(11,I O l.length)] _ _ _ kR (zRp (b.base) ((49+rows.length)) (b.leader) (0) (at_) (b.last) (b.first) (b.maxt) (b.prod) (b.epoch) (b.seq) (l.length) wq)) ?_;obtain⟨wy,bS,ey,eb,hs⟩:=hs.allocEx #[I O b.base,I O (49+rows.length),I O b.leader,I O 0,I O at_,I O b.last,I O b.first,I O b.maxt,I O b.prod,I O b.epoch,I O b.seq,I O l.length] 3;rw[ey,eb];clear ey eb;refine hK.out _ _ (let ⟨x0,x1,x2,x3,x4,x5,x6,x7,x8,x9,x10,x11,_⟩:=zAd (b:=hb) (hs.p1);⟨x0,x1,x2,x3,x4,x5,x6,x7,x8,x9,x10,x11⟩) (fun hHeld=> ?_);clear hK KK
    try simp only[Act.put,sA,sB,sC]
    refine wR [25] (rC rfl (fun KK hK=> ?_) rN);go_simp;go_at_call 29;with_reducible refine(zKE bS b 0 rows HRW.out at_ AT.out l.length HN.out said0 HS0.out HF0.out HR0.out hs).mono ?_;rintro e wq ⟨rfl,hs⟩;refine hK.out _ _ (let ⟨x0,x1,x2,x3,x4,x5,x6,x7,x8,x9,x10,x11,_⟩:=zAd (b:=hb) (hs.p1);⟨x0,x1,x2,x3,x4,x5,x6,x7,x8,x9,x10,x11⟩) (fun hHeld=> ?_);clear hK KK
    try simp only[Act.put,sA,sB,sC]
    have hs:=hs.drop;refine tR 26 ?_;refine tR 27 ?_;refine tR 28 ?_;refine tR 29 ?_;refine tR 30 ?_;refine wpAnyH_done kR ?_ _;clear hHeld;go_wp2_with fail;go_meet;exact⟨rfl,hs⟩
   case rest=>
    obtain⟨rfl,h⟩:=hcut;clear H;have H:=hQd h;clear h;obtain⟨hT,hcat0,hg0,l21,l21',hne⟩:=HG0.out;have w2:=HW.out.2.2.1;go_upto_region 8 with (go_at_call 31;(with_reducible refine(zFv all0 HA0.out x HX.out H.out).zM ?_);clear H;intro wn H);clear w2 hT hcat0 hg0 l21 l21' hne;go_cut [8] (fun s8 wx=>s8=Z (bb said1)∧St W0 wx K (.raw hb #[I O b.base,I O b.leader,U b.app,U b.txn,U b.ctl,I O b.last,I O b.first,I O b.maxt,I O b.prod,I O b.epoch,I O b.seq,Ja q l.length cap] 30::L))
    case first=>
     have hs:=H.out.drew;refine wp_region_held_drew (S:=fun w'=>w'.cell? ⟨hb,0,none⟩=some (I O b.base)∧w'.cell? ⟨hb,1,none⟩=some (I O b.leader)∧w'.cell? ⟨hb,2,none⟩=some (U b.app)∧w'.cell? ⟨hb,3,none⟩=some (U b.txn)∧w'.cell? ⟨hb,4,none⟩=some (U b.ctl)∧w'.cell? ⟨hb,5,none⟩=some (I O b.last)∧w'.cell? ⟨hb,6,none⟩=some (I O b.first)∧w'.cell? ⟨hb,7,none⟩=some (I O b.maxt)∧w'.cell? ⟨hb,8,none⟩=some (I O b.prod)∧w'.cell? ⟨hb,9,none⟩=some (I O b.epoch)∧w'.cell? ⟨hb,10,none⟩=some (I O b.seq)∧w'.cell? ⟨hb,11,none⟩=some (Ja q l.length cap)) kR (let ⟨x0,x1,x2,x3,x4,x5,x6,x7,x8,x9,x10,x11,_⟩:=zAd (b:=hb) (hs);⟨x0,x1,x2,x3,x4,x5,x6,x7,x8,x9,x10,x11⟩) (fun hHeld=> ?_);refine tR 0 ?_;refine tR 1 ?_;refine tR 2 ?_;refine tR 3 ?_;refine tR 4 ?_;refine tR 5 ?_;refine tR 6 ?_;refine tR 7 ?_;refine tR 8 ?_;refine tR 10 ?_;refine tR 11 ?_;refine tR 12 ?_;refine tR 13 ?_;refine tR 14 ?_;refine tR 15 ?_;refine tR 16 ?_;refine tR 17 ?_;refine tR 18 ?_;refine tR 19 ?_;refine tR 20 ?_;refine tR 21 ?_;refine tR 22 ?_;refine tR 23 ?_;refine tR 24 ?_;refine wR [9] (rC rfl (fun KK hK=> ?_) rN);go_simp;go_at_call 30;with_reducible refine(zIz b.base b.leader b.app b.txn b.ctl b.last b.first b.maxt b.prod b.epoch b.seq (Ja q l.length cap) at_ AT.out hs).mono ?_;rintro e wq ⟨rfl,hs⟩;refine hK.out _ _ (let ⟨x0,x1,x2,x3,x4,x5,x6,x7,x8,x9,x10,x11,_⟩:=zAd (b:=hb) (hs);⟨x0,x1,x2,x3,x4,x5,x6,x7,x8,x9,x10,x11⟩) (fun hHeld=> ?_);clear hK KK
     try simp only[Act.put,sA,sB,sC]
     refine wR [25] (rC rfl (fun KK hK=> ?_) rN);rw[if_pos (by rfl)];refine zGC (v:=Ja (some ⟨wq.heap.size,0,none⟩) 12 12) (w':=wq.alloc (.cells #[I O b.base,I O (49+rows.length),I O b.leader,I O (x:Int),I O at_,I O b.last,I O b.first,I O b.maxt,I O b.prod,I O b.epoch,I O b.seq,I O l.length] 3 (0,0))) (zI0 #[(0,I O b.base),(1,I O (49+rows.length)),(2,I O b.leader),(3,I O (x:Int)),(4,I O at_),(5,I O b.last),(6,I O b.first),(7,I O b.maxt),(8,I O b.prod),(9,I O b.epoch),(10,I O b.seq),(11,I O l.length)] _ _ _ kR (zRp (b.base) ((49+rows.length)) (b.leader) ((x:Int)) (at_) (b.last) (b.first) (b.maxt) (b.prod) (b.epoch) (b.seq) (l.length) wq)) ?_;obtain⟨wy,bS,ey,eb,hs⟩:=hs.allocEx #[I O b.base,I O (49+rows.length),I O b.leader,I O (x:Int),I O at_,I O b.last,I O b.first,I O b.maxt,I O b.prod,I O b.epoch,I O b.seq,I O l.length] 3;rw[ey,eb];clear ey eb;refine hK.out _ _ (let ⟨x0,x1,x2,x3,x4,x5,x6,x7,x8,x9,x10,x11,_⟩:=zAd (b:=hb) (hs.p1);⟨x0,x1,x2,x3,x4,x5,x6,x7,x8,x9,x10,x11⟩) (fun hHeld=> ?_);clear hK KK
     try simp only[Act.put,sA,sB,sC]
     refine wR [26] (rC rfl (fun KK hK=> ?_) rN);go_simp;go_at_call 29;with_reducible refine(zKE bS b (x:Int) rows HRW.out at_ AT.out l.length HN.out said1 HS1.out HF1.out HR1.out hs).mono ?_;rintro e wq ⟨rfl,hs⟩;refine hK.out _ _ (let ⟨x0,x1,x2,x3,x4,x5,x6,x7,x8,x9,x10,x11,_⟩:=zAd (b:=hb) (hs.p1);⟨x0,x1,x2,x3,x4,x5,x6,x7,x8,x9,x10,x11⟩) (fun hHeld=> ?_);clear hK KK
     try simp only[Act.put,sA,sB,sC]
     have hs:=hs.drop;refine tR 27 ?_;refine tR 28 ?_;refine tR 29 ?_;refine tR 30 ?_;refine tR 31 ?_;refine wpAnyH_done kR ?_ _;clear hHeld;go_wp2_with fail;go_meet;exact⟨rfl,hs⟩
    case rest=>
     obtain⟨rfl,h⟩:=hcut;clear H;have H:=hQd h;clear h;obtain⟨hcat1,hg1⟩:=HG1.out;go_wp2_with (fail);go_ret;exact⟨rfl,H.out.drop⟩
theorem zSl(base leader:Int)(app txn ctl:Bool)(last first maxt prod epoch sq:Int)(l:List (RecS×Value))(q:Option Addr)(cap:Nat)(n1 n2 n3 n4 n5:Int)(ok:Bool)(he:zCD ⟨base,leader,app,txn,ctl,last,first,maxt,prod,epoch,sq,l.map (·.1)⟩=(n1,n2,n3,n4,n5,ok))(hmx:first≤9223372036854775807)(hfit:FitB l)(hll:l.length≤1000000){W0 w:World}{K:Know}{L:List Res}(hk:K.has (Know.recs (Ja q l.length cap) l))(h:St W0 w K L):
 Calls Jd 108 #[.agg #[I O base,I O leader,U app,U txn,U ctl,I O last,I O first,I O maxt,I O prod,I O epoch,I O sq,Ja q l.length cap]] w fun en w'=>en=Jb (.tuple #[.agg #[I O n1,I O n2,I O n3,I O n4,I O n5],U ok])∧St W0 w' K L:=by
 have HK:=hQd hk;have HFT:=hQd hfit;have HLL:=hQd hll;have HMX:=hQd hmx;have g1:=h.allocRaw #[I O base,I O leader,U app,U txn,U ctl,I O last,I O first,I O maxt,I O prod,I O epoch,I O sq,Ja q l.length cap] 30;have g2:=g1.allocRaw #[I O 0,I O 0,I O 0,I O 0,I O 0] 161;obtain⟨hb,hhb⟩:=eX w.heap.size;obtain⟨rb,hrb⟩:=eX (hb+1);simp only[World.size_alloc,hhb,hrb]at g2;have H:=hQd g2;clear h g1 g2 hk hfit hll hmx;obtain⟨⟨p0,p1,p2,p3,p4⟩,u0,u1,u2,u3,u4⟩:=zR8 (b:=rb) (H.out);obtain⟨x0,x1,x2,x3,x4,x5,x6,x7,x8,x9,x10,x11,y0,y1,y2,y3,y4,y5,y6,y7,y8,y9,y10,y11⟩:=zAd (b:=hb) (H.out.p1);unfold zCD at he;simp only at he
 by_cases c0:ctl=true
 case neg=>
  have c1:ctl=false:=by cases ctl with
   |false=>rfl
   |true=>exact absurd rfl c0
  rw[if_neg (fun h=>c0 h.1)]at he;simp only[Prod.mk.injEq]at he;obtain⟨rfl,rfl,rfl,rfl,rfl,rfl⟩:=he;subst c1;clear c0;go_enter Tryz.func108,Tryz.ntmps108;go_wp2;have hz:St W0 _ K (.raw rb #[I O 0,I O 0,I O 0,I O 0,I O 0] 161::_):=H.out;refine bodyPost_ret (zBo rfl _ _ rb [I O 0,I O 0,I O 0,I O 0,I O 0] _ rfl (zAp hz) Tryz.underlying161 rfl kR) rfl ?_;exact⟨rfl,hz.drop.drop⟩
 subst c0;obtain⟨e,hee⟩:=eX (zAh ⟨base,leader,app,txn,true,last,first,maxt,prod,epoch,sq,l.map (·.1)⟩);have HE:=hQd hee
 by_cases c1:e=0
 case neg=>
  rw[if_neg (fun h=>c1 (hee ▸ h.2))]at he;simp only[Prod.mk.injEq]at he;obtain⟨rfl,rfl,rfl,rfl,rfl,rfl⟩:=he;have gz:(e==0)=false:=by rw[beq_eq_false_iff_ne];exact c1
  clear c1 hee;go_enter Tryz.func108,Tryz.ntmps108;go_wp2_with (go_at_call 35;(with_reducible refine(zCH _ _ _ _ _ _ _ _ _ _ _ l _ _ _ HE.out HMX.out HFT.out HLL.out HK.out H.out).zM ?_);clear H;intro wn H;obtain⟨⟨p0,p1,p2,p3,p4⟩,u0,u1,u2,u3,u4⟩:=zR8 (b:=rb) (H.out);obtain⟨x0,x1,x2,x3,x4,x5,x6,x7,x8,x9,x10,x11,y0,y1,y2,y3,y4,y5,y6,y7,y8,y9,y10,y11⟩:=zAd (b:=hb) (H.out.p1));have hz:St W0 _ K (.raw rb #[I O 0,I O 0,I O 0,I O 0,I O 0] 161::_):=(((((H.out.rawSet 0 _).rawSet 1 _).rawSet 2 _).rawSet 3 _).rawSet 4 _);refine bodyPost_ret (zBo rfl _ _ rb [I O 0,I O 0,I O 0,I O 0,I O 0] _ rfl (zAp hz) Tryz.underlying161 rfl kR) rfl ?_;exact⟨rfl,hz.drop.drop⟩
 subst c1;rw[if_pos ⟨rfl,hee⟩]at he;obtain⟨z,hz,hz2,hz3,hz4⟩:=zEb _ hee rfl;simp only at hz hz3 hz4;rw[hz]at he;simp only[Prod.mk.injEq]at he;have hlen:l.length=1:=by have:=congrArg Jh hz;simpa using this
 obtain⟨b,off,hqq⟩:=zBH HK.out H.out oM;subst hqq;have h00:0<l.length:=by omega
 obtain⟨⟨x,vx⟩,hx⟩:∃x,l[0]'h00=x:=⟨_,rfl⟩;have hmem:(x,vx)∈l:=hx ▸ Jp _
 obtain rfl:x=z:=by
  have h1:=List.getElem_map (·.1) (l:=l) (i:=0) (h:=by rw[Jn];omega);have h2:(l.map (·.1))[0]'(by rw[Jn];omega)=z:=by simp only[hz];rfl
  rw[h2,hx]at h1;exact h1.symm
 have xf:x.R∧HFit x.hdrs∧x.sum≤1000000:=HFT.out (x,vx) hmem;have xk:K.has (Know.flat RHdr vx 3 x.hdrs):=zAX HK.out hmem;obtain⟨qx,capx,hvx⟩:=zAw xk H.out;subst hvx;have XD:=hQd (zJg xf.2.2);have hl0:(0:Int)<(l.length:Int):=by omega
 obtain⟨⟨i1,i2,i3⟩,hi⟩:∃r,zCh x=r:=⟨_,rfl⟩;rw[hi]at hz2 he;simp only at hz2 he;subst hz2;obtain⟨rfl,rfl,rfl,hft,rfl,rfl⟩:=he;have EC:=hQd (show zB2 x.key.null x.val.null x.key.data x.val.data x.hdrs.length x.off=(i1,i2,0)from hi);have f1:wrap64 (first+x.time)=n4:=by rw[←hft];unfold wrap64;omega
 have f2:IntKind.i64.wrap (first+x.time)=n4:=by rw[←hft];exact IntWalk.i64_in _ oM
 have HX:=hQd hx;clear hz hz3 hz4 hmem xf xk hi hft hee hlen hx;go_enter Tryz.func108,Tryz.ntmps108
 go_wp2_with (first
  |(go_at_call 35;(with_reducible refine(zCH _ _ _ _ _ _ _ _ _ _ _ l _ _ _ HE.out HMX.out HFT.out HLL.out HK.out H.out).mono ?_);rintro e_ wn ⟨rfl,h⟩;obtain⟨⟨p0,p1,p2,p3,p4⟩,u0,u1,u2,u3,u4⟩:=zR8 (b:=rb) (h);obtain⟨x0,x1,x2,x3,x4,x5,x6,x7,x8,x9,x10,x11,y0,y1,y2,y3,y4,y5,y6,y7,y8,y9,y10,y11⟩:=zAd (b:=hb) (h.p1);have cc:=zAQ HK.out h 0 h00 (x,Ja qx x.hdrs.length capx) HX.out;simp only[Nat.zero_mul,Nat.zero_add,Nat.add_zero]at cc;obtain⟨c0,c1,c2,c3,c4,c5,c6⟩:=cc;have h:=h.allocRaw #[I O x.time,I O x.off,U x.key.null,Z (bb x.key.data),U x.val.null,Z (bb x.val.data),Ja qx x.hdrs.length capx] 54;obtain⟨wE,hwE⟩:=eX wn.heap.size;rw[hwE]at h;obtain⟨ec0,ec1,ec2,ec3,ec4,ec5,ec6,ef0,ef1,ef2,ef3,ef4,ef5,ef6⟩:=raw7 (b:=wE) (h);replace H:=hQd h;clear h)
  |(go_at_call 71;(with_reducible refine(zJY x.time x.off x.key.null x.val.null x.key.data x.val.data qx x.hdrs.length capx (i1,i2,0) EC.out XD.out.1 XD.out.2 H.out).zM ?_);clear H;intro wn H;obtain⟨ec0,ec1,ec2,ec3,ec4,ec5,ec6,ef0,ef1,ef2,ef3,ef4,ef5,ef6⟩:=raw7 (b:=wE) (H.out);obtain⟨⟨p0,p1,p2,p3,p4⟩,u0,u1,u2,u3,u4⟩:=zR8 (b:=rb) (H.out.p1);obtain⟨x0,x1,x2,x3,x4,x5,x6,x7,x8,x9,x10,x11,y0,y1,y2,y3,y4,y5,y6,y7,y8,y9,y10,y11⟩:=zAd (b:=hb) (H.out.p2)))
 have hz:St W0 _ K (.raw rb #[I O prod,I O epoch,I O i1,I O n4,I O i2] 161::_):=(((((H.out.p1.rawSet 0 _).rawSet 1 _).rawSet 2 _).rawSet 3 _).rawSet 4 _);refine bodyPost_ret (zBo rfl _ _ rb [I O prod,I O epoch,I O i1,I O n4,I O i2] _ rfl (zAp hz) Tryz.underlying161 rfl kR) rfl ?_;exact⟨rfl,hz.drop.drop.drop⟩
def ptP (b:BatS):Int:=if zAh b=0 then(b.enc.length:Int)else 0
def ptQ (b:BatS):Int:=if zAh b=0 then(b.recs.length:Int)else 0
def sP (l:List BatR):Int:=(l.map fun x=>ptP x.b).sum
def sQ (l:List BatR):Int:=(l.map fun x=>ptQ x.b).sum
def SmB (x:BatR):Prop:=x.Fit∧zBb (x.l.map (·.1))=true
theorem zTl(l:List BatR)(k:Nat)(hk:k<l.length)(x:BatR)(hx:l[k]=x):sP (l.take (k+1))=sP (l.take k)+ptP x.b∧sQ (l.take (k+1))=sQ (l.take k)+ptQ x.b∧l.take (k+1)=l.take k++[x]:=by
 have e:l.take (k+1)=l.take k++[x]:=by rw[List.take_succ_eq_append_getElem hk,hx]
 refine⟨?_,?_,e⟩
 ·rw[e];unfold sP;rw[List.map_append,List.sum_append];simp
 ·rw[e];unfold sQ;rw[List.map_append,List.sum_append];simp
theorem zNv{l:List (RecS×Value)}{b:BatS}(h:l.map (·.1)=b.recs):(b.recs.length:Int)=l.length:=by rw[←h,Jn]
end Go.Proofs.YtenojajfacacoaaGreatDoor
namespace Go.Proofs.YtenojajfacacoaaGreatDoor
open Go.Value renaming bool→U, string→Z, slice→Ja, int→I, pointer→Jc
open Go.Ending renaming returned→Jb
open _root_.Nat renaming le_refl→Jo, zero_le→Ji, add_assoc→Jm
open Go.IntKind renaming i64→O
open _root_.Go.Proofs.Tryz renaming prog→Jd
open _root_.List renaming length_cons→Jg, take_of_length_le→Jj, length_take→Jk, length_append→Je, length→Jh, take→Jq, getElem_mem→Jp, length_drop→Jf, length_nil→Jl, length_map→Jn
open Go Ieee
def FV (d:Datum) (n:Int):Prop:=∃(s:Bool) (m:Nat) (p:Int),d=.number s m p∧p≤0∧(if s then -(m:Int)else(m:Int))=n*2 ^ (-p).toNat
def FI (x:Nat) (n:Int):Prop:=FV (double.read x) n
def Wh (n:Int):Prop:= -9007199254740992<n∧n<9007199254740992
theorem zGN(s:Bool)(m up:Nat):signed s m up=(if s then -(m:Int)else(m:Int))*2 ^ up:=by
 unfold signed;rw[Nat.shiftLeft_eq]
 cases s<;>simp[Int.neg_mul]
theorem zKX{i b:Int}(hb:b≤i)(hi:i≤0):(2:Int) ^ (-i).toNat*2 ^ (i - b).toNat=2 ^ (-b).toNat:=by
 rw[←Int.pow_add]
 congr 1
 omega
theorem FV.sum{c d:Datum}{a b:Int}(ha:FV c a)(hb:FV d b):∃e,c.sum d=some e∧FV e (a+b):=by
 obtain⟨s,m,i,rfl,hi,va⟩:=ha;obtain⟨t,n,j,rfl,hj,vb⟩:=hb;refine⟨_,rfl,?_⟩;have hmi:min i j≤i:=Int.min_le_left _ _;have hmj:min i j≤j:=Int.min_le_right _ _;have e1:signed s m (i - min i j).toNat=a*2 ^ (-(min i j)).toNat:=by rw[zGN,va,Int.mul_assoc,zKX hmi hi]
 have e2:signed t n (j - min i j).toNat=b*2 ^ (-(min i j)).toNat:=by rw[zGN,vb,Int.mul_assoc,zKX hmj hj]
 have e3:signed s m (i - min i j).toNat+signed t n (j - min i j).toNat=(a+b)*2 ^ (-(min i j)).toNat:=by rw[e1,e2,Int.add_mul]
 refine⟨_,_,_,rfl,by omega,?_⟩;rw[e3];generalize (a+b)*2 ^ (-(min i j)).toNat=T
 by_cases h0:T=0
 ·subst h0;cases s<;>cases t<;>simp
 ·rw[if_neg h0]
  by_cases h1:T<0
  ·rw[if_pos (by simpa using h1)];omega
  ·rw[if_neg (by simpa using h1)];omega
theorem FV.opposite{c:Datum}{a:Int}(ha:FV c a):FV c.opposite (-a):=by
 obtain⟨s,m,i,rfl,hi,va⟩:=ha;refine⟨!s,m,i,rfl,hi,?_⟩;rw[Int.neg_mul,←va]
 cases s<;>simp
theorem zSF(way:Toward)(neg:Bool)(n:Nat):way.cut neg n 0=n:=by
 unfold Toward.cut
 cases way<;>simp[Nat.mod_one]
theorem zGa(N k:Nat)(h:N≠0):(N*2 ^ k).log2=N.log2+k:=by
 induction k with
 |zero=>simp
 |succ k ih=>
  rw[Nat.pow_succ,←Nat.mul_assoc,Nat.mul_comm _ 2,Nat.log2_two_mul (Nat.mul_ne_zero h (Nat.ne_of_gt (Nat.two_pow_pos k))),ih]
  rfl
theorem zRb(way:Toward)(neg:Bool)(N k:Nat)(h:N≠0):way.cut neg (N*2 ^ k) k=N:=by
 have hl:=zGa N k h;unfold Toward.cut;have hm:min k ((N*2 ^ k).log2+2)=k:=by rw[hl];omega
 have hp:0<2 ^ k:=Nat.two_pow_pos k;simp only[hm,Nat.one_shiftLeft,Nat.mul_div_cancel _ hp,Nat.mul_mod_left]
 cases way<;>simp<;>omega
theorem zP3(s:Bool)(e K:Nat)(he:e≤52)(h1:4503599627370496≤K)(h2:K<9007199254740992):double.read (double.word s ((e+1022)*4503599627370496+K))=.number s K ((e:Int) - 52):=by
 have hR:(e+1022)*4503599627370496+K<9223372036854775808:=by omega
 have hs:double.signWeight=9223372036854775808:=by decide
 have hb:double.binade=4503599627370496:=by decide
 have hi:double.infRung=9218868437227405312:=by decide
 have hl:double.leastPlace= -1074:=by decide
 have hm:double.word s ((e+1022)*4503599627370496+K) % 9223372036854775808=(e+1022)*4503599627370496+K:=by
  unfold Format.word;rw[hs]
  cases s<;>simp<;>omega
 have hd:(double.word s ((e+1022)*4503599627370496+K) / 9223372036854775808 % 2==1)=s:=by
  unfold Format.word;rw[hs]
  cases s
  ·simp only[Bool.false_eq_true,if_false];rw[Nat.div_eq_of_lt hR]
   rfl
  ·simp only[if_true];rw[show(9223372036854775808+((e+1022)*4503599627370496+K)) / 9223372036854775808=1 by omega]
   rfl
 unfold Format.read;simp only[hs,hb,hi,hl,hm,hd];rw[if_neg (by omega),if_pos (by omega)];have e1:4503599627370496+((e+1022)*4503599627370496+K) % 4503599627370496=K:=by omega
 have e3:(-1074:Int)+((((e+1022)*4503599627370496+K) / 4503599627370496 - 1:Nat):Int)=(e:Int) - 52:=by omega
 exact congr (congrArg (Datum.number s) e1) e3
theorem zSm(e K:Nat)(he:e≤52)(hK:K<9007199254740992):min ((((e:Int) - 52) - double.leastPlace).toNat*double.binade+K) double.infRung=(e+1022)*4503599627370496+K:=by
 have hb:double.binade=4503599627370496:=by decide
 have hi:double.infRung=9218868437227405312:=by decide
 have hl:double.leastPlace= -1074:=by decide
 rw[hb,hi,hl,show(((e:Int) - 52) - (-1074)).toNat=e+1022 by omega]
 omega
theorem zQv(e:Nat)(he:e≤52):(e:Int) - 52≤0:=by omega
theorem zOL(e:Nat)(he:e≤52):(-((e:Int) - 52)).toNat=52 - e:=by omega
theorem zKM(s:Bool):FI (double.word s 0) 0:=by
 cases s
 ·exact⟨false,0,-1074,by decide+kernel,by decide,by rw[Int.zero_mul];rfl⟩
 ·exact⟨true,0,-1074,by decide+kernel,by decide,by rw[Int.zero_mul];rfl⟩
theorem FV.write{d:Datum}{n:Int}(h:FV d n)(hn:Wh n):FI (double.write d) n:=by
 obtain⟨s,m,p,rfl,hp,hv⟩:=h
 show FI (double.nearest s m p) n
 unfold Format.nearest;obtain⟨k,hk⟩:∃k,(-p).toNat=k:=⟨_,rfl⟩;have hpk:p= -(k:Int):=by omega
 rw[hk]at hv
 by_cases hm:m=0
 ·rw[if_pos hm];subst hm
  have h0:n=0:=by
   have hz:n*2 ^ k=0:=by rw[←hv];cases s<;>simp
   rcases Int.mul_eq_zero.1 hz with h|h
   ·exact h
   ·exact absurd h (Int.ne_of_gt (Int.pow_pos (by decide)))
  subst h0;exact zKM s
 ·rw[if_neg hm];obtain⟨N,hN⟩:∃N,n.natAbs=N:=⟨_,rfl⟩
  have hmN:m=N*2 ^ k:=by
   have h1:(m:Int).natAbs=(n*2 ^ k).natAbs:=by rw[←hv];cases s<;>simp
   rw[Int.natAbs_mul,Int.natAbs_pow,hN]at h1
   simpa using h1
  have hN0:N≠0:=by rintro rfl;simp at hmN;exact hm hmN
  have hNl:N<9007199254740992:=by unfold Wh at hn;omega
  have hL:=zGa N k hN0;obtain⟨e,he⟩:∃e,N.log2=e:=⟨_,rfl⟩
  have he52:e≤52:=by
   have h53:N<2 ^ 53:=hNl;have:=(Nat.log2_lt hN0).2 h53
   omega
  have hb1:2 ^ e≤N:=by rw[←he];exact Nat.log2_self_le hN0
  have hb2:N<2 ^ (e+1):=by rw[←he];exact Nat.lt_log2_self
  rw[hmN,hL,he]
  have hlast:max (p+((e+k:Nat):Int) - (double.fractionBits:Int)) double.leastPlace=(e:Int) - 52:=by
   show max (p+((e+k:Nat):Int) - 52) (-1074)=_
   omega
  simp only[hlast]
  have hkept:Toward.even.cut s ((N*2 ^ k)<<<(p - ((e:Int) - 52)).toNat) (((e:Int) - 52) - p).toNat=N*2 ^ (52 - e):=by
   rw[Nat.shiftLeft_eq]
   by_cases hc:k≤52 - e
   ·rw[show(((e:Int) - 52) - p).toNat=0 by omega,zSF,Nat.mul_assoc,←Nat.pow_add]
    congr 2
    omega
   ·rw[show(p - ((e:Int) - 52)).toNat=0 by omega,Nat.pow_zero,Nat.mul_one,show N*2 ^ k=(N*2 ^ (52 - e))*2 ^ (((e:Int) - 52) - p).toNat by rw[Nat.mul_assoc,←Nat.pow_add];congr 2;omega];exact zRb _ _ _ _ (Nat.mul_ne_zero hN0 (Nat.ne_of_gt (Nat.two_pow_pos _)))
  rw[hkept]
  have hK1:4503599627370496≤N*2 ^ (52 - e):=by
   have h1:=Nat.mul_le_mul_right (2 ^ (52 - e)) hb1;rw[←Nat.pow_add,show e+(52 - e)=52 by omega]at h1
   simpa using h1
  have hK2:N*2 ^ (52 - e)<9007199254740992:=by
   have h1:=Nat.mul_lt_mul_of_pos_right hb2 (Nat.two_pow_pos (52 - e));rw[←Nat.pow_add,show e+1+(52 - e)=53 by omega]at h1
   simpa using h1
  obtain⟨K,hKK⟩:∃K,N*2 ^ (52 - e)=K:=⟨_,rfl⟩;rw[hKK]at hK1 hK2 ⊢;have hmin:=zSm e K he52 hK2;rw[hmin];refine⟨s,K,(e:Int) - 52,zP3 s e _ he52 hK1 hK2,zQv e he52,?_⟩;rw[zOL e he52,←hKK]
  have hsg:(if s then -(N:Int)else(N:Int))=n:=by
   have hpp:(0:Int)<2 ^ k:=Int.pow_pos (by decide)
   have h2:(if s then -(N:Int)else(N:Int))*2 ^ k=n*2 ^ k:=by
    rw[←hv,hmN]
    cases s<;>simp[Int.neg_mul]
   exact Int.eq_of_mul_eq_mul_right (Int.ne_of_gt hpp) h2
  rw[←hsg]
  cases s<;>simp[Int.neg_mul]
theorem FI.add{x y:Nat}{a b:Int}(ha:FI x a)(hb:FI y b)(h:Wh (a+b)):∃r,double.add x y=some r∧FI r (a+b):=by
 obtain⟨e,he,hv⟩:=FV.sum ha hb;exact⟨double.write e,by unfold Format.add;rw[he];rfl,hv.write h⟩
theorem FI.ofInt(n:Int)(h:Wh n):FI (double.write (.number (n<0) n.natAbs 0)) n:=by
 refine FV.write ⟨_,_,_,rfl,by decide,?_⟩ h
 by_cases h0:n<0
 ·simp[h0];omega
 ·simp[h0];omega
end Go.Proofs.YtenojajfacacoaaGreatDoor
namespace Go.Proofs.YtenojajfacacoaaGreatDoor
open Go.Value renaming bool→U, string→Z, slice→Ja, int→I, pointer→Jc
open Go.Ending renaming returned→Jb
open _root_.Nat renaming le_refl→Jo, zero_le→Ji, add_assoc→Jm
open Go.IntKind renaming i64→O
open _root_.Go.Proofs.Tryz renaming prog→Jd
open _root_.List renaming length_cons→Jg, take_of_length_le→Jj, length_take→Jk, length_append→Je, length→Jh, take→Jq, getElem_mem→Jp, length_drop→Jf, length_nil→Jl, length_map→Jn
open Go Ieee
theorem zTQ(x:Nat):(x ^^^ 9223372036854775808) % 9223372036854775808=x % 9223372036854775808:=by
 have h:=Nat.xor_mod_two_pow (a:=x) (b:=9223372036854775808) (n:=63);have e:(2:Nat) ^ 63=9223372036854775808:=by decide
 rw[e]at h;rw[h]
 simp
theorem zTR(x:Nat):((x ^^^ 9223372036854775808) / 9223372036854775808 % 2==1)= !(x / 9223372036854775808 % 2==1):=by
 have e:(2:Nat) ^ 63=9223372036854775808:=by decide
 have h:=Nat.shiftRight_xor_distrib (a:=x) (b:=9223372036854775808) (i:=63);simp only[Nat.shiftRight_eq_div_pow,e]at h;have h2:(9223372036854775808:Nat) / 9223372036854775808=1:=by decide
 have h4:=Nat.xor_mod_two_pow (a:=x / 9223372036854775808) (b:=1) (n:=1);rw[Nat.pow_one]at h4;rw[h,h2,h4]
 rcases(by omega:x / 9223372036854775808 % 2=0∨x / 9223372036854775808 % 2=1)with h3|h3<;>rw[h3]<;>decide
theorem zR2(x:Nat):double.read (Op.negFloat .f64 x)=(double.read x).opposite:=by
 show double.read (x ^^^ 9223372036854775808)=_
 unfold Format.read;have hs:double.signWeight=9223372036854775808:=by decide
 simp only[hs,zTQ,zTR]
 split
 ·rfl
 ·split
  ·rfl
  ·split<;>rfl
theorem FI.neg{x:Nat}{a:Int}(h:FI x a):FI (Op.negFloat .f64 x) (-a):=by
 unfold FI;rw[zR2];exact FV.opposite h
theorem FI.zero:FI 0 0:=zKM false
theorem FI.toInt{x:Nat}{a:Int}(ha:FI x a):(FloatKind.f64.decode x).toInt .zero=some a:=by
 obtain⟨s,m,p,hd,hp,hv⟩:=ha
 show(double.read x).toInt .zero=_
 rw[hd];obtain⟨k,hk⟩:∃k,(-p).toNat=k:=⟨_,rfl⟩;rw[hk]at hv;unfold Datum.toInt Datum.integral;have e1:p.toNat=0:=by omega
 simp only[e1,Nat.shiftLeft_zero,hk];rw[zGN];simp only[Int.pow_zero,Int.mul_one];obtain⟨N,hN⟩:∃N,a.natAbs=N:=⟨_,rfl⟩
 have hmN:m=N*2 ^ k:=by
  have h1:(m:Int).natAbs=(a*2 ^ k).natAbs:=by rw[←hv];cases s<;>simp
  rw[Int.natAbs_mul,Int.natAbs_pow,hN]at h1
  simpa using h1
 have hc:Toward.zero.cut s m k=N:=by
  by_cases h0:N=0
  ·subst h0;rw[hmN];unfold Toward.cut
   simp
  ·rw[hmN];exact zRb _ _ _ _ h0
 rw[hc];have hpp:(0:Int)<2 ^ k:=Int.pow_pos (by decide)
 have h2:(if s then -(N:Int)else(N:Int))*2 ^ k=a*2 ^ k:=by
  rw[←hv,hmN]
  cases s<;>simp[Int.neg_mul]
 rw[Int.eq_of_mul_eq_mul_right (Int.ne_of_gt hpp) h2]
end Go.Proofs.YtenojajfacacoaaGreatDoor
namespace Go.Proofs.YtenojajfacacoaaGreatDoor
open Go.RowKit
open Go.Value renaming bool→U, string→Z, slice→Ja, int→I, pointer→Jc
open Go.Ending renaming returned→Jb
open _root_.Nat renaming le_refl→Jo, zero_le→Ji, add_assoc→Jm
open Go.IntKind renaming i64→O
open _root_.Go.Proofs.Tryz renaming prog→Jd
open _root_.List renaming length_cons→Jg, take_of_length_le→Jj, length_take→Jk, length_append→Je, length→Jh, take→Jq, getElem_mem→Jp, length_drop→Jf, length_nil→Jl, length_map→Jn
def turnI (r a b:Int):Int×Int:=if r=1 then(-b,a)else if r=2 then(-a,-b)else if r=3 then(b,-a)else(a,b)
def qa (k:Int) (l:List Int):Nat→Int×Int
 |0=>(0,0)
 |i+1=>((qa k l i).1+(turnI ((k*i) % 4) (l.getD i 0) 0).1,(qa k l i).2+(turnI ((k*i) % 4) (l.getD i 0) 0).2)
theorem cadd{a b c d re im:Nat}(h1:Ieee.double.add a c=some re)(h2:Ieee.double.add b d=some im):cSumBits .add .f64 a b c d=some (re,im):=by
 unfold cSumBits floatBits
 show(Ieee.double.add a c).bind _=_
 rw[h1]
 show(Ieee.double.add b d).bind _=_
 rw[h2]
 rfl
theorem zRU{a b c d re im:Nat}(T:TypeId)(h1:Ieee.double.add a c=some re)(h2:Ieee.double.add b d=some im)(w:World):(binOp .add T (.complex .f64 a b) (.complex .f64 c d)).run Jd w=.ok (.complex .f64 re im) w:=
 run_complex_sum w .add (.inl rfl) T .f64 a b c d re im (cadd h1 h2)
theorem FI.conv(n:Int)(h:Wh n):FI (floatOfInt .f64 n) n:=FI.ofInt n h
set_option maxHeartbeats 1000000
set_option maxRecDepth 100000
variable {W0 w:World}{K:Know}{L:List Res}
theorem zBy{b:Nat}{T:TypeId}{v0 v1 v2 v3 v4 v5 v6 v7 v8 v9 v10 v11 v12 v13:Value}(h:St W0 w K (.raw b #[v0,v1,v2,v3,v4,v5,v6,v7,v8,v9,v10,v11,v12,v13] T::L)):
 w.cell? ⟨b,0,none⟩=some v0∧w.cell? ⟨b,1,none⟩=some v1∧w.cell? ⟨b,2,none⟩=some v2∧w.cell? ⟨b,3,none⟩=some v3∧w.cell? ⟨b,4,none⟩=some v4∧w.cell? ⟨b,5,none⟩=some v5∧w.cell? ⟨b,6,none⟩=some v6∧w.cell? ⟨b,7,none⟩=some v7∧w.cell? ⟨b,8,none⟩=some v8∧w.cell? ⟨b,9,none⟩=some v9∧w.cell? ⟨b,10,none⟩=some v10∧w.cell? ⟨b,11,none⟩=some v11∧w.cell? ⟨b,12,none⟩=some v12∧w.cell? ⟨b,13,none⟩=some v13∧
 w.frozen? ⟨b,0,none⟩=false∧w.frozen? ⟨b,1,none⟩=false∧w.frozen? ⟨b,2,none⟩=false∧w.frozen? ⟨b,3,none⟩=false∧w.frozen? ⟨b,4,none⟩=false∧w.frozen? ⟨b,5,none⟩=false∧w.frozen? ⟨b,6,none⟩=false∧w.frozen? ⟨b,7,none⟩=false∧w.frozen? ⟨b,8,none⟩=false∧w.frozen? ⟨b,9,none⟩=false∧w.frozen? ⟨b,10,none⟩=false∧w.frozen? ⟨b,11,none⟩=false∧w.frozen? ⟨b,12,none⟩=false∧w.frozen? ⟨b,13,none⟩=false:=
 ⟨h.rawCell 0,h.rawCell 1,h.rawCell 2,h.rawCell 3,h.rawCell 4,h.rawCell 5,h.rawCell 6,h.rawCell 7,h.rawCell 8,h.rawCell 9,h.rawCell 10,h.rawCell 11,h.rawCell 12,h.rawCell 13,h.rawFree 0,h.rawFree 1,h.rawFree 2,h.rawFree 3,h.rawFree 4,h.rawFree 5,h.rawFree 6,h.rawFree 7,h.rawFree 8,h.rawFree 9,h.rawFree 10,h.rawFree 11,h.rawFree 12,h.rawFree 13⟩
theorem St.sets14{b:Nat}{T:TypeId}{a0 a1 a2 a3 a4 a5 a6 a7 a8 a9 a10 a11 a12 a13:Value}(v0 v1 v2 v3 v4 v5 v6 v7 v8 v9 v10 v11 v12 v13:Value)(h:St W0 w K (.raw b #[a0,a1,a2,a3,a4,a5,a6,a7,a8,a9,a10,a11,a12,a13] T::L)):St W0 ((((((((((((((w.setCell ⟨b,0,none⟩ v0).setCell ⟨b,1,none⟩ v1).setCell ⟨b,2,none⟩ v2).setCell ⟨b,3,none⟩ v3).setCell ⟨b,4,none⟩ v4).setCell ⟨b,5,none⟩ v5).setCell ⟨b,6,none⟩ v6).setCell ⟨b,7,none⟩ v7).setCell ⟨b,8,none⟩ v8).setCell ⟨b,9,none⟩ v9).setCell ⟨b,10,none⟩ v10).setCell ⟨b,11,none⟩ v11).setCell ⟨b,12,none⟩ v12).setCell ⟨b,13,none⟩ v13) K (.raw b #[v0,v1,v2,v3,v4,v5,v6,v7,v8,v9,v10,v11,v12,v13] T::L):=by
 have h:St W0 _ K (.raw b #[v0,a1,a2,a3,a4,a5,a6,a7,a8,a9,a10,a11,a12,a13] T::L):=h.rawSet 0 v0;have h:St W0 _ K (.raw b #[v0,v1,a2,a3,a4,a5,a6,a7,a8,a9,a10,a11,a12,a13] T::L):=h.rawSet 1 v1;have h:St W0 _ K (.raw b #[v0,v1,v2,a3,a4,a5,a6,a7,a8,a9,a10,a11,a12,a13] T::L):=h.rawSet 2 v2;have h:St W0 _ K (.raw b #[v0,v1,v2,v3,a4,a5,a6,a7,a8,a9,a10,a11,a12,a13] T::L):=h.rawSet 3 v3;have h:St W0 _ K (.raw b #[v0,v1,v2,v3,v4,a5,a6,a7,a8,a9,a10,a11,a12,a13] T::L):=h.rawSet 4 v4;have h:St W0 _ K (.raw b #[v0,v1,v2,v3,v4,v5,a6,a7,a8,a9,a10,a11,a12,a13] T::L):=h.rawSet 5 v5;have h:St W0 _ K (.raw b #[v0,v1,v2,v3,v4,v5,v6,a7,a8,a9,a10,a11,a12,a13] T::L):=h.rawSet 6 v6;have h:St W0 _ K (.raw b #[v0,v1,v2,v3,v4,v5,v6,v7,a8,a9,a10,a11,a12,a13] T::L):=h.rawSet 7 v7;have h:St W0 _ K (.raw b #[v0,v1,v2,v3,v4,v5,v6,v7,v8,a9,a10,a11,a12,a13] T::L):=h.rawSet 8 v8;have h:St W0 _ K (.raw b #[v0,v1,v2,v3,v4,v5,v6,v7,v8,v9,a10,a11,a12,a13] T::L):=h.rawSet 9 v9;have h:St W0 _ K (.raw b #[v0,v1,v2,v3,v4,v5,v6,v7,v8,v9,v10,a11,a12,a13] T::L):=h.rawSet 10 v10;have h:St W0 _ K (.raw b #[v0,v1,v2,v3,v4,v5,v6,v7,v8,v9,v10,v11,a12,a13] T::L):=h.rawSet 11 v11;have h:St W0 _ K (.raw b #[v0,v1,v2,v3,v4,v5,v6,v7,v8,v9,v10,v11,v12,a13] T::L):=h.rawSet 12 v12;have h:St W0 _ K (.raw b #[v0,v1,v2,v3,v4,v5,v6,v7,v8,v9,v10,v11,v12,v13] T::L):=h.rawSet 13 v13;exact h
def unpT:Nat→Bs→Except Int (List RecS)
 |0,s=>if s=[]then .ok []else .error 10
 |n+1,s=>if s=[]then .error 10 else match zCQ s with
  | .error e=> .error e
  | .ok y=>zE7 y.1 (unpT n (s.drop y.2))
theorem y7{p:Prop}(h:p:=by
  intro hh;have:=congrArg Jh hh;rw[Jf,Jl]at this;exact c this):p:=h
theorem zGm:∀(n:Nat) (rows:Bs) (pos:Nat),pos≤rows.length→unp n ⟨rows,pos,0⟩=unpT n (rows.drop pos)
 |0,rows,pos,hp=>by
  show(if (⟨rows,pos,0⟩:InS).left=0 then Except.ok []else Except.error (10:Int))=if rows.drop pos=[]then Except.ok []else Except.error (10:Int)
  have e:(⟨rows,pos,0⟩:InS).left=rows.length - pos:=rfl
  by_cases c:rows.length - pos=0
  ·rw[if_pos (by rw[e];exact c),if_pos (List.drop_of_length_le oM)]
  ·have hne:rows.drop pos≠[]:=by
    exact y7
   rw[if_neg (by rw[e];exact c),if_neg hne]
 |n+1,rows,pos,hp=>by
  show(if (⟨rows,pos,0⟩:InS).left=0 then Except.error (10:Int)else if (⟨rows,pos,0⟩:InS).record.2.err=0 then zE7 (⟨rows,pos,0⟩:InS).record.1 (unp n (⟨rows,pos,0⟩:InS).record.2)else .error (⟨rows,pos,0⟩:InS).record.2.err)=if rows.drop pos=[]then Except.error (10:Int)else match zCQ (rows.drop pos)with
   | .error e=>Except.error e
   | .ok y=>zE7 y.1 (unpT n ((rows.drop pos).drop y.2))
  have e:(⟨rows,pos,0⟩:InS).left=rows.length - pos:=rfl
  by_cases c:rows.length - pos=0
  ·rw[if_pos (by rw[e];exact c),if_pos (List.drop_of_length_le oM)]
  have hne:rows.drop pos≠[]:=by
   exact y7
  rw[if_neg (by rw[e];exact c),if_neg hne]
  cases hr:zCQ (rows.drop pos)with
  |error e=>
   obtain⟨he,q,_,hf⟩:=zDH.err rows pos e hp hr;rw[hf];simp only;rw[if_neg he]
  |ok y=>
   obtain⟨x,m⟩:=y;obtain⟨hpm,hf⟩:=zDH.ok rows pos x m hp hr;rw[hf];simp only[if_true];rw[zGm n rows (pos+m) hpm,List.drop_drop]
theorem zRG(n:Nat):unpT (n+1) []=.error 10:=rfl
theorem zq29{p:Prop}(h:p:=by
  show(if s=[]then Except.error (10:Int)else match zCQ s with
   | .error e=>Except.error e
   | .ok y=>zE7 y.1 (unpT n (s.drop y.2)))=_
  rw[if_neg h0,h]):p:=h
theorem zRH{n:Nat}{s:Bs}{e:Int}(h0:s≠[])(h:zCQ s=.error e):unpT (n+1) s=.error e:=by
 exact zq29
theorem zTc{n:Nat}{s:Bs}{x:RecS}{m:Nat}(h0:s≠[])(h:zCQ s=.ok (x,m)):unpT (n+1) s=zE7 x (unpT n (s.drop m)):=by
 exact zq29
theorem zPm(s:Bs):unpT 0 s=if s=[]then .ok []else .error 10:=rfl
theorem zNQ(n:Int):chk n=9↔¬n % 8=0:=by
 unfold chk zAg
 constructor
 ·intro h hh;rw[if_neg (by simp;omega)]at h
  split at h<;>cases h
 ·intro h;rw[if_pos (by simp;omega)]
theorem zJ2(n:Int)(h8:n % 8=0):chk n=if n<0∨63<n∨(32≤n∧n % 32<16)then 8 else 0:=by
 unfold chk;rw[if_neg (by unfold zAg;simp;omega)]
 by_cases c:n<0∨63<n
 ·rw[if_pos (by simp only[Bool.or_eq_true,decide_eq_true_eq];exact .inl c),if_pos oM]
 ·have h1:(decide (n<0)||decide (63<n))=false:=by simp;omega
  rw[h1,Bool.false_or]
  by_cases d:32≤n∧n % 32<16
  ·rw[if_pos (by unfold zAg;simp;omega),if_pos oM]
  ·rw[if_neg (by unfold zAg;simp;omega),if_neg oM]
theorem zKj(n:Int):∃c0 c1:UInt8,zAm n 2=[c0,c1]∧(c1.toNat:Int)=n % 256:=by
 have hl:=zAr n 2;have h1:=zHX n 2 1 dD
 rcases hb:zAm n 2 with _|⟨c0,_|⟨c1,t⟩⟩
 ·rw[hb]at hl;cases hl
 ·rw[hb]at hl;cases hl
 ·rw[hb]at hl;obtain rfl:t=[]:=by simp at hl;exact hl
  refine⟨c0,c1,rfl,?_⟩;simp only[hb]at h1
  simpa using h1.symm
end Go.Proofs.YtenojajfacacoaaGreatDoor
