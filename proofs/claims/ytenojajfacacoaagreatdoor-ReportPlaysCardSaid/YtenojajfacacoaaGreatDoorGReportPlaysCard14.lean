/- A text. -/
import Derived.Shelf.Strings.OnBuilder
import Derived.Shelf.Small.Strs
import Derived.Shelf.LaysM
import Derived.Shelf.Strconv.Itoa3
import Derived.Shelf.LaysC
import Derived.Shelf.Strconv.AtoiAll
import Derived.Shelf.Strings.Search3
import Derived.Shelf.Strings.Cut
import Derived.Shelf.Strings.Split
import Derived.Test.YtenojajfacacoaaGreatDoorGReportPlaysCard2
import Derived.Test.YtenojajfacacoaaGreatDoorGReportPlaysCard7
import Derived.RegionTactic
import Derived.WalkMore
import Derived.Lib.AtoiErrMem
import Derived.Lib.AtoiAll
import Derived.Sort.Grow
import Derived.Deep.RegionHeld3
import Derived.Deep.DeepCutAuto
import Derived.Test.YtenojajfacacoaaGreatDoorGReportPlaysCard5
import Derived.Deep.OwnRows
import Derived.Test.YtenojajfacacoaaGreatDoorGReportPlaysCard4
import Derived.Test.YtenojajfacacoaaGreatDoorGReportPlaysCard3
/- A text. -/
namespace Go.Proofs
open Go.Shelf
def Tryz.lays156_ren:Go.Shelf.Ren:=⟨fun|156=>73|165=>103|166=>76|169=>47|240=>84|241=>132|276=>118|277=>160|n=>n,fun|31=>69|9=>9|3=>3|4=>4|0=>0|20=>20|72=>80|76=>115|70=>78|37=>57|75=>83|127=>127|164=>167|5=>5|80=>86|n=>n,fun|n=>n⟩
theorem Tryz.lays156:Go.Proofs.Lays.n156 Tryz.prog Tryz.lays156_ren:={
 mixed:=by kernel_rfl
 f156:=Tryz.func73.trans (congrArg some (by kernel_rfl))
 f165:=Tryz.func103.trans (congrArg some (by kernel_rfl))
 f166:=Tryz.func76.trans (congrArg some (by kernel_rfl))
 f169:=Tryz.func47.trans (congrArg some (by kernel_rfl))
 f240:=Tryz.func84.trans (congrArg some (by kernel_rfl))
 f241:=Tryz.func132.trans (congrArg some (by kernel_rfl))
 f276:=Tryz.func118.trans (congrArg some (by kernel_rfl))
 f277:=Tryz.func160.trans (congrArg some (by kernel_rfl))
 t0:=Tryz.underlying0
 a0:=Tryz.isAgg0
 z0:=Tryz.sizeOf0
 v0:=Tryz.zeroValue0
 t3:=Tryz.underlying3
 a3:=Tryz.isAgg3
 z3:=Tryz.sizeOf3
 v3:=Tryz.zeroValue3
 t4:=Tryz.underlying4
 a4:=Tryz.isAgg4
 z4:=Tryz.sizeOf4
 v4:=Tryz.zeroValue4
 t9:=Tryz.underlying9
 a9:=Tryz.isAgg9
 z9:=Tryz.sizeOf9
 v9:=Tryz.zeroValue9
 t20:=Tryz.underlying20
 a20:=Tryz.isAgg20
 z20:=Tryz.sizeOf20
 v20:=Tryz.zeroValue20
 t31:=Tryz.underlying69
 a31:=Tryz.isAgg69
 z31:=Tryz.sizeOf69
 v31:=Tryz.zeroValue69
 t37:=Tryz.underlying57
 a37:=Tryz.isAgg57
 z37:=Tryz.sizeOf57
 v37:=Tryz.zeroValue57
 t70:=Tryz.underlying78
 a70:=Tryz.isAgg78
 z70:=Tryz.sizeOf78
 v70:=Tryz.zeroValue78
 t72:=Tryz.underlying80
 a72:=Tryz.isAgg80
 z72:=Tryz.sizeOf80
 v72:=Tryz.zeroValue80
 t75:=Tryz.underlying83
 a75:=Tryz.isAgg83
 z75:=Tryz.sizeOf83
 v75:=Tryz.zeroValue83
 t76:=Tryz.underlying115
 a76:=Tryz.isAgg115
 z76:=Tryz.sizeOf115
 v76:=Tryz.zeroValue115
 t127:=Tryz.underlying127
 a127:=Tryz.isAgg127
 z127:=Tryz.sizeOf127
 v127:=Tryz.zeroValue127
 t164:=Tryz.underlying167
 a164:=Tryz.isAgg167
 z164:=Tryz.sizeOf167
 v164:=Tryz.zeroValue167}
theorem Tryz.Builder_Extra_156:Builder.Extra Tryz.prog Tryz.lays156_ren:={
 sizeBuilder:=by kernel_rfl
 liesBuilder:=by kernel_rfl
 t5:=Tryz.underlying5
 a5:=Tryz.isAgg5
 z5:=Tryz.sizeOf5
 v5:=Tryz.zeroValue5
 infoByte:=by kernel_rfl
 cellsByte:=by kernel_rfl
 sizeByte:=by kernel_rfl
 neB5:=by decide}
open Go.RowKit in
theorem Tryz.strings_Join_none(a:Option Addr)(c:Nat)(sep:ByteArray)(w:World):
 Calls Tryz.prog 73 #[.slice a 0 c,.string sep] w fun e w'=>e=.returned (.string ⟨#[]⟩)∧w'=w:=Any.strings_Join_none Tryz.lays156 Tryz.Builder_Extra_156 a c sep w
open Go.RowKit in
theorem Tryz.strings_Join(bk o c:Nat)(xs:List ByteArray)(sep:ByteArray)(w:World)(hcells:∀(j:Nat) x,xs[j]? =some x→w.cell? ⟨bk,o+j,none⟩=some (.string x))(hbk:bk<w.heap.size)(hN:xs.length≤140737488355328)(hcap:xs.length≤c)(hlen:(Lib.join (xs.map (·.data.toList)) sep.data.toList).length≤140737488355328):
 Calls Tryz.prog 73 #[.slice (some ⟨bk,o,none⟩) xs.length c,.string sep] w fun e w'=>e=.returned (.string ⟨(Lib.join (xs.map (·.data.toList)) sep.data.toList).toArray⟩)∧Below w.heap.size w w':=Any.strings_Join Tryz.lays156 Tryz.Builder_Extra_156 bk o c xs sep w hcells hbk hN hcap hlen
def Tryz.lays137_ren:Go.Shelf.Ren:=⟨fun|137=>45|217=>83|266=>117|n=>n,fun|9=>9|5=>5|3=>3|n=>n,fun|n=>n⟩
theorem Tryz.lays137:Go.Proofs.Lays.n137 Tryz.prog Tryz.lays137_ren:={
 mixed:=by kernel_rfl
 f137:=Tryz.func45.trans (congrArg some (by kernel_rfl))
 f217:=Tryz.func83.trans (congrArg some (by kernel_rfl))
 f266:=Tryz.func117.trans (congrArg some (by kernel_rfl))
 t3:=Tryz.underlying3
 a3:=Tryz.isAgg3
 z3:=Tryz.sizeOf3
 v3:=Tryz.zeroValue3
 t5:=Tryz.underlying5
 a5:=Tryz.isAgg5
 z5:=Tryz.sizeOf5
 v5:=Tryz.zeroValue5
 t9:=Tryz.underlying9
 a9:=Tryz.isAgg9
 z9:=Tryz.sizeOf9
 v9:=Tryz.zeroValue9}
open Go.RowKit in
theorem Tryz.strings_IndexByte(s:ByteArray)(c:Int)(w:World):
 Calls Tryz.prog 45 #[.string s,.int .u8 c] w fun e w'=>e=.returned (.int .i64 (Lib.indexByte s.data.toList c.toNat.toUInt8))∧w'=w:=Any.strings_IndexByte Tryz.lays137 s c w
def Tryz.laysM171_ren:Go.Shelf.Ren:=⟨fun|171=>37|243=>74|246=>104|283=>133|284=>134|285=>135|286=>136|129=>162|317=>161|318=>163|319=>164|320=>165|337=>186|338=>187|n=>n,fun|3=>3|9=>9|2=>2|4=>4|171=>181|0=>0|53=>140|37=>57|5=>5|173=>184|212=>219|51=>60|20=>20|213=>220|46=>85|232=>242|233=>243|n=>n,fun|17=>1|18=>2|19=>3|n=>n⟩
theorem Tryz.laysM171:Go.Proofs.LaysM.n171 Tryz.prog Tryz.laysM171_ren:={
 mixed:=by kernel_rfl
 f129:=Tryz.func162.trans (congrArg some (by kernel_rfl))
 f171:=Tryz.func37.trans (congrArg some (by kernel_rfl))
 f243:=Tryz.func74.trans (congrArg some (by kernel_rfl))
 f246:=Tryz.func104.trans (congrArg some (by kernel_rfl))
 f283:=Tryz.func133.trans (congrArg some (by kernel_rfl))
 f284:=Tryz.func134.trans (congrArg some (by kernel_rfl))
 f285:=Tryz.func135.trans (congrArg some (by kernel_rfl))
 f286:=Tryz.func136.trans (congrArg some (by kernel_rfl))
 f317:=Tryz.func161.trans (congrArg some (by kernel_rfl))
 f318:=Tryz.func163.trans (congrArg some (by kernel_rfl))
 f319:=Tryz.func164.trans (congrArg some (by kernel_rfl))
 f320:=Tryz.func165.trans (congrArg some (by kernel_rfl))
 f337:=Tryz.func186.trans (congrArg some (by kernel_rfl))
 f338:=Tryz.func187.trans (congrArg some (by kernel_rfl))
 t0:=Tryz.underlying0
 a0:=Tryz.isAgg0
 z0:=Tryz.sizeOf0
 v0:=Tryz.zeroValue0
 t2:=Tryz.underlying2
 a2:=Tryz.isAgg2
 z2:=Tryz.sizeOf2
 v2:=Tryz.zeroValue2
 t3:=Tryz.underlying3
 a3:=Tryz.isAgg3
 z3:=Tryz.sizeOf3
 v3:=Tryz.zeroValue3
 t4:=Tryz.underlying4
 a4:=Tryz.isAgg4
 z4:=Tryz.sizeOf4
 v4:=Tryz.zeroValue4
 t5:=Tryz.underlying5
 a5:=Tryz.isAgg5
 z5:=Tryz.sizeOf5
 v5:=Tryz.zeroValue5
 t9:=Tryz.underlying9
 a9:=Tryz.isAgg9
 z9:=Tryz.sizeOf9
 v9:=Tryz.zeroValue9
 t20:=Tryz.underlying20
 a20:=Tryz.isAgg20
 z20:=Tryz.sizeOf20
 v20:=Tryz.zeroValue20
 t37:=Tryz.underlying57
 a37:=Tryz.isAgg57
 z37:=Tryz.sizeOf57
 v37:=Tryz.zeroValue57
 t46:=Tryz.underlying85
 a46:=Tryz.isAgg85
 z46:=Tryz.sizeOf85
 v46:=Tryz.zeroValue85
 t51:=Tryz.underlying60
 a51:=Tryz.isAgg60
 z51:=Tryz.sizeOf60
 v51:=Tryz.zeroValue60
 t53:=Tryz.underlying140
 a53:=Tryz.isAgg140
 z53:=Tryz.sizeOf140
 v53:=Tryz.zeroValue140
 t171:=Tryz.underlying181
 a171:=Tryz.isAgg181
 z171:=Tryz.sizeOf181
 v171:=Tryz.zeroValue181
 t173:=Tryz.underlying184
 a173:=Tryz.isAgg184
 z173:=Tryz.sizeOf184
 v173:=Tryz.zeroValue184
 t212:=Tryz.underlying219
 a212:=Tryz.isAgg219
 z212:=Tryz.sizeOf219
 v212:=Tryz.zeroValue219
 t213:=Tryz.underlying220
 a213:=Tryz.isAgg220
 z213:=Tryz.sizeOf220
 t232:=Tryz.underlying242
 a232:=Tryz.isAgg242
 z232:=Tryz.sizeOf242
 v232:=Tryz.zeroValue242
 t233:=Tryz.underlying243
 a233:=Tryz.isAgg243
 z233:=Tryz.sizeOf243
 v233:=Tryz.zeroValue243
 g17:=by kernel_rfl
 g18:=by kernel_rfl
 g19:=by kernel_rfl
 i0:=by kernel_rfl
 i2:=by kernel_rfl
 i3:=by kernel_rfl
 i4:=by kernel_rfl
 i5:=by kernel_rfl
 i9:=by kernel_rfl
 i20:=by kernel_rfl
 i37:=by kernel_rfl
 i46:=by kernel_rfl
 i51:=by kernel_rfl
 i53:=by kernel_rfl
 i171:=by kernel_rfl
 i173:=by kernel_rfl
 i212:=by kernel_rfl
 i232:=by kernel_rfl
 i233:=by kernel_rfl
 m17:=by kernel_rfl
 m18:=by kernel_rfl
 m19:=by kernel_rfl}
open Go.RowKit Go.Sort Go.Lib in
theorem Tryz.strconv_Itoa(n:Int)(h0: -9223372036854775808≤n)(h1:n≤9223372036854775807)(w:World)(htab:Lib.TabIs Tryz.prog w "internal/strconv.uint64pow10" .u64 Lib.pow10Tab):
 Calls Tryz.prog 37 #[.int .i64 n] w fun e w'=>e=.returned (.string ⟨(Lib.itoa n).toArray⟩)∧∃k os,w'=grow (w.drewN k) os:=Any.strconv_Itoa Tryz.laysM171 n h0 h1 w htab
def Tryz.laysC172_ren:Go.Shelf.Ren:=⟨fun|172=>172|244=>191|245=>192|247=>202|279=>203|280=>204|281=>205|282=>206|287=>208|316=>209|171=>37|205=>210|321=>213|322=>214|243=>74|246=>104|283=>133|284=>134|285=>135|286=>136|129=>162|317=>161|318=>163|319=>164|320=>165|337=>186|338=>187|n=>n,fun|9=>9|3=>3|75=>83|76=>115|4=>4|5=>5|167=>251|37=>57|0=>0|85=>252|2=>2|168=>254|53=>140|175=>262|46=>85|210=>265|127=>127|145=>272|143=>270|21=>21|171=>181|173=>184|212=>219|51=>60|20=>20|213=>220|232=>242|233=>243|80=>86|n=>n,fun|15=>6|16=>7|17=>1|18=>2|19=>3|n=>n⟩
theorem Tryz.laysC172:Go.Proofs.LaysC.n172 Tryz.prog Tryz.laysC172_ren:={
 mixed:=by kernel_rfl
 f129:=Tryz.func162.trans (congrArg some (by kernel_rfl))
 f171:=Tryz.func37.trans (congrArg some (by kernel_rfl))
 f172:=Tryz.func172.trans (congrArg some (by kernel_rfl))
 f205:=Tryz.func210.trans (congrArg some (by kernel_rfl))
 f243:=Tryz.func74.trans (congrArg some (by kernel_rfl))
 f244:=Tryz.func191.trans (congrArg some (by kernel_rfl))
 f245:=Tryz.func192.trans (congrArg some (by kernel_rfl))
 f246:=Tryz.func104.trans (congrArg some (by kernel_rfl))
 f247:=Tryz.func202.trans (congrArg some (by kernel_rfl))
 f279:=Tryz.func203.trans (congrArg some (by kernel_rfl))
 f280:=Tryz.func204.trans (congrArg some (by kernel_rfl))
 f281:=Tryz.func205.trans (congrArg some (by kernel_rfl))
 f282:=Tryz.func206.trans (congrArg some (by kernel_rfl))
 f283:=Tryz.func133.trans (congrArg some (by kernel_rfl))
 f284:=Tryz.func134.trans (congrArg some (by kernel_rfl))
 f285:=Tryz.func135.trans (congrArg some (by kernel_rfl))
 f286:=Tryz.func136.trans (congrArg some (by kernel_rfl))
 f287:=Tryz.func208.trans (congrArg some (by kernel_rfl))
 f316:=Tryz.func209.trans (congrArg some (by kernel_rfl))
 f317:=Tryz.func161.trans (congrArg some (by kernel_rfl))
 f318:=Tryz.func163.trans (congrArg some (by kernel_rfl))
 f319:=Tryz.func164.trans (congrArg some (by kernel_rfl))
 f320:=Tryz.func165.trans (congrArg some (by kernel_rfl))
 f321:=Tryz.func213.trans (congrArg some (by kernel_rfl))
 f322:=Tryz.func214.trans (congrArg some (by kernel_rfl))
 f337:=Tryz.func186.trans (congrArg some (by kernel_rfl))
 f338:=Tryz.func187.trans (congrArg some (by kernel_rfl))
 t0:=Tryz.underlying0
 a0:=Tryz.isAgg0
 z0:=Tryz.sizeOf0
 v0:=Tryz.zeroValue0
 t2:=Tryz.underlying2
 a2:=Tryz.isAgg2
 z2:=Tryz.sizeOf2
 v2:=Tryz.zeroValue2
 t3:=Tryz.underlying3
 a3:=Tryz.isAgg3
 z3:=Tryz.sizeOf3
 v3:=Tryz.zeroValue3
 t4:=Tryz.underlying4
 a4:=Tryz.isAgg4
 z4:=Tryz.sizeOf4
 v4:=Tryz.zeroValue4
 t5:=Tryz.underlying5
 a5:=Tryz.isAgg5
 z5:=Tryz.sizeOf5
 v5:=Tryz.zeroValue5
 t9:=Tryz.underlying9
 a9:=Tryz.isAgg9
 z9:=Tryz.sizeOf9
 v9:=Tryz.zeroValue9
 t20:=Tryz.underlying20
 a20:=Tryz.isAgg20
 z20:=Tryz.sizeOf20
 v20:=Tryz.zeroValue20
 t21:=Tryz.underlying21
 a21:=Tryz.isAgg21
 z21:=Tryz.sizeOf21
 v21:=Tryz.zeroValue21
 t37:=Tryz.underlying57
 a37:=Tryz.isAgg57
 z37:=Tryz.sizeOf57
 v37:=Tryz.zeroValue57
 t46:=Tryz.underlying85
 a46:=Tryz.isAgg85
 z46:=Tryz.sizeOf85
 v46:=Tryz.zeroValue85
 t51:=Tryz.underlying60
 a51:=Tryz.isAgg60
 z51:=Tryz.sizeOf60
 v51:=Tryz.zeroValue60
 t53:=Tryz.underlying140
 a53:=Tryz.isAgg140
 z53:=Tryz.sizeOf140
 v53:=Tryz.zeroValue140
 t75:=Tryz.underlying83
 a75:=Tryz.isAgg83
 z75:=Tryz.sizeOf83
 v75:=Tryz.zeroValue83
 t76:=Tryz.underlying115
 a76:=Tryz.isAgg115
 z76:=Tryz.sizeOf115
 v76:=Tryz.zeroValue115
 t85:=Tryz.underlying252
 a85:=Tryz.isAgg252
 z85:=Tryz.sizeOf252
 v85:=Tryz.zeroValue252
 t127:=Tryz.underlying127
 a127:=Tryz.isAgg127
 z127:=Tryz.sizeOf127
 v127:=Tryz.zeroValue127
 t143:=Tryz.underlying270
 a143:=Tryz.isAgg270
 z143:=Tryz.sizeOf270
 v143:=Tryz.zeroValue270
 t145:=Tryz.underlying272
 a145:=Tryz.isAgg272
 z145:=Tryz.sizeOf272
 v145:=Tryz.zeroValue272
 t167:=Tryz.underlying251
 a167:=Tryz.isAgg251
 z167:=Tryz.sizeOf251
 v167:=Tryz.zeroValue251
 t168:=Tryz.underlying254
 a168:=Tryz.isAgg254
 z168:=Tryz.sizeOf254
 v168:=Tryz.zeroValue254
 t171:=Tryz.underlying181
 a171:=Tryz.isAgg181
 z171:=Tryz.sizeOf181
 v171:=Tryz.zeroValue181
 t173:=Tryz.underlying184
 a173:=Tryz.isAgg184
 z173:=Tryz.sizeOf184
 v173:=Tryz.zeroValue184
 t175:=Tryz.underlying262
 a175:=Tryz.isAgg262
 z175:=Tryz.sizeOf262
 v175:=Tryz.zeroValue262
 t210:=Tryz.underlying265
 a210:=Tryz.isAgg265
 z210:=Tryz.sizeOf265
 v210:=Tryz.zeroValue265
 t212:=Tryz.underlying219
 a212:=Tryz.isAgg219
 z212:=Tryz.sizeOf219
 v212:=Tryz.zeroValue219
 t213:=Tryz.underlying220
 a213:=Tryz.isAgg220
 z213:=Tryz.sizeOf220
 t232:=Tryz.underlying242
 a232:=Tryz.isAgg242
 z232:=Tryz.sizeOf242
 v232:=Tryz.zeroValue242
 t233:=Tryz.underlying243
 a233:=Tryz.isAgg243
 z233:=Tryz.sizeOf243
 v233:=Tryz.zeroValue243
 g15:=by kernel_rfl
 g16:=by kernel_rfl
 g17:=by kernel_rfl
 g18:=by kernel_rfl
 g19:=by kernel_rfl
 t80:=Tryz.underlying86
 a80:=Tryz.isAgg86
 z80:=Tryz.sizeOf86
 v80:=Tryz.zeroValue86
 i0:=by kernel_rfl
 i2:=by kernel_rfl
 i3:=by kernel_rfl
 i4:=by kernel_rfl
 i5:=by kernel_rfl
 i9:=by kernel_rfl
 i20:=by kernel_rfl
 i21:=by kernel_rfl
 i37:=by kernel_rfl
 i46:=by kernel_rfl
 i51:=by kernel_rfl
 i53:=by kernel_rfl
 i75:=by kernel_rfl
 i76:=by kernel_rfl
 i80:=by kernel_rfl
 i85:=by kernel_rfl
 i127:=by kernel_rfl
 i143:=by kernel_rfl
 i145:=by kernel_rfl
 i167:=by kernel_rfl
 i168:=by kernel_rfl
 i171:=by kernel_rfl
 i173:=by kernel_rfl
 i175:=by kernel_rfl
 i210:=by kernel_rfl
 i212:=by kernel_rfl
 i232:=by kernel_rfl
 i233:=by kernel_rfl
 m15:=by kernel_rfl
 m16:=by kernel_rfl
 m17:=by kernel_rfl
 m18:=by kernel_rfl
 m19:=by kernel_rfl
 c0:=by kernel_rfl
 c2:=by kernel_rfl
 c3:=by kernel_rfl
 c4:=by kernel_rfl
 c5:=by kernel_rfl
 c9:=by kernel_rfl
 c20:=by kernel_rfl
 c21:=by kernel_rfl
 c37:=by kernel_rfl
 c46:=by kernel_rfl
 c51:=by kernel_rfl
 c53:=by kernel_rfl
 c75:=by kernel_rfl
 c76:=by kernel_rfl
 c80:=by kernel_rfl
 c85:=by kernel_rfl
 c127:=by kernel_rfl
 c143:=by kernel_rfl
 c145:=by kernel_rfl
 c167:=by kernel_rfl
 c168:=by kernel_rfl
 c171:=by kernel_rfl
 c173:=by kernel_rfl
 c175:=by kernel_rfl
 c210:=by kernel_rfl
 c212:=by kernel_rfl
 c213:=by kernel_rfl
 c232:=by kernel_rfl
 c233:=by kernel_rfl}
open Go.RowKit in
theorem Tryz.strconv_Atoi_ok(s:ByteArray)(hmax:s.size≤9223372036854775806)(v:Int)(h:Lib.atoiAll s.data.toList=.ok v)(w:World):
 Calls Tryz.prog 172 #[.string s] w fun e w'=>e=.returned (.tuple #[.int .i64 v,.nilIface])∧(w'=w∨∃t,w'=Lib.bytesWorld w 5 t):=Any.strconv_Atoi_ok Tryz.laysC172 s hmax v h w
open Go.RowKit in
theorem Tryz.strconv_Atoi_syntax(s:ByteArray)(hlim:s.size≤281474976710656)(h:Lib.atoiAll s.data.toList=Lib.atoiAll [])(ev:Value)(w:World)(hv:w.cell? ⟨6,0,none⟩=some ev)(hev:ev=.nilIface∨∃te pe,ev=.iface te pe):
 Calls Tryz.prog 172 #[.string s] w fun e w'=>∃N,e=.returned (.tuple #[.int .i64 (0),.iface 254 (.pointer (some ⟨N,0,none⟩))])∧w.heap.size≤N∧w'.heap[N]? =some (.cells #[.string ⟨#[65,116,111,105]⟩,.string s,ev] 265 (0,0))∧Below w.heap.size w w':=Any.strconv_Atoi_syntax Tryz.laysC172 s hlim h ev w hv hev
open Go.RowKit in
theorem Tryz.strconv_Atoi_range(s:ByteArray)(hlim:s.size≤281474976710656)(h:Lib.atoiAll s.data.toList=.range)(ev:Value)(w:World)(hv:w.cell? ⟨7,0,none⟩=some ev)(hev:ev=.nilIface∨∃te pe,ev=.iface te pe):
 Calls Tryz.prog 172 #[.string s] w fun e w'=>∃N,e=.returned (.tuple #[.int .i64 (Lib.atoiSat s.data.toList),.iface 254 (.pointer (some ⟨N,0,none⟩))])∧w.heap.size≤N∧w'.heap[N]? =some (.cells #[.string ⟨#[65,116,111,105]⟩,.string s,ev] 265 (0,0))∧Below w.heap.size w w':=Any.strconv_Atoi_range Tryz.laysC172 s hlim h ev w hv hev
def Tryz.lays144_ren:Go.Shelf.Ren:=⟨fun|144=>173|143=>144|219=>138|217=>83|225=>169|224=>170|267=>171|266=>117|314=>190|n=>n,fun|9=>9|4=>4|3=>3|5=>5|46=>85|146=>238|51=>60|n=>n,fun|1=>0|n=>n⟩
theorem Tryz.lays144:Go.Proofs.Lays.n144 Tryz.prog Tryz.lays144_ren:={
 mixed:=by kernel_rfl
 f143:=Tryz.func144.trans (congrArg some (by kernel_rfl))
 f144:=Tryz.func173.trans (congrArg some (by kernel_rfl))
 f217:=Tryz.func83.trans (congrArg some (by kernel_rfl))
 f219:=Tryz.func138.trans (congrArg some (by kernel_rfl))
 f224:=Tryz.func170.trans (congrArg some (by kernel_rfl))
 f225:=Tryz.func169.trans (congrArg some (by kernel_rfl))
 f266:=Tryz.func117.trans (congrArg some (by kernel_rfl))
 f267:=Tryz.func171.trans (congrArg some (by kernel_rfl))
 f314:=Tryz.func190.trans (congrArg some (by kernel_rfl))
 t3:=Tryz.underlying3
 a3:=Tryz.isAgg3
 z3:=Tryz.sizeOf3
 v3:=Tryz.zeroValue3
 t4:=Tryz.underlying4
 a4:=Tryz.isAgg4
 z4:=Tryz.sizeOf4
 v4:=Tryz.zeroValue4
 t5:=Tryz.underlying5
 a5:=Tryz.isAgg5
 z5:=Tryz.sizeOf5
 v5:=Tryz.zeroValue5
 t9:=Tryz.underlying9
 a9:=Tryz.isAgg9
 z9:=Tryz.sizeOf9
 v9:=Tryz.zeroValue9
 t46:=Tryz.underlying85
 a46:=Tryz.isAgg85
 z46:=Tryz.sizeOf85
 v46:=Tryz.zeroValue85
 t51:=Tryz.underlying60
 a51:=Tryz.isAgg60
 z51:=Tryz.sizeOf60
 v51:=Tryz.zeroValue60
 t146:=Tryz.underlying238
 a146:=Tryz.isAgg238
 z146:=Tryz.sizeOf238
 v146:=Tryz.zeroValue238
 g1:=by kernel_rfl}
open Go.RowKit Go.Lib in
theorem Tryz.strings_Contains_one(s:ByteArray)(c:UInt8)(w:World):
 Calls Tryz.prog 173 #[.string s,.string ⟨#[c]⟩] w fun e w'=>e=.returned (.bool (decide (0≤Lib.indexByte s.data.toList c)))∧w'=w:=Any.strings_Contains_one Tryz.lays144 s c w
def Tryz.lays145_ren:Go.Shelf.Ren:=⟨fun|145=>80|220=>110|219=>138|217=>83|225=>169|224=>170|267=>171|266=>117|314=>190|n=>n,fun|9=>9|4=>4|59=>123|3=>3|5=>5|46=>85|146=>238|51=>60|n=>n,fun|1=>0|n=>n⟩
theorem Tryz.lays145:Go.Proofs.Lays.n145 Tryz.prog Tryz.lays145_ren:={
 mixed:=by kernel_rfl
 f145:=Tryz.func80.trans (congrArg some (by kernel_rfl))
 f217:=Tryz.func83.trans (congrArg some (by kernel_rfl))
 f219:=Tryz.func138.trans (congrArg some (by kernel_rfl))
 f220:=Tryz.func110.trans (congrArg some (by kernel_rfl))
 f224:=Tryz.func170.trans (congrArg some (by kernel_rfl))
 f225:=Tryz.func169.trans (congrArg some (by kernel_rfl))
 f266:=Tryz.func117.trans (congrArg some (by kernel_rfl))
 f267:=Tryz.func171.trans (congrArg some (by kernel_rfl))
 f314:=Tryz.func190.trans (congrArg some (by kernel_rfl))
 t3:=Tryz.underlying3
 a3:=Tryz.isAgg3
 z3:=Tryz.sizeOf3
 v3:=Tryz.zeroValue3
 t4:=Tryz.underlying4
 a4:=Tryz.isAgg4
 z4:=Tryz.sizeOf4
 v4:=Tryz.zeroValue4
 t5:=Tryz.underlying5
 a5:=Tryz.isAgg5
 z5:=Tryz.sizeOf5
 v5:=Tryz.zeroValue5
 t9:=Tryz.underlying9
 a9:=Tryz.isAgg9
 z9:=Tryz.sizeOf9
 v9:=Tryz.zeroValue9
 t46:=Tryz.underlying85
 a46:=Tryz.isAgg85
 z46:=Tryz.sizeOf85
 v46:=Tryz.zeroValue85
 t51:=Tryz.underlying60
 a51:=Tryz.isAgg60
 z51:=Tryz.sizeOf60
 v51:=Tryz.zeroValue60
 t59:=Tryz.underlying123
 a59:=Tryz.isAgg123
 z59:=Tryz.sizeOf123
 v59:=Tryz.zeroValue123
 t146:=Tryz.underlying238
 a146:=Tryz.isAgg238
 z146:=Tryz.sizeOf238
 v146:=Tryz.zeroValue238
 g1:=by kernel_rfl}
open Go.RowKit Go.Lib in
theorem Tryz.strings_Cut(s sep:ByteArray)(m:Int)(w:World)(hs:s.size<4294967281)(hm:w.cell? ⟨0,0,none⟩=some (.int .i64 m)):
 Calls Tryz.prog 80 #[.string s,.string sep] w fun e w'=>e=.returned (.tuple #[.string ⟨(Lib.cut s.data.toList sep.data.toList).1.toArray⟩,.string ⟨(Lib.cut s.data.toList sep.data.toList).2.1.toArray⟩,.bool (Lib.cut s.data.toList sep.data.toList).2.2])∧∃n,w'=w.drewN n:=Any.strings_Cut Tryz.lays145 s sep m w hs hm
def Tryz.lays146_ren:Go.Shelf.Ren:=⟨fun|146=>82|221=>116|268=>142|138=>143|143=>144|195=>174|197=>175|218=>176|219=>138|260=>193|217=>83|225=>169|224=>170|267=>171|266=>117|314=>190|n=>n,fun|9=>9|31=>69|3=>3|4=>4|0=>0|105=>224|21=>21|5=>5|46=>85|119=>257|139=>260|138=>259|146=>238|51=>60|n=>n,fun|1=>0|3=>4|4=>5|n=>n⟩
theorem Tryz.lays146:Go.Proofs.Lays.n146 Tryz.prog Tryz.lays146_ren:={
 mixed:=by kernel_rfl
 f138:=Tryz.func143.trans (congrArg some (by kernel_rfl))
 f143:=Tryz.func144.trans (congrArg some (by kernel_rfl))
 f146:=Tryz.func82.trans (congrArg some (by kernel_rfl))
 f195:=Tryz.func174.trans (congrArg some (by kernel_rfl))
 f197:=Tryz.func175.trans (congrArg some (by kernel_rfl))
 f217:=Tryz.func83.trans (congrArg some (by kernel_rfl))
 f218:=Tryz.func176.trans (congrArg some (by kernel_rfl))
 f219:=Tryz.func138.trans (congrArg some (by kernel_rfl))
 f221:=Tryz.func116.trans (congrArg some (by kernel_rfl))
 f224:=Tryz.func170.trans (congrArg some (by kernel_rfl))
 f225:=Tryz.func169.trans (congrArg some (by kernel_rfl))
 f260:=Tryz.func193.trans (congrArg some (by kernel_rfl))
 f266:=Tryz.func117.trans (congrArg some (by kernel_rfl))
 f267:=Tryz.func171.trans (congrArg some (by kernel_rfl))
 f268:=Tryz.func142.trans (congrArg some (by kernel_rfl))
 f314:=Tryz.func190.trans (congrArg some (by kernel_rfl))
 t0:=Tryz.underlying0
 a0:=Tryz.isAgg0
 z0:=Tryz.sizeOf0
 v0:=Tryz.zeroValue0
 t3:=Tryz.underlying3
 a3:=Tryz.isAgg3
 z3:=Tryz.sizeOf3
 v3:=Tryz.zeroValue3
 t4:=Tryz.underlying4
 a4:=Tryz.isAgg4
 z4:=Tryz.sizeOf4
 v4:=Tryz.zeroValue4
 t5:=Tryz.underlying5
 a5:=Tryz.isAgg5
 z5:=Tryz.sizeOf5
 v5:=Tryz.zeroValue5
 t9:=Tryz.underlying9
 a9:=Tryz.isAgg9
 z9:=Tryz.sizeOf9
 v9:=Tryz.zeroValue9
 t21:=Tryz.underlying21
 a21:=Tryz.isAgg21
 z21:=Tryz.sizeOf21
 v21:=Tryz.zeroValue21
 t31:=Tryz.underlying69
 a31:=Tryz.isAgg69
 z31:=Tryz.sizeOf69
 v31:=Tryz.zeroValue69
 t46:=Tryz.underlying85
 a46:=Tryz.isAgg85
 z46:=Tryz.sizeOf85
 v46:=Tryz.zeroValue85
 t51:=Tryz.underlying60
 a51:=Tryz.isAgg60
 z51:=Tryz.sizeOf60
 v51:=Tryz.zeroValue60
 t105:=Tryz.underlying224
 a105:=Tryz.isAgg224
 z105:=Tryz.sizeOf224
 v105:=Tryz.zeroValue224
 t119:=Tryz.underlying257
 a119:=Tryz.isAgg257
 z119:=Tryz.sizeOf257
 t138:=Tryz.underlying259
 a138:=Tryz.isAgg259
 z138:=Tryz.sizeOf259
 v138:=Tryz.zeroValue259
 t139:=Tryz.underlying260
 a139:=Tryz.isAgg260
 z139:=Tryz.sizeOf260
 v139:=Tryz.zeroValue260
 t146:=Tryz.underlying238
 a146:=Tryz.isAgg238
 z146:=Tryz.sizeOf238
 v146:=Tryz.zeroValue238
 g1:=by kernel_rfl
 g3:=by kernel_rfl
 g4:=by kernel_rfl}
open Go.RowKit Go.Lib in
theorem Tryz.strings_Split(s sep:ByteArray)(m:Int)(w:World)(hs:s.size<4294967281)(hm:w.cell? ⟨0,0,none⟩=some (.int .i64 m))(h1:1≤sep.size):
 Calls Tryz.prog 82 #[.string s,.string sep] w fun e w'=>
  e=.returned (.slice (some ⟨w.heap.size,0,none⟩) (Lib.countB s sep+1) (Lib.countB s sep+1))∧w'=w.alloc (.cells ((Lib.splitB sep 0 (Lib.countB s sep) s).map Value.string).toArray 9):=Any.strings_Split Tryz.lays146 (by kernel_rfl) s sep m w hs hm h1
end Go.Proofs
namespace Go.Proofs.YtenojajfacacoaaGreatDoor
open Go.RowKit
open Go.Value renaming bool→U, string→Z, slice→Ja, int→I, pointer→Jc
open Go.Ending renaming returned→Jb
open _root_.Nat renaming le_refl→Jo, zero_le→Ji, add_assoc→Jm
open Go.IntKind renaming i64→O
open _root_.Go.Proofs.Tryz renaming prog→Jd
open _root_.List renaming length_cons→Jg, take_of_length_le→Jj, length_take→Jk, length_append→Je, length→Jh, take→Jq, getElem_mem→Jp, length_drop→Jf, length_nil→Jl, length_map→Jn
set_option maxHeartbeats 8000000
set_option maxRecDepth 100000
variable {W0 w:World}{K:Know}{L:List Res}
theorem zPw{f:FuncId}{a:Array Value}{r:Value}(c:Calls Jd f a w fun e w'=>e=Jb r∧w'=w)(h:St W0 w K L):Calls Jd f a w fun e w'=>e=Jb r∧St W0 w' K L:=
 c.mono (by rintro e w' ⟨rfl,rfl⟩;exact⟨rfl,h⟩)
theorem zIv(c:UInt8)(v:Int)(hv:digI c=v)(h:St W0 w K L):
 Calls Jd 45 #[Z ⟨#[48,49,50,51,52,53,54,55,56,57,97,98,99,100,101,102]⟩,.int .u8 c.toNat] w fun e w'=>e=Jb (I O v)∧St W0 w' K L:=by
 have h1:=Tryz.strings_IndexByte ⟨#[48,49,50,51,52,53,54,55,56,57,97,98,99,100,101,102]⟩ c.toNat w
 have e1:Lib.indexByte (⟨#[48,49,50,51,52,53,54,55,56,57,97,98,99,100,101,102]⟩:ByteArray).data.toList ((c.toNat:Int).toNat.toUInt8)=v:=by
  have e2:(c.toNat:Int).toNat.toUInt8=c:=by rw[Int.toNat_natCast];exact UInt8.ofNat_toNat
  rw[e2];exact hv
 rw[e1]at h1;exact zPw h1 h
theorem or_all:∀a b:Fin 16,bits BinOp.or IntKind.i64 ((a.1:Int)*16) (b.1:Int)=(a.1:Int)*16+(b.1:Int):=by decide+kernel
theorem or_hex(va vb:Int)(ha:0≤va∧va<16)(hb:0≤vb∧vb<16):bits BinOp.or IntKind.i64 (va*16) vb % 256=(((UInt8.ofNat (va*16+vb).toNat).toNat:Nat):Int):=by
 have h:=or_all ⟨va.toNat,oM⟩ ⟨vb.toNat,oM⟩;simp only at h;rw[Int.toNat_of_nonneg ha.1,Int.toNat_of_nonneg hb.1]at h;rw[h,UInt8.toNat_ofNat']
 omega
theorem zL5(s:Bs)(h1:s≠[45])(h2:s=[]∨s.length % 2≠0)(hs:s.length≤1000000)(h:St W0 w K L):
 Calls Jd 18 #[Z (bb s)] w fun en w'=>en=Jb (.tuple #[Z ⟨#[]⟩,U false])∧St W0 w' K L:=by
 have q1:(s==[45])=false:=by rw[beq_eq_false_iff_ne];exact h1
 have H:=hQd h
 rcases h2 with rfl|h2
 ·clear h h1;go_enter Tryz.func18,Tryz.ntmps18;go_wp2;go_ret2;exact⟨rfl,H.out⟩
 ·have q3:(s==[])=false:=by rw[beq_eq_false_iff_ne];rintro rfl;exact h2 rfl
  have q4:(s !=[])=true:=by simp[bne,q3]
  have hsl:(s.length:Int)≤1000000:=by omega
  have q5:(s.length:Int) % 2=1:=by omega
  have q6:(s.length:Int).tmod 2=1:=by rw[Int.tmod_eq_emod_of_nonneg oM];exact q5
  clear h h1 h2;go_enter Tryz.func18,Tryz.ntmps18;go_wp2;go_ret2;exact⟨rfl,H.out⟩
theorem zJl(h:St W0 w K L):
 Calls Jd 18 #[Z ⟨#[45]⟩] w fun en w'=>en=Jb (.tuple #[Z ⟨#[]⟩,U true])∧St W0 w' K L:=by
 have H:=hQd h;clear h;go_enter Tryz.func18,Tryz.ntmps18;go_wp2;go_ret2;exact⟨rfl,H.out⟩
def hexR (s:Bs):Bs×Bool:=match zCf s with
 |some c=>(c,true)
 |none=>([],false)
theorem zL6(s:Bs)(h1:s≠[45])(h2:s≠[])(h3:s.length % 2=0)(hs:s.length≤1000000)(h:St W0 w K L):
 Calls Jd 18 #[Z (bb s)] w fun en w'=>en=Jb (.tuple #[Z (bb (hexR s).1),U (hexR s).2])∧St W0 w' K L:=by
 have q1:(s==[45])=false:=by rw[beq_eq_false_iff_ne];exact h1
 have q3:(s==[])=false:=by rw[beq_eq_false_iff_ne];exact h2
 have q4:(s !=[])=true:=by simp[bne,q3]
 have hsl:(s.length:Int)≤1000000:=by omega
 have q5:(s.length:Int) % 2=0:=by omega
 have q6:(s.length:Int).tmod 2=0:=by rw[Int.tmod_eq_emod_of_nonneg oM];exact q5
 have H3:=hQd h3;have H2:=hQd h2;obtain⟨b,hb⟩:=eX w.heap.size;have g1:=h.sbNew;rw[hb]at g1;have H:=hQd g1;clear h g1 h1 h2 h3;go_enter Tryz.func18,Tryz.ntmps18;go_wp2_with fail;go_loopw [5] (fun iv wr=>∃(j:Nat) (d:Bs),j≤s.length∧iv=I O j∧Hid (j % 2=0)∧Hid (d.length≤j)∧Hid (zCf s=(zCf (s.drop j)).map (d++ ·))∧St W0 wr K (.gen (sbG b d)::L)) (fun iv _=>s.length - (intOf iv).toNat)
 case atStart=>exact⟨0,[],Ji _,rfl,hQd rfl,hQd (Jo _),hQd (by rw[List.drop_zero];cases zCf s<;>rfl),H.out⟩
 case round=>
  obtain⟨j,d,hj,rfl,HJ,HD,HX,hst⟩:=hrel;clear H;have H:=hQd hst;clear hst
  by_cases hlt:j<s.length
  ·have hj1:j+1<s.length:=by have:=HJ.out;have:=H3.out;omega
   have hi0:(j:Int)<(s.length:Int):=by omega
   have hi1:(j:Int)+1<(s.length:Int):=by omega
   have hi2:0≤(j:Int)+1:=by omega
   have hi3:0≤(j:Int)+1∧(j:Int)+1<(s.length:Int):=⟨hi2,hi1⟩;obtain⟨va,hva⟩:=eX (digI (s[j]'hlt));obtain⟨vb,hvb⟩:=eX (digI (s[j+1]'hj1));have HA:=hQd hva;have HB:=hQd hvb;have ca:=zD7 (s[j]'hlt);have cb:=zD7 (s[j+1]'hj1);rw[hva]at ca;rw[hvb]at cb;clear hva hvb
   by_cases hab:va= -1∨vb= -1
   ·have HZ:=hQd (show hexR s=([],false) by unfold hexR;rw[zQL s d j hj1 HX.out (by rw[HA.out,HB.out];exact hab)]);have ya:va<0∨0≤va:=by omega
    have yb:vb<0∨0≤vb:=by omega
    clear ca cb
    rcases ya with ya|ya
    ·have z1:decide (va<0)=true:=decide_eq_true ya;clear hab yb
     go_wp2_with (first
  |(go_at_call 45;(with_reducible refine(zIv _ va ?_ H.out).mono ?_);exact HA.out;rintro e_ wn ⟨rfl,h⟩;replace H:=hQd h;clear h)
  |(go_at_call 45;(with_reducible refine(zIv _ vb ?_ H.out).mono ?_);exact HB.out;rintro e_ wn ⟨rfl,h⟩;replace H:=hQd h;clear h))
     go_ret2;rw[HZ.out];exact⟨rfl,H.out.drop⟩
    ·have yb:vb<0:=by omega
     have z0:¬va<0:=by omega
     have z1:decide (va<0)=false:=decide_eq_false z0;have z2:decide (vb<0)=true:=decide_eq_true yb;clear hab
     go_wp2_with (first
  |(go_at_call 45;(with_reducible refine(zIv _ va ?_ H.out).mono ?_);exact HA.out;rintro e_ wn ⟨rfl,h⟩;replace H:=hQd h;clear h)
  |(go_at_call 45;(with_reducible refine(zIv _ vb ?_ H.out).mono ?_);exact HB.out;rintro e_ wn ⟨rfl,h⟩;replace H:=hQd h;clear h))
     go_ret2;rw[HZ.out];exact⟨rfl,H.out.drop⟩
   ·have ya:0≤va∧va<16:=by omega
    have yb:0≤vb∧vb<16:=by omega
    have z1:¬va<0:=by omega
    have z2:¬vb<0:=by omega
    have z3:decide (va<0)=false:=decide_eq_false z1;have z4:decide (vb<0)=false:=decide_eq_false z2;have HS:=hQd (zOR s d j hj1 HX.out (by rw[HA.out];omega) (by rw[HB.out];omega));have HL:=hQd (show d.length≤1000000000000 by have:=HD.out;omega);clear ca cb hab;obtain⟨y,hy⟩:=eX (UInt8.ofNat (digI (s[j]'hlt)*16+digI (s[j+1]'hj1)).toNat);rw[hy]at HS;have HOR:=hQd (show bits BinOp.or IntKind.i64 (va*16) vb % 256=((y.toNat:Nat):Int) by rw[←hy,HA.out,HB.out];exact or_hex va vb ya yb);have HD2:=hQd (show(d++[y]).length≤j+2 by rw[Je,List.length_singleton];have:=HD.out;omega);have HJ2:=hQd (show(j+2) % 2=0 by have:=HJ.out;omega);clear hy
    go_wp2_with (first
  |(go_at_call 45;(with_reducible refine(zIv _ va ?_ H.out).mono ?_);exact HA.out;rintro e_ wn ⟨rfl,h⟩;replace H:=hQd h;clear h)
  |(go_at_call 45;(with_reducible refine(zIv _ vb ?_ H.out).mono ?_);exact HB.out;rintro e_ wn ⟨rfl,h⟩;replace H:=hQd h;clear h)
  |(go_at_call 46;rw[HOR.out];(with_reducible refine(zTj b d y HL.out H.out).zM ?_);clear H;intro wn H))
    go_roundw
    case rel=>exact⟨j+2,d++[y],oM,by go_num,HJ2,HD2,HS,H.out⟩
    case measure=>first|(simp[intOf];done)|(simp[intOf];omega)
  ·obtain rfl:j=s.length:=by omega
   have hx:=HX.out;rw[List.drop_length]at hx;have hx2:zCf s=some d:=by rw[hx];show some (d++[])=some d;rw[List.append_nil]
   have HZ:=hQd (show hexR s=(d,true) by unfold hexR;rw[hx2]);have HDN:=hQd (show d≠[]from fun e=>by subst e;exact H2.out (zHF s [] hx2).symm);clear hx hx2;go_wp2_with (go_at_call 47;(with_reducible refine(zPH b d HDN.out H.out).zM ?_);clear H;intro wn H);go_ret2;rw[HZ.out];exact⟨rfl,H.out⟩
def hexV (s:Bs):Bs×Bool:=match zJN s with
 |some c=>(c,true)
 |none=>([],false)
theorem zJm(s:Bs)(hs:s.length≤1000000)(h:St W0 w K L):
 Calls Jd 18 #[Z (bb s)] w fun en w'=>en=Jb (.tuple #[Z (bb (hexV s).1),U (hexV s).2])∧St W0 w' K L:=by
 by_cases h1:s=[45]
 ·subst h1;exact zJl h
 by_cases h2:s=[]∨s.length % 2≠0
 ·have e:hexV s=([],false):=by
   unfold hexV zJN;rw[if_neg h1]
   by_cases h3:s=[]
   ·rw[if_pos h3]
   ·rw[if_neg h3,zLg s (h2.resolve_left h3)]
  rw[e];exact zL5 s h1 h2 hs h
 ·have h3:s≠[]:=fun e=>h2 (.inl e)
  have e:hexV s=hexR s:=by
   unfold hexV zJN hexR;rw[if_neg h1,if_neg h3]
  rw[e];exact zL6 s h1 h3 oM hs h
def Know.blk (g:Nat) (P:Obj→Prop):Know:=⟨fun w F=>F g∧∃o,w.heap[g]? =some o∧P o,
 fun w w' F h hs hk=>⟨h.1,by obtain⟨o,h1,h2⟩:=h.2;exact⟨o,(hk g (by rcases Nat.lt_or_ge g w.heap.size with h3|h3;exact h3;rw[Array.getElem?_eq_none h3]at h1;cases h1) h.1).trans h1,h2⟩⟩,
 fun _ _ _ h hs=>⟨hs _ h.1,h.2⟩⟩
def isMax (o:Obj):Prop:=∃m c T fz,o=.cells c T fz∧c[0]? =some (I O m)
def isErr (o:Obj):Prop:=∃te pe T fz,o=.cells #[.iface te pe] T fz
def isPow (o:Obj):Prop:=∃T fz,o=.cells (Lib.pow10Tab.map fun z=>Value.int .u64 z).toArray T fz
def Know.lib:Know:=((Know.blk 0 isMax).and (Know.blk 1 isPow)).and ((Know.blk 6 isErr).and (Know.blk 7 isErr))
theorem zQC(hk:K.has Know.lib)(h:St W0 w K L):∃m,w.cell? ⟨0,0,none⟩=some (I O m):=by
 obtain⟨F,hF,_⟩:=h.get;obtain⟨_,o,h1,m,c,T,fz,rfl,hc⟩:=(hk _ _ hF).1.1;exact⟨m,by simp[World.cell?,h1,hc]⟩
theorem zT2(hk:K.has Know.lib)(h:St W0 w K L):Lib.TabIs Jd w "internal/strconv.uint64pow10" .u64 Lib.pow10Tab:=by
 obtain⟨F,hF,_⟩:=h.get;obtain⟨_,o,h1,T,fz,rfl⟩:=(hk _ _ hF).1.2;have hg:Tryz.prog.globalNamed "internal/strconv.uint64pow10" =some 1:=by kernel_rfl
 unfold Lib.TabIs World.var?;rw[hg,Option.bind_some,h1]
theorem zT0(hk:K.has Know.lib)(h:St W0 w K L):∃ev,w.cell? ⟨6,0,none⟩=some ev∧(ev=.nilIface∨∃te pe,ev=.iface te pe):=by
 obtain⟨F,hF,_⟩:=h.get;obtain⟨_,o,h1,te,pe,T,fz,rfl⟩:=(hk _ _ hF).2.1;exact⟨_,by simp[World.cell?,h1],.inr ⟨te,pe,rfl⟩⟩
theorem zT1(hk:K.has Know.lib)(h:St W0 w K L):∃ev,w.cell? ⟨7,0,none⟩=some ev∧(ev=.nilIface∨∃te pe,ev=.iface te pe):=by
 obtain⟨F,hF,_⟩:=h.get;obtain⟨_,o,h1,te,pe,T,fz,rfl⟩:=(hk _ _ hF).2.2;exact⟨_,by simp[World.cell?,h1],.inr ⟨te,pe,rfl⟩⟩
theorem St.below'{w':World}(h:St W0 w K L)(hb:Below w.heap.size w w'):St W0 w' K L:=
 h.quiet (M:=fun _=>False) ⟨hb.os,hb.tape,hb.output,hb.size,fun k hk _=>hb.block k hk⟩ (fun _ _ h=>h)
theorem St.grown(h:St W0 w K L)(os:Array Obj):St W0 (Sort.grow w os) K L:=
 h.quiet (M:=fun _=>False) ⟨rfl,rfl,rfl,by simp,fun k hk _=>Sort.heap_grow_old w os hk⟩ (fun _ _ h=>h)
theorem St.bytesW(h:St W0 w K L)(t:ByteArray):St W0 (Lib.bytesWorld w 5 t) K L:=h.below' (Lib.bytesWorld_below w 5 t)
def zEC (s:Bs):Int:=match Lib.atoiAll s with
 | .ok v=>v
 | .range=>Lib.atoiSat s
 | _ => 0
theorem zL1(n:Int)(h0: -9223372036854775808≤n)(h1:n≤9223372036854775807)(hk:K.has Know.lib)(h:St W0 w K L):
 Calls Jd 37 #[I O n] w fun e w'=>e=Jb (Z (bb (Lib.itoa n)))∧St W0 w' K L:=
 (Tryz.strconv_Itoa n h0 h1 w (zT2 hk h)).mono (by rintro e w' ⟨rfl,k,os,rfl⟩;exact⟨rfl,(h.drewN k).grown os⟩)
theorem zTf(s:Bs)(hs:s.length≤1000000)(hk:K.has Know.lib)(h:St W0 w K L):
 Calls Jd 172 #[Z (bb s)] w fun e w'=>∃ev,e=Jb (.tuple #[I O (zEC s),ev])∧St W0 w' K L:=by
 have hz:(bb s).size=s.length:=by simp
 have hd:(bb s).data.toList=s:=by simp
 cases hv:Lib.atoiAll s with
 |ok v=>
  have e:zEC s=v:=by unfold zEC;rw[hv]
  rw[e];exact(Tryz.strconv_Atoi_ok (bb s) oM v (by rw[hd];exact hv) w).mono (by rintro e w' ⟨rfl,rfl|⟨t,rfl⟩⟩;exact⟨_,rfl,h⟩;exact⟨_,rfl,h.bytesW t⟩)
 |range=>
  have e:zEC s=Lib.atoiSat s:=by unfold zEC;rw[hv]
  rw[e];obtain⟨ev,h1,h2⟩:=zT1 hk h;have h3:=(Tryz.strconv_Atoi_range (bb s) oM (by rw[hd];exact hv) ev w h1 h2);rw[hd]at h3;exact h3.mono (by rintro e w' ⟨N,rfl,_,_,hb⟩;exact⟨_,rfl,h.below' hb⟩)
 | _ =>
  have e:zEC s=0:=by unfold zEC;rw[hv]
  rw[e];obtain⟨ev,h1,h2⟩:=zT0 hk h;exact(Tryz.strconv_Atoi_syntax (bb s) oM (by rw[hd];exact hv) ev w h1 h2).mono (by rintro e w' ⟨N,rfl,_,_,hb⟩;exact⟨_,rfl,h.below' hb⟩)
theorem sl_cut(s sp a b:Bs)(f:Bool)(hc:Lib.cut s sp=(a,b,f))(hs:s.length≤1000000)(hk:K.has Know.lib)(h:St W0 w K L):
 Calls Jd 80 #[Z (bb s),Z (bb sp)] w fun e w'=>e=Jb (.tuple #[Z (bb a),Z (bb b),U f])∧St W0 w' K L:=by
 obtain⟨m,hm⟩:=zQC hk h;have h1:=Tryz.strings_Cut (bb s) (bb sp) m w (by have hz:(bb s).size=s.length:=sM;omega) hm;have d1:(bb s).data.toList=s:=by simp
 have d2:(bb sp).data.toList=sp:=by simp
 rw[d1,d2,hc]at h1;exact h1.mono (by rintro e w' ⟨rfl,n,rfl⟩;exact⟨rfl,h.drewN n⟩)
theorem sl_has(s:Bs)(c:UInt8)(v:Bool)(hv:decide (0≤Lib.indexByte s c)=v)(h:St W0 w K L):
 Calls Jd 173 #[Z (bb s),Z ⟨#[c]⟩] w fun e w'=>e=Jb (U v)∧St W0 w' K L:=by
 have h1:=Tryz.strings_Contains_one (bb s) c w;have d1:(bb s).data.toList=s:=by simp
 rw[d1,hv]at h1;exact zPw h1 h
def zDw (s:Bs):List ByteArray:=Lib.splitB (bb [32]) 0 (Lib.countB (bb s) (bb [32])) (bb s)
theorem zRO(s:Bs)(ws:List Bs)(hw:zDw s=ws.map bb)(hs:s.length≤1000000)(hk:K.has Know.lib)(h:St W0 w K L):
 Calls Jd 82 #[Z (bb s),Z (bb [32])] w fun e w'=>∃b,e=Jb (Ja (some ⟨b,0,none⟩) ws.length ws.length)∧St W0 w' K (.raw b (ws.map fun x=>Value.string (bb x)).toArray 9::L):=by
 obtain⟨m,hm⟩:=zQC hk h;have h1:=Tryz.strings_Split (bb s) (bb [32]) m w (by have hz:(bb s).size=s.length:=sM;omega) hm dD
 have e1:Lib.countB (bb s) (bb [32])+1=ws.length:=by
  have h2:=Lib.splitB_all (bb [32]) dD 0 _ (bb s) rfl;have h3:(zDw s).length=ws.length:=by rw[hw,Jn]
  unfold zDw at h3
  omega
 have e2:(Lib.splitB (bb [32]) 0 (Lib.countB (bb s) (bb [32])) (bb s)).map Value.string=ws.map fun x=>Value.string (bb x):=by
  show(zDw s).map Value.string=_
  rw[hw,List.map_map]
  rfl
 rw[e1,e2]at h1;exact h1.mono (by rintro e w' ⟨rfl,rfl⟩;exact⟨_,rfl,h.allocRaw _ _⟩)
theorem zLT(s:Bs): -9223372036854775808≤zEC s∧zEC s<9223372036854775808:=by
 unfold zEC
 cases h:Lib.atoiAll s with
 |ok v=>
  unfold Lib.atoiAll at h
  split at h
  ·cases h
  ·rename_i c r
   simp only at h
   split at h
   ·cases h
   ·cases h
   ·rename_i u _
    split at h
    ·cases h
    ·split at h
     ·cases h
     ·injection h with h
      by_cases hc:c.toNat=45
      ·rw[if_pos hc]at h;simp only;omega
      ·rw[if_neg hc]at h;simp only;omega
 |range=>simp only;unfold Lib.atoiSat;split<;>omega
 | _ =>simp
def zBU (s:Bs):Option Int:=if Lib.itoa (zEC s)=s then some (zEC s)else none
def zAx:List Bs→Option (List Int)
 |[]=>some []
 |w::t=>match zBU w with
  |none=>none
  |some v=>(zAx t).map (v:: ·)
theorem zHy:∀(l:List Bs) (w:Bs) (vs:List Int) (v:Int),zAx l=some vs→zBU w=some v→zAx (l++[w])=some (vs++[v])
 |[],w,vs,v,h1,h2=>by unfold zAx at h1;injection h1 with h1;subst h1;show(match zBU w with|none=>none|some v=>(zAx []).map (v:: ·))=_;rw[h2];rfl
 |a::t,w,vs,v,h1,h2=>by
  unfold zAx at h1
  show(match zBU a with|none=>none|some v=>(zAx (t++[w])).map (v:: ·))=_
  cases ha:zBU a with
  |none=>rw[ha]at h1;cases h1
  |some x=>
   rw[ha]at h1;simp only at h1 ⊢
   cases ht:zAx t with
   |none=>rw[ht]at h1;cases h1
   |some y=>
    rw[ht]at h1;injection h1 with h1;subst h1;rw[zHy t w y v ht h2]
    rfl
theorem zIR:∀(l r:List Bs) (w:Bs),zBU w=none→zAx (l++w::r)=none
 |[],r,w,h=>by show(match zBU w with|none=>none|some v=>(zAx r).map (v:: ·))=none;rw[h]
 |a::t,r,w,h=>by
  show(match zBU a with|none=>none|some v=>(zAx (t++w::r)).map (v:: ·))=none
  rw[zIR t r w h]
  cases zBU a<;>rfl
theorem zBP:∀(l:List Bs) (vs:List Int),zAx l=some vs→vs.length=l.length
 |[],vs,h=>by unfold zAx at h;injection h with h;subst h;rfl
 |a::t,vs,h=>by
  unfold zAx at h
  cases ha:zBU a with
  |none=>rw[ha]at h;cases h
  |some x=>
   rw[ha]at h;simp only at h
   cases ht:zAx t with
   |none=>rw[ht]at h;cases h
   |some y=>rw[ht]at h;injection h with h;subst h;simp[zBP t y ht]
def Know.strw (wb off:Nat) (ws:List Bs):Know:=⟨fun w F=>F wb∧wb<w.heap.size∧∀j x,ws[j]? =some x→w.cell? ⟨wb,off+j,Option.none⟩=some (Z (bb x)),
 fun _ _ _ h hs hk=>⟨h.1,Nat.lt_of_lt_of_le h.2.1 hs,fun j u hu=>(World.cell?_of_block (a:=⟨wb,off+j,Option.none⟩) (hk wb h.2.1 h.1)).trans (h.2.2 j u hu)⟩,
 fun _ _ _ h hs=>⟨hs _ h.1,h.2.1,h.2.2⟩⟩
theorem zGK{wb off:Nat}{ws:List Bs}(hk:K.has (Know.strw wb off ws))(h:St W0 w K L)(j:Nat)(hj:j<ws.length):w.cell? ⟨wb,off+j,none⟩=some (Z (bb (ws[j]'hj))):=by
 obtain⟨F,hF,_⟩:=h.get;exact(hk _ _ hF).2.2 j _ (List.getElem?_eq_getElem hj)
theorem zDy{K:Know}{wb off:Nat}{ws:List Bs}(hk:K.has (Know.strw wb off ws))(k:Nat):K.has (Know.strw wb (off+k) (ws.drop k)):=fun w F h=>by
 obtain⟨h1,h2,h3⟩:=hk w F h;refine⟨h1,h2,fun j x hx=> ?_⟩;rw[List.getElem?_drop]at hx;rw[Jm];exact h3 _ _ hx
theorem zBR{K:Know}{wb off:Nat}{ws:List Bs}(hk:K.has (Know.strw wb off ws))(k:Nat):K.has (Know.strw wb off (ws.take k)):=fun w F h=>by
 obtain⟨h1,h2,h3⟩:=hk w F h;refine⟨h1,h2,fun j x hx=>h3 j x ?_⟩;rw[List.getElem?_take]at hx
 split at hx
 ·exact hx
 ·cases hx
theorem St.strs{wb:Nat}{ws:List Bs}{T:TypeId}(h:St W0 w K (.raw wb (ws.map fun x=>Value.string (bb x)).toArray T::L)):St W0 w (K.and (Know.strw wb 0 ws)) L:=
 h.freeze fun F S1 _ hr=>⟨.inr ⟨(hr.2 wb).2 rfl,zA1 hr.1⟩,zA1 hr.1,fun j x hx=>by
  rw[Nat.zero_add,zAO hr.1 j]
  simp[hx]⟩
variable {W0 w:World}{K:Know}{L:List Res}
theorem zL4(nb n:Nat)(wb off cap ncap:Nat)(ws:List Bs)(hne:ws.length≠n)(h:St W0 w K L):
 Calls Jd 139 #[Ja (some ⟨nb,0,none⟩) n ncap,Ja (some ⟨wb,off,none⟩) ws.length cap] w fun en w'=>en=Jb (U false)∧St W0 w' K L:=by
 have H:=hQd h;have e1:((ws.length:Int)==(n:Int))=false:=by rw[beq_eq_false_iff_ne];omega
 have e2:((ws.length:Int) !=(n:Int))=true:=by simp[bne,e1]
 clear h hne;go_enter Tryz.func139,Tryz.ntmps139;go_wp2;go_ret;exact⟨rfl,H.out⟩
theorem zPF(nb:Nat)(cs:Array Value)(T:TypeId)(wb off cap ncap:Nat)(ws:List Bs)(hn:cs.size=ws.length)(hl:ws.length≤1000000)(hx:∀x∈ws,x.length≤1000000)(hlib:K.has Know.lib)(hk:K.has (Know.strw wb off ws))(h:St W0 w K (.raw nb cs T::L)):
  Calls Jd 139 #[Ja (some ⟨nb,0,none⟩) ws.length ncap,Ja (some ⟨wb,off,none⟩) ws.length cap] w fun en w'=>∃cs',en=Jb (U (zAx ws).isSome)∧cs'.size=ws.length∧(∀vs,zAx ws=some vs→cs'.toList=vs.map fun v=>Value.int O v)∧St W0 w' K (.raw nb cs' T::L):=by
 have H:=hQd h;have HK:=hQd hk;have HLIB:=hQd hlib;have HX:=hQd hx;have HN:=hQd hn;have hli:(ws.length:Int)≤1000000:=by omega
 have e2:((ws.length:Int) !=(ws.length:Int))=false:=by simp
 clear h hk hlib hx hn;go_enter Tryz.func139,Tryz.ntmps139;go_wp2_with fail;go_loopw [14] (fun iv wr=>∃(k:Nat) (cs':Array Value) (vs:List Int),k≤ws.length∧iv=I O k∧Hid (cs'.size=ws.length)∧Hid (zAx (ws.take k)=some vs)∧Hid (cs'.toList.take k=vs.map fun v=>Value.int O v)∧St W0 wr K (.raw nb cs' T::L)) (fun iv _=>ws.length - (intOf iv).toNat)
 case atStart=>exact⟨0,cs,[],Ji _,rfl,HN,hQd rfl,hQd rfl,H.out⟩
 case round=>
  obtain⟨k,cs',vs,hk,rfl,HSZ,HNS,HCS,hst⟩:=hrel;clear H;have H:=hQd hst;clear hst
  by_cases hlt:k<ws.length
  · have hlti:(k:Int)<(ws.length:Int):=by omega
    have c0:=zGK HK.out H.out k hlt;obtain⟨x,hx⟩:=eX (ws[k]);rw[hx]at c0;have HXI:=hQd hx;have HXL:=hQd (HX.out x (by rw[←hx];exact Jp hlt));clear hx;obtain⟨v,hv⟩:=eX (zEC x);have hr:=zLT x;rw[hv]at hr;have HR1:=hQd hr.1;have HR2:=hQd (show v≤9223372036854775807 by omega);have HV:=hQd hv;clear hr hv;go_upto_region 7 with (go_at_call 172;clear c0;(with_reducible refine(zTf x HXL.out HLIB.out H.out).mono ?_);rintro e_ wn ⟨ev,rfl,h⟩;rw[HV.out];have c0:=zGK HK.out h k hlt;rw[HXI.out]at c0;have r1:=h.rawFree k;have c1:=h.rawCell k;rw[Array.getElem?_eq_getElem (by rw[HSZ.out];exact hlt)]at c1;replace H:=hQd h;clear h);obtain⟨wq,hwq⟩:=eX (wn.setCell ⟨nb,k,none⟩ (I O v));have hz:=H.out.rawSet k (I O v);rw[hwq]at hz ⊢;clear hwq H c0 c1 r1;obtain⟨c9,hc9⟩:=eX (cs'.setIfInBounds k (I O v));have hk9:k<cs'.size:=by rw[HSZ.out];exact hlt
    have c1:=hz.rawCell k;rw[Array.getElem?_setIfInBounds_self_of_lt hk9]at c1;have HS9:=hQd (show c9.size=ws.length by rw[←hc9,Array.size_setIfInBounds];exact HSZ.out)
    have HC9:=hQd (show c9.toList.take (k+1)=(vs++[v]).map fun v=>Value.int O v by
      rw[←hc9,Array.toList_setIfInBounds,List.map_append,←HCS.out,List.take_add_one,List.getElem?_set_self (by simpa using hk9),List.take_set_of_le (Jo _)]
      rfl)
    rw[hc9]at hz;have H:=hQd hz;clear hz hc9 hk9;obtain⟨t,ht⟩:=eX (Lib.itoa v);have HT:=hQd ht
    by_cases htx:t=x
    · subst htx;have e3:(t==t)=true:=by simp
      have e4:(t !=t)=false:=by simp
      have HNR:=hQd (show zAx (ws.take (k+1))=some (vs++[v]) by
       rw[List.take_succ_eq_append_getElem hlt,HXI.out]
       exact zHy _ _ _ _ HNS.out (by unfold zBU;rw[HV.out,if_pos ht]))
      clear ht;go_wp2_with (go_at_call 37;clear c1;(with_reducible refine(zL1 v HR1.out HR2.out HLIB.out H.out).mono ?_);rintro e_ wn ⟨rfl,h⟩;rw[HT.out];replace H:=hQd h;clear h);go_roundw
      case rel=>exact⟨k+1,c9,vs++[v],hlt,by go_num,HS9,HNR,HC9,H.out⟩
      case measure=>first|(simp[intOf];done)|(simp[intOf];omega)
    · have e3:(t==x)=false:=by rw[beq_eq_false_iff_ne];exact htx
      have e4:(t !=x)=true:=by simp[bne,e3]
      have HNR:=hQd (show zAx ws=none by
       have h9:ws=ws.take k++x::ws.drop (k+1):=by
        conv=>lhs;rw[←List.take_append_drop k ws,List.drop_eq_getElem_cons hlt,HXI.out]
       rw[h9]
       exact zIR _ _ _ (by unfold zBU;rw[HV.out,if_neg (by rw[ht];exact htx)]))
      clear ht htx;go_wp2_with (go_at_call 37;clear c1;(with_reducible refine(zL1 v HR1.out HR2.out HLIB.out H.out).mono ?_);rintro e_ wn ⟨rfl,h⟩;rw[HT.out];replace H:=hQd h;clear h);go_ret;exact⟨c9,by rw[HNR.out];rfl,HS9.out,fun vs h=>(by rw[HNR.out]at h;cases h),H.out⟩
  · obtain rfl:k=ws.length:=by omega
    have HNR:=hQd (show zAx ws=some vs by have h9:=HNS.out;rw[List.take_length]at h9;exact h9);have HCR:=hQd (show cs'.toList=vs.map fun v=>Value.int O v by have h9:=HCS.out;rw[Jj (by simp;rw[HSZ.out];exact Jo _)]at h9;exact h9);go_wp2_with fail;go_ret;exact⟨cs',by rw[HNR.out];rfl,HSZ.out,fun vs h=>(by rw[HNR.out]at h;injection h with h;subst h;exact HCR.out),H.out⟩
def letB (a t c:Bool):Bs:=(if a then[97]else[])++((if t then[116]else[])++(if c then[99]else[]))
def letW (a t c:Bool):Bs:=if letB a t c=[]then[45]else letB a t c
def hasB (s:Bs) (c:UInt8):Bool:=decide (0≤Lib.indexByte s c)
def zQD (s:Bs):Bool:=letW (hasB s 97) (hasB s 116) (hasB s 99)==s
theorem zOM:∀a t c:Bool,hasB (letW a t c) 97=a∧hasB (letW a t c) 116=t∧hasB (letW a t c) 99=c∧zQD (letW a t c)=true:=by decide+kernel
variable {W0 w:World}{K:Know}{L:List Res}
theorem zq2{p:Prop}(h:p:=by
  obtain⟨hd,hst⟩:=hrel;clear H c0 c1 c2;have H:=hQd hst;clear hst
  rcases hd with ⟨rfl,rfl⟩|⟨rfl,rfl⟩|⟨rfl,rfl⟩|⟨rfl,rfl⟩
  · go_wp2_with fail;go_roundw
    case rel=>exact⟨.inr (.inl ⟨by go_num,by rfl⟩),H.out⟩
    case measure=>first|(simp[intOf];done)|(simp[intOf];omega)
  · go_wp2_with fail;go_roundw
    case rel=>exact⟨.inr (.inr (.inl ⟨by go_num,by rfl⟩)),H.out⟩
    case measure=>first|(simp[intOf];done)|(simp[intOf];omega)
  · go_wp2_with fail;go_roundw
    case rel=>exact⟨.inr (.inr (.inr ⟨by go_num,by rfl⟩)),H.out⟩
    case measure=>first|(simp[intOf];done)|(simp[intOf];omega)
  · go_wp2_with fail;go_ret;exact⟨by rfl,H.out.drop⟩):p:=h
theorem zN9(h:St W0 w K L):
 Calls Jd 89 #[.agg #[U true,U true,U true]] w fun en w'=>en=Jb (Z (bb (letW true true true)))∧St W0 w' K L:=by
 have hi:∀w,(Instr.index 137 (.agg #[U true,U true,U true]) (I O 0)).run Jd w=.ok (U true) w:=fun _=>by kernel_rfl
 have hi1:∀w,(Instr.index 137 (.agg #[U true,U true,U true]) (I O 1)).run Jd w=.ok (U true) w:=fun _=>by kernel_rfl
 have hi2:∀w,(Instr.index 137 (.agg #[U true,U true,U true]) (I O 2)).run Jd w=.ok (U true) w:=fun _=>by kernel_rfl
 obtain⟨b,hb⟩:=eX w.heap.size;have g1:=h.allocRaw #[U true,U true,U true] 137;rw[hb]at g1;obtain⟨c0,c1,c2⟩:=uR3 ((g1));simp at c0 c1 c2;have H:=hQd g1;clear h g1;go_enter Tryz.func89,Tryz.ntmps89;go_wp2_with fail;go_loopw [3,7] (fun sv iv wr=>((iv=I O 0∧sv=Z ⟨#[]⟩)∨(iv=I O 1∧sv=Z ⟨#[97]⟩)∨(iv=I O 2∧sv=Z ⟨#[97,116]⟩)∨(iv=I O 3∧sv=Z ⟨#[97,116,99]⟩))∧St W0 wr K (.raw b #[U true,U true,U true] 137::L)) (fun _ iv _=>4 - (intOf iv).toNat)
 case atStart=>exact⟨.inl ⟨rfl,rfl⟩,H.out⟩
 case round=>
  exact zq2
theorem zOa(h:St W0 w K L):
 Calls Jd 89 #[.agg #[U true,U true,U false]] w fun en w'=>en=Jb (Z (bb (letW true true false)))∧St W0 w' K L:=by
 have hi:∀w,(Instr.index 137 (.agg #[U true,U true,U false]) (I O 0)).run Jd w=.ok (U true) w:=fun _=>by kernel_rfl
 have hi1:∀w,(Instr.index 137 (.agg #[U true,U true,U false]) (I O 1)).run Jd w=.ok (U true) w:=fun _=>by kernel_rfl
 have hi2:∀w,(Instr.index 137 (.agg #[U true,U true,U false]) (I O 2)).run Jd w=.ok (U false) w:=fun _=>by kernel_rfl
 obtain⟨b,hb⟩:=eX w.heap.size;have g1:=h.allocRaw #[U true,U true,U false] 137;rw[hb]at g1;obtain⟨c0,c1,c2⟩:=uR3 ((g1));simp at c0 c1 c2;have H:=hQd g1;clear h g1;go_enter Tryz.func89,Tryz.ntmps89;go_wp2_with fail;go_loopw [3,7] (fun sv iv wr=>((iv=I O 0∧sv=Z ⟨#[]⟩)∨(iv=I O 1∧sv=Z ⟨#[97]⟩)∨(iv=I O 2∧sv=Z ⟨#[97,116]⟩)∨(iv=I O 3∧sv=Z ⟨#[97,116]⟩))∧St W0 wr K (.raw b #[U true,U true,U false] 137::L)) (fun _ iv _=>4 - (intOf iv).toNat)
 case atStart=>exact⟨.inl ⟨rfl,rfl⟩,H.out⟩
 case round=>
  exact zq2
theorem zOb(h:St W0 w K L):
 Calls Jd 89 #[.agg #[U true,U false,U true]] w fun en w'=>en=Jb (Z (bb (letW true false true)))∧St W0 w' K L:=by
 have hi:∀w,(Instr.index 137 (.agg #[U true,U false,U true]) (I O 0)).run Jd w=.ok (U true) w:=fun _=>by kernel_rfl
 have hi1:∀w,(Instr.index 137 (.agg #[U true,U false,U true]) (I O 1)).run Jd w=.ok (U false) w:=fun _=>by kernel_rfl
 have hi2:∀w,(Instr.index 137 (.agg #[U true,U false,U true]) (I O 2)).run Jd w=.ok (U true) w:=fun _=>by kernel_rfl
 obtain⟨b,hb⟩:=eX w.heap.size;have g1:=h.allocRaw #[U true,U false,U true] 137;rw[hb]at g1;obtain⟨c0,c1,c2⟩:=uR3 ((g1));simp at c0 c1 c2;have H:=hQd g1;clear h g1;go_enter Tryz.func89,Tryz.ntmps89;go_wp2_with fail;go_loopw [3,7] (fun sv iv wr=>((iv=I O 0∧sv=Z ⟨#[]⟩)∨(iv=I O 1∧sv=Z ⟨#[97]⟩)∨(iv=I O 2∧sv=Z ⟨#[97]⟩)∨(iv=I O 3∧sv=Z ⟨#[97,99]⟩))∧St W0 wr K (.raw b #[U true,U false,U true] 137::L)) (fun _ iv _=>4 - (intOf iv).toNat)
 case atStart=>exact⟨.inl ⟨rfl,rfl⟩,H.out⟩
 case round=>
  exact zq2
theorem zOc(h:St W0 w K L):
 Calls Jd 89 #[.agg #[U true,U false,U false]] w fun en w'=>en=Jb (Z (bb (letW true false false)))∧St W0 w' K L:=by
 have hi:∀w,(Instr.index 137 (.agg #[U true,U false,U false]) (I O 0)).run Jd w=.ok (U true) w:=fun _=>by kernel_rfl
 have hi1:∀w,(Instr.index 137 (.agg #[U true,U false,U false]) (I O 1)).run Jd w=.ok (U false) w:=fun _=>by kernel_rfl
 have hi2:∀w,(Instr.index 137 (.agg #[U true,U false,U false]) (I O 2)).run Jd w=.ok (U false) w:=fun _=>by kernel_rfl
 obtain⟨b,hb⟩:=eX w.heap.size;have g1:=h.allocRaw #[U true,U false,U false] 137;rw[hb]at g1;obtain⟨c0,c1,c2⟩:=uR3 ((g1));simp at c0 c1 c2;have H:=hQd g1;clear h g1;go_enter Tryz.func89,Tryz.ntmps89;go_wp2_with fail;go_loopw [3,7] (fun sv iv wr=>((iv=I O 0∧sv=Z ⟨#[]⟩)∨(iv=I O 1∧sv=Z ⟨#[97]⟩)∨(iv=I O 2∧sv=Z ⟨#[97]⟩)∨(iv=I O 3∧sv=Z ⟨#[97]⟩))∧St W0 wr K (.raw b #[U true,U false,U false] 137::L)) (fun _ iv _=>4 - (intOf iv).toNat)
 case atStart=>exact⟨.inl ⟨rfl,rfl⟩,H.out⟩
 case round=>
  exact zq2
theorem zOd(h:St W0 w K L):
 Calls Jd 89 #[.agg #[U false,U true,U true]] w fun en w'=>en=Jb (Z (bb (letW false true true)))∧St W0 w' K L:=by
 have hi:∀w,(Instr.index 137 (.agg #[U false,U true,U true]) (I O 0)).run Jd w=.ok (U false) w:=fun _=>by kernel_rfl
 have hi1:∀w,(Instr.index 137 (.agg #[U false,U true,U true]) (I O 1)).run Jd w=.ok (U true) w:=fun _=>by kernel_rfl
 have hi2:∀w,(Instr.index 137 (.agg #[U false,U true,U true]) (I O 2)).run Jd w=.ok (U true) w:=fun _=>by kernel_rfl
 obtain⟨b,hb⟩:=eX w.heap.size;have g1:=h.allocRaw #[U false,U true,U true] 137;rw[hb]at g1;obtain⟨c0,c1,c2⟩:=uR3 ((g1));simp at c0 c1 c2;have H:=hQd g1;clear h g1;go_enter Tryz.func89,Tryz.ntmps89;go_wp2_with fail;go_loopw [3,7] (fun sv iv wr=>((iv=I O 0∧sv=Z ⟨#[]⟩)∨(iv=I O 1∧sv=Z ⟨#[]⟩)∨(iv=I O 2∧sv=Z ⟨#[116]⟩)∨(iv=I O 3∧sv=Z ⟨#[116,99]⟩))∧St W0 wr K (.raw b #[U false,U true,U true] 137::L)) (fun _ iv _=>4 - (intOf iv).toNat)
 case atStart=>exact⟨.inl ⟨rfl,rfl⟩,H.out⟩
 case round=>
  exact zq2
theorem zOe(h:St W0 w K L):
 Calls Jd 89 #[.agg #[U false,U true,U false]] w fun en w'=>en=Jb (Z (bb (letW false true false)))∧St W0 w' K L:=by
 have hi:∀w,(Instr.index 137 (.agg #[U false,U true,U false]) (I O 0)).run Jd w=.ok (U false) w:=fun _=>by kernel_rfl
 have hi1:∀w,(Instr.index 137 (.agg #[U false,U true,U false]) (I O 1)).run Jd w=.ok (U true) w:=fun _=>by kernel_rfl
 have hi2:∀w,(Instr.index 137 (.agg #[U false,U true,U false]) (I O 2)).run Jd w=.ok (U false) w:=fun _=>by kernel_rfl
 obtain⟨b,hb⟩:=eX w.heap.size;have g1:=h.allocRaw #[U false,U true,U false] 137;rw[hb]at g1;obtain⟨c0,c1,c2⟩:=uR3 ((g1));simp at c0 c1 c2;have H:=hQd g1;clear h g1;go_enter Tryz.func89,Tryz.ntmps89;go_wp2_with fail;go_loopw [3,7] (fun sv iv wr=>((iv=I O 0∧sv=Z ⟨#[]⟩)∨(iv=I O 1∧sv=Z ⟨#[]⟩)∨(iv=I O 2∧sv=Z ⟨#[116]⟩)∨(iv=I O 3∧sv=Z ⟨#[116]⟩))∧St W0 wr K (.raw b #[U false,U true,U false] 137::L)) (fun _ iv _=>4 - (intOf iv).toNat)
 case atStart=>exact⟨.inl ⟨rfl,rfl⟩,H.out⟩
 case round=>
  exact zq2
theorem zOf(h:St W0 w K L):
 Calls Jd 89 #[.agg #[U false,U false,U true]] w fun en w'=>en=Jb (Z (bb (letW false false true)))∧St W0 w' K L:=by
 have hi:∀w,(Instr.index 137 (.agg #[U false,U false,U true]) (I O 0)).run Jd w=.ok (U false) w:=fun _=>by kernel_rfl
 have hi1:∀w,(Instr.index 137 (.agg #[U false,U false,U true]) (I O 1)).run Jd w=.ok (U false) w:=fun _=>by kernel_rfl
 have hi2:∀w,(Instr.index 137 (.agg #[U false,U false,U true]) (I O 2)).run Jd w=.ok (U true) w:=fun _=>by kernel_rfl
 obtain⟨b,hb⟩:=eX w.heap.size;have g1:=h.allocRaw #[U false,U false,U true] 137;rw[hb]at g1;obtain⟨c0,c1,c2⟩:=uR3 ((g1));simp at c0 c1 c2;have H:=hQd g1;clear h g1;go_enter Tryz.func89,Tryz.ntmps89;go_wp2_with fail;go_loopw [3,7] (fun sv iv wr=>((iv=I O 0∧sv=Z ⟨#[]⟩)∨(iv=I O 1∧sv=Z ⟨#[]⟩)∨(iv=I O 2∧sv=Z ⟨#[]⟩)∨(iv=I O 3∧sv=Z ⟨#[99]⟩))∧St W0 wr K (.raw b #[U false,U false,U true] 137::L)) (fun _ iv _=>4 - (intOf iv).toNat)
 case atStart=>exact⟨.inl ⟨rfl,rfl⟩,H.out⟩
 case round=>
  exact zq2
theorem zOg(h:St W0 w K L):
 Calls Jd 89 #[.agg #[U false,U false,U false]] w fun en w'=>en=Jb (Z (bb (letW false false false)))∧St W0 w' K L:=by
 have hi:∀w,(Instr.index 137 (.agg #[U false,U false,U false]) (I O 0)).run Jd w=.ok (U false) w:=fun _=>by kernel_rfl
 have hi1:∀w,(Instr.index 137 (.agg #[U false,U false,U false]) (I O 1)).run Jd w=.ok (U false) w:=fun _=>by kernel_rfl
 have hi2:∀w,(Instr.index 137 (.agg #[U false,U false,U false]) (I O 2)).run Jd w=.ok (U false) w:=fun _=>by kernel_rfl
 obtain⟨b,hb⟩:=eX w.heap.size;have g1:=h.allocRaw #[U false,U false,U false] 137;rw[hb]at g1;obtain⟨c0,c1,c2⟩:=uR3 ((g1));simp at c0 c1 c2;have H:=hQd g1;clear h g1;go_enter Tryz.func89,Tryz.ntmps89;go_wp2_with fail;go_loopw [3,7] (fun sv iv wr=>((iv=I O 0∧sv=Z ⟨#[]⟩)∨(iv=I O 1∧sv=Z ⟨#[]⟩)∨(iv=I O 2∧sv=Z ⟨#[]⟩)∨(iv=I O 3∧sv=Z ⟨#[]⟩))∧St W0 wr K (.raw b #[U false,U false,U false] 137::L)) (fun _ iv _=>4 - (intOf iv).toNat)
 case atStart=>exact⟨.inl ⟨rfl,rfl⟩,H.out⟩
 case round=>
  exact zq2
theorem sc_let(a t c:Bool)(h:St W0 w K L):
 Calls Jd 89 #[.agg #[U a,U t,U c]] w fun en w'=>en=Jb (Z (bb (letW a t c)))∧St W0 w' K L:=by
 cases a<;>cases t<;>cases c
 ·exact zOg h
 ·exact zOf h
 ·exact zOe h
 ·exact zOd h
 ·exact zOc h
 ·exact zOb h
 ·exact zOa h
 ·exact zN9 h
theorem zL2(s:Bs)(sub:ByteArray)(c:UInt8)(v:Bool)(he:sub=⟨#[c]⟩)(hv:hasB s c=v)(h:St W0 w K L):
 Calls Jd 173 #[Z (bb s),Z sub] w fun e w'=>e=Jb (U v)∧St W0 w' K L:=by
 subst he;exact sl_has s c v hv h
theorem zBe{P:Program}{fn:Func}{p t:Tmp}{ty:TypeId}(h:fn.results= #[.cell p ty,.tmp t])(tmps:Array Value)(w:World)(b:Nat)(cs:List Value)(d:TypeDesc)
 (hp:tmps.getD p undef=Jc (some ⟨b,0,none⟩))(hc:w.rangeAt b 0 cs)(hu:P.underlying ty=some d)(hd:d.isRow=true)(hi:(P.info? ty).map (·.size)=some cs.length):
 (results fn tmps).run P w=.ok (.tuple #[.agg cs.toArray,tmps.getD t undef]) w:=by
 have hp':tmps[p]?.getD undef=Jc (some ⟨b,0,none⟩):=by simpa using hp
 simp[results,h,hp',asAddr,run_loadVar_mid w b 0 ty cs d hc hu hd hi]
theorem zCc{b:Nat}{c:List Value}{T:TypeId}(h:St W0 w K (.raw b c.toArray T::L)):w.rangeAt b 0 c:=by
 intro j v hv;rw[Nat.zero_add,h.rawCell j]
 simpa using hv
theorem zN8(s:Bs)(va vt vc:Bool)(hva:hasB s 97=va)(hvt:hasB s 116=vt)(hvc:hasB s 99=vc)(ok:Bool)(hok:(letW va vt vc==s)=ok){W0 w:World}{K:Know}{L:List Res}(h:St W0 w K L):
 Calls Jd 140 #[Z (bb s)] w fun en w'=>en=Jb (.tuple #[.agg #[U va,U vt,U vc],U ok])∧St W0 w' K L:=by
 obtain⟨rb,hrb⟩:=eX w.heap.size;have g1:=h.allocRaw #[U false,U false,U false] 137;rw[hrb]at g1;have H:=hQd g1;have HVA:=hQd hva;have HVT:=hQd hvt;have HVC:=hQd hvc;clear h g1 hva hvt hvc;go_enter Tryz.func140,Tryz.ntmps140;go_wp2_with fail;go_loopw [5] (fun iv wr=>(iv=I O 0∧St W0 wr K (.raw rb #[U false,U false,U false] 137::L))∨(iv=I O 1∧St W0 wr K (.raw rb #[U va,U false,U false] 137::L))∨(iv=I O 2∧St W0 wr K (.raw rb #[U va,U vt,U false] 137::L))∨(iv=I O 3∧St W0 wr K (.raw rb #[U va,U vt,U vc] 137::L))) (fun iv _=>4 - (intOf iv).toNat)
 case atStart=>exact .inl ⟨rfl,H.out⟩
 case round=>
  clear H
  rcases hrel with ⟨rfl,hst⟩|⟨rfl,hst⟩|⟨rfl,hst⟩|⟨rfl,hst⟩
  ·have H:=hQd hst;obtain⟨c0,c1,c2⟩:=uR3 ((hst));simp at c0 c1 c2;obtain⟨r0,r1,r2⟩:=uS3 ((hst));clear hst;go_wp2_with (go_at_call 173;(try clear c0 c1 c2 r0 r1 r2);(with_reducible refine(zL2 s _ 97 va ?_ HVA.out H.out).mono ?_);kernel_rfl;rintro e_ wn ⟨rfl,h⟩;obtain⟨c0,c1,c2⟩:=uR3 ((h));simp at c0 c1 c2;obtain⟨r0,r1,r2⟩:=uS3 ((h));replace H:=hQd h;clear h);go_roundw
   case rel=>exact .inr (.inl ⟨by go_num,H.out.rawSet 0 (U va)⟩)
   case measure=>first|(simp[intOf];done)|(simp[intOf];omega)
  ·have H:=hQd hst;obtain⟨c0,c1,c2⟩:=uR3 ((hst));simp at c0 c1 c2;obtain⟨r0,r1,r2⟩:=uS3 ((hst));clear hst;go_wp2_with (go_at_call 173;(try clear c0 c1 c2 r0 r1 r2);(with_reducible refine(zL2 s _ 116 vt ?_ HVT.out H.out).mono ?_);kernel_rfl;rintro e_ wn ⟨rfl,h⟩;obtain⟨c0,c1,c2⟩:=uR3 ((h));simp at c0 c1 c2;obtain⟨r0,r1,r2⟩:=uS3 ((h));replace H:=hQd h;clear h);go_roundw
   case rel=>exact .inr (.inr (.inl ⟨by go_num,H.out.rawSet 1 (U vt)⟩))
   case measure=>first|(simp[intOf];done)|(simp[intOf];omega)
  ·have H:=hQd hst;obtain⟨c0,c1,c2⟩:=uR3 ((hst));simp at c0 c1 c2;obtain⟨r0,r1,r2⟩:=uS3 ((hst));clear hst;go_wp2_with (go_at_call 173;(try clear c0 c1 c2 r0 r1 r2);(with_reducible refine(zL2 s _ 99 vc ?_ HVC.out H.out).mono ?_);kernel_rfl;rintro e_ wn ⟨rfl,h⟩;obtain⟨c0,c1,c2⟩:=uR3 ((h));simp at c0 c1 c2;obtain⟨r0,r1,r2⟩:=uS3 ((h));replace H:=hQd h;clear h);go_roundw
   case rel=>exact .inr (.inr (.inr ⟨by go_num,H.out.rawSet 2 (U vc)⟩))
   case measure=>first|(simp[intOf];done)|(simp[intOf];omega)
  ·have H:=hQd hst;clear hst;go_upto_region 6 with fail;have hs:=H.out.drew;have KEEP:=hQd (show ∀w',St W0 w' K (.raw rb #[U va,U vt,U vc] 137::L)→(w'.cell? ⟨rb,0,none⟩=some (U va)∧w'.cell? ⟨rb,1,none⟩=some (U vt)∧w'.cell? ⟨rb,2,none⟩=some (U vc))from fun w' hs=>⟨hs.rawCell 0,hs.rawCell 1,hs.rawCell 2⟩);clear H;refine wp_region_held_drew (S:=fun w'=>w'.cell? ⟨rb,0,none⟩=some (U va)∧w'.cell? ⟨rb,1,none⟩=some (U vt)∧w'.cell? ⟨rb,2,none⟩=some (U vc)) kR (KEEP.out _ hs) (fun hHeld=> ?_);refine tR 0 ?_;refine tR 1 ?_;refine tR 3 ?_;refine wR [2] (rC rfl (fun KK hK=> ?_) rN);go_simp;go_at_call 89;with_reducible refine(sc_let va vt vc hs).mono ?_;rintro e wq ⟨rfl,hs⟩;refine zK hK (KEEP.out _ hs) (fun hHeld=> ?_);clear hK KK
   refine tR 4 ?_;refine wR [5] (rC rfl (fun KK hK=> ?_) rN);rw[if_pos (by rfl)];refine wp_store_mid 137 (.tmp 2) (.tmp 17) rfl rb 0 #[U va,U vt,U vc] (by rfl) (by rfl) hs.there kR (by simp[Value.oneCell']) ?_;obtain⟨wz,ez,hs⟩:=hs.storeEx #[U va,U vt,U vc];rw[ez];clear ez;have hs:St W0 wz K (.raw rb #[U va,U vt,U vc] 137::L):=hs;refine hK.out _ _ (KEEP.out _ hs) (fun hHeld=> ?_);clear hK KK
   try simp only[Act.put]
   refine tR 6 ?_;refine wpAnyH_done kR ?_ _;clear hHeld;have H:=hQd hs;clear hs;go_wp2_with fail;refine bodyPost_ret (zBe rfl _ _ rb [U va,U vt,U vc] _ rfl (zCc H.out) Tryz.underlying137 rfl kR) rfl ?_;exact⟨rfl,H.out.drop⟩
variable {W0 w:World}{K:Know}{L:List Res}
theorem zCb(nb:Nat)(cs:Array Value)(T:TypeId)(wb off cap ncap:Nat)(ws:List Bs)(vs:List Int)(n:Nat)(hw:n=ws.length)(hvs:zAx ws=some vs)(hn:cs.size=ws.length)(hl:ws.length≤1000000)(hx:∀x∈ws,x.length≤1000000)(hlib:K.has Know.lib)(hk:K.has (Know.strw wb off ws))(h:St W0 w K (.raw nb cs T::L)):
 Calls Jd 139 #[Ja (some ⟨nb,0,none⟩) n ncap,Ja (some ⟨wb,off,none⟩) n cap] w fun en w'=>en=Jb (U true)∧St W0 w' K (.raw nb (vs.map fun v=>Value.int O v).toArray T::L):=by
 subst hw;refine(zPF nb cs T wb off cap ncap ws hn hl hx hlib hk h).mono ?_;rintro e w' ⟨cs',rfl,h1,h2,h3⟩;rw[hvs];refine⟨rfl,?_⟩;have h4:=h2 vs hvs;rw[←h4];exact h3
theorem rd_cut(rd wb off cap:Nat)(v ch:Value)(c n:Int)(x:Bs)(hx:zBU x=some n)(hn:0≤n)(hxl:x.length≤1000000)(hlib:K.has Know.lib)(hk:K.has (Know.strw wb off [x]))(h:St W0 w K (.raw rd #[v,I O c,ch] 122::L)):
 Calls Jd 112 #[Jc (some ⟨rd,0,none⟩),Ja (some ⟨wb,off,none⟩) 1 cap] w fun en w'=>en=Jb (U true)∧St W0 w' K (.raw rd #[v,I O n,ch] 122::L):=by
 obtain⟨nb,hnb⟩:=eX w.heap.size;have g1:=h.allocRaw #[I O 0] 191;rw[hnb]at g1;have H:=hQd g1;have HK:=hQd hk;have HLIB:=hQd hlib;have HNS:=hQd (show zAx [x]=some [n] by show(match zBU x with|none=>none|some v=>(zAx []).map (v:: ·))=_;rw[hx];rfl);have HXL:=hQd (show ∀y∈[x],y.length≤1000000 from fun y hy=>by rw[List.mem_singleton.1 hy];exact hxl);have HL1:=hQd (show[x].length≤1000000 by simp);have q1:¬n<0:=by omega
 have q2:decide (n<0)=false:=decide_eq_false q1;clear h g1 hk hlib hx hxl hn;go_enter Tryz.func112,Tryz.ntmps112;go_wp2_with (go_at_call 139;(with_reducible refine(zCb nb #[I O 0] 191 wb off cap 1 [x] [n] 1 rfl HNS.out rfl HL1.out HXL.out HLIB.out HK.out H.out).mono ?_);rintro e_ wn ⟨rfl,h⟩;have h:St W0 wn K (.raw nb #[I O n] 191::_):=h;have c0:=h.rawCell 0;simp at c0;obtain⟨d0,d1,d2⟩:=uR3 ((h.p1));simp at d0 d1 d2;obtain⟨r0,r1,r2⟩:=uS3 ((h.p1));replace H:=hQd h;clear h);go_ret;exact⟨rfl,H.out.p1.rawSet 1 (I O n) |>.p1 |>.drop⟩
theorem zQ8:zEg Jd 30 (.agg #[I O 0,I O 0,U false,U false,U false,I O 0,I O 0,I O 0,I O 0,I O 0,I O 0,Ja none 0 0]) 12 96:=zB8 kR rfl dD
theorem zS9(n0 n1 n2 n3 n4 n5 n6 n7:Int)(va vt vc:Bool)(w:World):(Instr.buildSlice 22 1 #[(0,.agg #[I O n0,I O n1,U va,U vt,U vc,I O n2,I O n3,I O n4,I O n5,I O n6,I O n7,Ja none 0 0])]).run Jd w=.ok (Ja (some ⟨w.heap.size,0,none⟩) 1 1) (w.alloc (.cells #[I O n0,I O n1,U va,U vt,U vc,I O n2,I O n3,I O n4,I O n5,I O n6,I O n7,Ja none 0 0] 30 (0,0))):=by go_simp
theorem zHM{o:Oper}{ρ:Operand→Value}(ps:Array (Nat×Value))(v:Value)(w w':World)(ho:execOp ρ o=(do pure (Next.value (←Instr.buildSlice 22 1 ps))))(hb:(Instr.buildSlice 22 1 ps).run Jd w=.ok v w'):(execOp ρ o).run Jd w=.ok (.value v) w':=by
 rw[ho];simp[hb,Result.andThen]
theorem St.setExS{W0 w:World}{K:Know}{L:List Res}{b:Nat}{c:Array Value}{T:TypeId}(h:St W0 w K (.raw b c T::L))(j:Nat)(v:Value):∃wz,w.setCell ⟨b,j,none⟩ v=wz∧St W0 wz K (.raw b (c.setIfInBounds j v) T::L):=⟨_,rfl,h.rawSet j v⟩
theorem zR7(rd wb off cap:Nat)(v ch:Value)(c:Int)(n:Nat)(xs:List Value)(ws:List Bs)(s:Bs)(n0 n1 n2 n3 n4 n5 n6 n7:Int)(va vt vc ok:Bool)(hw:8=ws.length)(hns:zAx ws=some [n0,n1,n2,n3,n4,n5,n6,n7])(hva:hasB s 97=va)(hvt:hasB s 116=vt)(hvc:hasB s 99=vc)(hok:(letW va vt vc==s)=ok)(hn:n≤1000000)(hxl:∀y∈ws,y.length≤1000000)(hcap:9≤cap){W0 w:World}{K:Know}{L:List Res}(hlib:K.has Know.lib)(hk:K.has (Know.strw wb off (ws++[s])))(h:St W0 w K (.raw rd #[v,I O c,ch] 122::.row v 30 12 n xs::L)):
 Calls Jd 113 #[Jc (some ⟨rd,0,none⟩),Ja (some ⟨wb,off,none⟩) 9 cap] w fun en w'=>∃v',en=Jb (U ok)∧St W0 w' K (.raw rd #[v',I O c,ch] 122::.row v' 30 12 (n+1) (xs++[I O n0,I O n1,U va,U vt,U vc,I O n2,I O n3,I O n4,I O n5,I O n6,I O n7,Ja none 0 0])::L):=by
 obtain⟨nb,hnb⟩:=eX w.heap.size;have g1:=h.allocRaw #[I O 0,I O 0,I O 0,I O 0,I O 0,I O 0,I O 0,I O 0] 135;rw[hnb]at g1
 have C8:=hQd (show ∀(w':World) (L':List Res),St W0 w' K L'→w'.cell? ⟨wb,off+8,none⟩=some (Z (bb s))from fun w' L' h'=>by
  have h9:=zGK hk h' 8 (by rw[Je,←hw];simp);rw[List.getElem_append_right oM]at h9
  simpa [←hw]using h9)
 have HK:=hQd hk;have HK8:=hQd (show K.has (Know.strw wb off ws)from by have h9:=zBR hk 8;rw[List.take_append_of_le_length oM,Jj oM]at h9;exact h9);have H:=hQd g1;have HLIB:=hQd hlib;have HW:=hQd hw;have HNS:=hQd hns;have HXL:=hQd hxl;have HZ:=hQd (show((#[I O 0,I O 0,I O 0,I O 0,I O 0,I O 0,I O 0,I O 0]:Array Value)).size=ws.length from hw);have HL1:=hQd (show ws.length≤1000000 by omega);have HVA:=hQd hva;have HVT:=hQd hvt;have HVC:=hQd hvc;have HOK:=hQd hok;have HN:=hQd hn;have hc8:(8:Int)≤(cap:Int):=by omega
 clear h g1 hk hlib hns hxl hva hvt hvc hok hw hn;go_enter Tryz.func113,Tryz.ntmps113;go_upto_region 2 with fail;have hs:=H.out.drew;clear H;refine wp_region_held_drew (S:=fun _=>True) kR trivial (fun hHeld=> ?_);refine tR 0 ?_;refine tR 1 ?_;refine tR 2 ?_;refine tR 3 ?_;refine tR 4 ?_;refine tR 5 ?_;refine tR 6 ?_;refine wR [7] (rC rfl (fun KK hK=> ?_) rN);go_simp;go_at_call 139;with_reducible refine(zCb nb #[I O 0,I O 0,I O 0,I O 0,I O 0,I O 0,I O 0,I O 0] 135 wb off cap 8 ws [n0,n1,n2,n3,n4,n5,n6,n7] 8 HW.out HNS.out HZ.out HL1.out HXL.out HLIB.out HK8.out hs).mono ?_;rintro e wq ⟨rfl,hs⟩;refine zK hK (trivial) (fun hHeld=> ?_);clear hK KK
 have hs:St W0 wq K (.raw nb #[I O n0,I O n1,I O n2,I O n3,I O n4,I O n5,I O n6,I O n7] 135::.raw rd #[v,I O c,ch] 122::.row v 30 12 n xs::L):=hs;refine tR 8 ?_;refine tR 9 ?_;refine wpAnyH_done kR ?_ _;clear hHeld;have H:=hQd hs;clear hs;have c8:=C8.out _ _ H.out;go_upto_region 5 with (go_at_call 140;clear c8;(with_reducible refine(zN8 s va vt vc HVA.out HVT.out HVC.out ok HOK.out H.out).mono ?_);rintro e_ wn ⟨rfl,h⟩;obtain⟨lb,hlb⟩:=eX wn.heap.size;have h:=h.allocRaw #[U va,U vt,U vc] 137;rw[hlb]at h;replace H:=hQd h;clear h);have hs:=H.out.drew;have K5:=hQd (show ∀(w':World) (L1 L2:List Res),St W0 w' K (.raw nb #[I O n0,I O n1,I O n2,I O n3,I O n4,I O n5,I O n6,I O n7] 135::L1)→St W0 w' K (.raw lb #[U va,U vt,U vc] 137::L2)→(w'.cell? ⟨nb,0,none⟩=some (I O n0)∧w'.cell? ⟨nb,1,none⟩=some (I O n1)∧w'.cell? ⟨nb,2,none⟩=some (I O n2)∧w'.cell? ⟨nb,3,none⟩=some (I O n3)∧w'.cell? ⟨nb,4,none⟩=some (I O n4)∧w'.cell? ⟨nb,5,none⟩=some (I O n5)∧w'.cell? ⟨nb,6,none⟩=some (I O n6)∧w'.cell? ⟨nb,7,none⟩=some (I O n7)∧w'.cell? ⟨lb,0,none⟩=some (U va)∧w'.cell? ⟨lb,1,none⟩=some (U vt)∧w'.cell? ⟨lb,2,none⟩=some (U vc))from fun w' L1 L2 h1 h2=>⟨h1.rawCell 0,h1.rawCell 1,h1.rawCell 2,h1.rawCell 3,h1.rawCell 4,h1.rawCell 5,h1.rawCell 6,h1.rawCell 7,h2.rawCell 0,h2.rawCell 1,h2.rawCell 2⟩);clear H;refine wp_region_held_drew (S:=fun w'=>w'.cell? ⟨nb,0,none⟩=some (I O n0)∧w'.cell? ⟨nb,1,none⟩=some (I O n1)∧w'.cell? ⟨nb,2,none⟩=some (I O n2)∧w'.cell? ⟨nb,3,none⟩=some (I O n3)∧w'.cell? ⟨nb,4,none⟩=some (I O n4)∧w'.cell? ⟨nb,5,none⟩=some (I O n5)∧w'.cell? ⟨nb,6,none⟩=some (I O n6)∧w'.cell? ⟨nb,7,none⟩=some (I O n7)∧w'.cell? ⟨lb,0,none⟩=some (U va)∧w'.cell? ⟨lb,1,none⟩=some (U vt)∧w'.cell? ⟨lb,2,none⟩=some (U vc)) kR (K5.out _ _ _ (hs.p1) (hs)) (fun hHeld=> ?_);refine tR 0 ?_;refine tR 1 ?_;refine tR 2 ?_;refine tR 3 ?_;refine tR 4 ?_;refine tR 6 ?_;refine tR 7 ?_;refine tR 8 ?_;refine tR 9 ?_;refine tR 10 ?_;refine tR 11 ?_;refine tR 12 ?_;refine tR 13 ?_;refine tR 14 ?_;refine tR 15 ?_;refine tR 16 ?_;refine tR 17 ?_;refine tR 18 ?_;refine tR 19 ?_;refine tR 20 ?_;refine tR 21 ?_;refine tR 22 ?_;refine tR 23 ?_;refine tR 24 ?_;refine tR 25 ?_;refine tR 26 ?_;refine tR 27 ?_;refine tR 28 ?_;refine wR [5,29] (rC rfl (fun KK hK=> ?_) (rC rfl (fun KK hK=> ?_) rN))
 focus
  have z1:=hs.p2.rawCell 0;simp at z1;go_simp;refine zK hK (K5.out _ _ _ (hs.p1) (hs)) (fun hHeld=> ?_);clear hK KK
  clear z1;refine wR [29] (rC rfl (fun KK hK=> ?_) rN);rw[if_pos (by rfl)];refine zB6 (zHM _ _ _ _ kR (zS9 n0 n1 n2 n3 n4 n5 n6 n7 va vt vc _)) ?_;obtain⟨wy,b2,ey,eb,hs⟩:=hs.allocEx #[I O n0,I O n1,U va,U vt,U vc,I O n2,I O n3,I O n4,I O n5,I O n6,I O n7,Ja none 0 0] 30;rw[ey,eb];clear ey eb;refine zK hK (K5.out _ _ _ (hs.p2) (hs.p1)) (fun hHeld=> ?_);clear hK KK
 rotate_left
 focus
  rw[if_pos (by rfl)];refine zB6 (zHM _ _ _ _ kR (zS9 n0 n1 n2 n3 n4 n5 n6 n7 va vt vc _)) ?_;obtain⟨wy,b2,ey,eb,hs⟩:=hs.allocEx #[I O n0,I O n1,U va,U vt,U vc,I O n2,I O n3,I O n4,I O n5,I O n6,I O n7,Ja none 0 0] 30;rw[ey,eb];clear ey eb;refine zK hK (K5.out _ _ _ (hs.p2) (hs.p1)) (fun hHeld=> ?_);clear hK KK
  refine wR [5] (rC rfl (fun KK hK=> ?_) rN);have z1:=hs.p3.rawCell 0;simp at z1;go_simp;refine zK hK (K5.out _ _ _ (hs.p2) (hs.p1)) (fun hHeld=> ?_);clear hK KK
  clear z1
 all_goals
  refine wR [30] (rC rfl (fun KK hK=> ?_) rN);have hs:=hs.p4.p1;rw[if_pos (by rfl)];refine zMu (.tmp 30) (.tmp 54) 22 rfl 30 Tryz.underlying22 zQ8 _ _ _ (by rfl) b2 #[I O n0,I O n1,U va,U vt,U vc,I O n2,I O n3,I O n4,I O n5,I O n6,I O n7,Ja none 0 0] 30 hs (by rfl) rfl (by simp[Value.oneCell']) (by have:=HN.out;unfold maxLen;omega) (by have:=HN.out;omega) (fun v' w' h=> ?_);have hs:=h;clear h;obtain⟨qv,cv,hv⟩:=hs.rowAny;subst hv;refine zK hK (K5.out _ _ _ (hs.p2) (hs.p1)) (fun hHeld=> ?_);clear hK KK
  refine tR 31 ?_;refine tR 32 ?_;refine tR 33 ?_;refine wR [34] (rC rfl (fun KK hK=> ?_) rN);have hs:=hs.p3;have q1:=hs.rawFree 0;have z1:=hs.rawCell 0;simp at z1;rw[if_pos (by rfl)];refine zHx (w':=w'.setCell ⟨rd,0,none⟩ (Ja qv (n+1) cv)) (by go_simp) ?_;obtain⟨wz,ez,hs⟩:=hs.setExS 0 (Ja qv (n+1) cv);rw[ez];clear ez q1 z1;refine hK.out _ _ (K5.out _ _ _ (hs.p3) (hs.p2)) (fun hHeld=> ?_);clear hK KK
  try simp only[Act.put]
  refine wpAnyH_done kR ?_ _;clear hHeld;have H:=hQd hs;clear hs;go_wp2_with fail;go_ret;exact⟨rfl,_,H.out.p3.drop.p2.drop⟩
theorem zDa(nb:Nat)(cs:Array Value)(T:TypeId)(wb off cap ncap:Nat)(ws:List Bs)(n:Nat)(hw:n=ws.length)(hvs:zAx ws=none)(hn:cs.size=ws.length)(hl:ws.length≤1000000)(hx:∀x∈ws,x.length≤1000000)(hlib:K.has Know.lib)(hk:K.has (Know.strw wb off ws))(h:St W0 w K (.raw nb cs T::L)):
 Calls Jd 139 #[Ja (some ⟨nb,0,none⟩) n ncap,Ja (some ⟨wb,off,none⟩) n cap] w fun en w'=>en=Jb (U false)∧St W0 w' K L:=by
 subst hw;refine(zPF nb cs T wb off cap ncap ws hn hl hx hlib hk h).mono ?_;rintro e w' ⟨cs',rfl,h1,h2,h3⟩;rw[hvs];exact⟨rfl,h3.drop⟩
theorem zKu(nb n m:Nat)(wb off cap ncap:Nat)(ws:List Bs)(hm:m=ws.length)(hne:m≠n)(h:St W0 w K L):
 Calls Jd 139 #[Ja (some ⟨nb,0,none⟩) n ncap,Ja (some ⟨wb,off,none⟩) m cap] w fun en w'=>en=Jb (U false)∧St W0 w' K L:=by
 subst hm;exact zL4 nb n wb off cap ncap ws hne h
theorem zMx(nw:Nat)(hn:nw≤1000000)(w:World):(Instr.makeSlice 23 (I O (nw:Int)) (I O (nw:Int))).run Jd w=.ok (Ja (some ⟨w.heap.size,0,none⟩) nw nw) (w.alloc (.cells (madeCells #[Value.int O 0] nw) 3 (0,0))):=by
 have h:=run_make_row' 23 3 (I O 0) 8 Tryz.underlying23 kR rfl .i64 .i64 nw oM oM w;have e:(madeCells (Value.int O 0).cells nw)=(madeCells #[Value.int O 0] nw):=rfl
 first|exact h|(rw[e]at h;exact h)|(simpa using h)
theorem zND(nw:Nat):(madeCells #[Value.int O 0] nw).size=nw:=by simp[madeCells]
structure BtR where
 b:BatS
 l:List (RecS×Value)
 v:Value
def zEe (b:BatS) (v:Value):List Value:=[I O b.base,I O b.leader,U b.app,U b.txn,U b.ctl,I O b.last,I O b.first,I O b.maxt,I O b.prod,I O b.epoch,I O b.seq,v]
def zAZ (x:BtR):List Value:=zEe x.b x.v
def RBt (cs:List Value) (x:BtR):Prop:=cs=zAZ x
def Know.btrs (v:Value) (l:List BtR):Know:=(Know.flat RBt v 12 l).and (Know.all l fun x=>Know.recs x.v x.l)
inductive BSt
 |zero
 |bat (d:List BtR) (b:BatS)
 |recd (d:List BtR) (b:BatS) (l:List (RecS×Value)) (r:RecS)
def BSt.n:BSt→Nat
 | .zero=>0
 | .bat d _=>d.length+1
 | .recd d _ _ _=>d.length+1
def BSt.m:BSt→Nat
 | .recd _ _ l _=>l.length+1
 | _=>0
def BSt.p:BSt→Nat
 | .recd _ _ _ r=>r.hdrs.length
 | _=>0
def BSt.xs:BSt→Value→List Value
 | .zero,_=>[]
 | .bat d b,v=>d.flatMap zAZ++zEe b v
 | .recd d b _ _,v=>d.flatMap zAZ++zEe b v
def BSt.ys:BSt→Value→List Value
 | .recd _ _ l r,v=>l.flatMap zBm++zBm (r,v)
 | _,_=>[]
def BSt.zs:BSt→List Value
 | .recd _ _ _ r=>r.hdrs.flatMap hcells
 | _=>[]
def BSt.known (K:Know):BSt→Prop
 | .zero=>True
 | .bat d _=>∀x∈d,K.has (Know.recs x.v x.l)
 | .recd d _ l _=>(∀x∈d,K.has (Know.recs x.v x.l))∧∀x∈l,K.has (Know.flat RHdr x.2 3 x.1.hdrs)
def BSt.rows (s:BSt) (vB vR vH:Value) (L:List Res):List Res:=.row vB 30 12 s.n (s.xs vR)::.row vR 54 7 s.m (s.ys vH)::.row vH 73 3 s.p s.zs::L
theorem BSt.known.mono{K K':Know}{s:BSt}(h:s.known K)(hk:K'.has K):s.known K':=by
 cases s with
 |zero=>trivial
 |bat d b=>exact fun x hx=>Know.has_trans hk (h x hx)
 |recd d b l r=>exact⟨fun x hx=>Know.has_trans hk (h.1 x hx),fun x hx=>Know.has_trans hk (h.2 x hx)⟩
theorem zCG:∀d:List BtR,(d.flatMap zAZ).length=d.length*12
 |[]=>rfl
 |x::t=>by rw[List.flatMap_cons,Je,zCG t,Jg];show 12+_=_;omega
theorem zC2:∀d:List (RecS×Value),(d.flatMap zBm).length=d.length*7
 |[]=>rfl
 |x::t=>by rw[List.flatMap_cons,Je,zC2 t,Jg];show 7+_=_;omega
theorem zTa(d:List BtR)(b:BatS)(v:Value):(d.flatMap zAZ++zEe b v)[d.length*12+11]? =some v:=by
 rw[List.getElem?_append_right (by rw[zCG];omega),zCG,show d.length*12+11 - d.length*12=11 by omega]
 rfl
theorem xs_set(d:List BtR)(b:BatS)(v u:Value):(d.flatMap zAZ++zEe b v).set (d.length*12+11) u=d.flatMap zAZ++zEe b u:=by
 rw[List.set_append_right _ _ (by rw[zCG];omega),zCG,show d.length*12+11 - d.length*12=11 by omega]
 rfl
theorem ys_at(l:List (RecS×Value))(r:RecS)(v:Value):(l.flatMap zBm++zBm (r,v))[l.length*7+6]? =some v:=by
 rw[List.getElem?_append_right (by rw[zC2];omega),zC2,show l.length*7+6 - l.length*7=6 by omega]
 rfl
theorem ys_set(l:List (RecS×Value))(r:RecS)(v u:Value):(l.flatMap zBm++zBm (r,v)).set (l.length*7+6) u=l.flatMap zBm++zBm (r,u):=by
 rw[List.set_append_right _ _ (by rw[zC2];omega),zC2,show l.length*7+6 - l.length*7=6 by omega]
 rfl
theorem zDO{α:Type}(l:List α)(x:α)(f:α→List Value):(l++[x]).flatMap f=l.flatMap f++f x:=by simp
theorem shutH{vH:Value}{T:TypeId}{r:RecS}(h:St W0 w K (.row vH T 3 r.hdrs.length (r.hdrs.flatMap hcells)::L)):St W0 w (K.and (Know.flat RHdr vH 3 r.hdrs)) L:=
 h.freezeRow fun x _=>⟨rfl,rfl⟩
theorem y9{p:Prop}(h:p:=by
  refine⟨_,Know.has_left (Know.has_refl _),fun w F hw=>⟨hw.2,fun x hx=>hl x hx w F hw.1⟩,h1⟩):p:=h
theorem shutR{vR:Value}{T:TypeId}{l:List (RecS×Value)}(h:St W0 w K (.row vR T 7 l.length (l.flatMap zBm)::L))(hl:∀x∈l,K.has (Know.flat RHdr x.2 3 x.1.hdrs)):∃K',K'.has K∧K'.has (Know.recs vR l)∧St W0 w K' L:=by
 have h1:=h.freezeRow (R:=RRec) (f:=zBm) fun x _=>⟨rfl,rfl⟩
 exact y9
theorem shutB{vB:Value}{T:TypeId}{l:List BtR}(h:St W0 w K (.row vB T 12 l.length (l.flatMap zAZ)::L))(hl:∀x∈l,K.has (Know.recs x.v x.l)):∃K',K'.has K∧K'.has (Know.btrs vB l)∧St W0 w K' L:=by
 have h1:=h.freezeRow (R:=RBt) (f:=zAZ) fun x _=>⟨rfl,rfl⟩
 exact y9
theorem zQ5:zEg Jd 54 (.agg #[I O 0,I O 0,U false,Z ⟨#[]⟩,U false,Z ⟨#[]⟩,Ja none 0 0]) 7 88:=zB8 kR rfl dD
theorem zS7(t o:Int)(kn vn:Bool)(kd vd:ByteArray)(w:World):(Instr.buildSlice 28 1 #[(0,.agg #[I O t,I O o,U kn,Z kd,U vn,Z vd,Ja none 0 0])]).run Jd w=.ok (Ja (some ⟨w.heap.size,0,none⟩) 1 1) (w.alloc (.cells #[I O t,I O o,U kn,Z kd,U vn,Z vd,Ja none 0 0] 54 (0,0))):=by go_simp
theorem zHK{o:Oper}{ρ:Operand→Value}(ps:Array (Nat×Value))(v:Value)(w w':World)(ho:execOp ρ o=(do pure (Next.value (←Instr.buildSlice 28 1 ps))))(hb:(Instr.buildSlice 28 1 ps).run Jd w=.ok v w'):(execOp ρ o).run Jd w=.ok (.value v) w':=by
 rw[ho];simp[hb,Result.andThen]
theorem St.rowSetEx{W0 w:World}{K:Know}{L:List Res}{g n cap sz:Nat}{T:TypeId}{xs:List Value}(h:St W0 w K (.row (Ja (some ⟨g,0,none⟩) n cap) T sz n xs::L))(j:Nat)(v:Value):∃wz,w.setCell ⟨g,j,none⟩ v=wz∧St W0 wz K (.row (Ja (some ⟨g,0,none⟩) n cap) T sz n (xs.set j v)::L):=⟨_,rfl,h.rowSet j v⟩
theorem St.p6{W0 w:World}{K:Know}{a b c d e f g:Res}{L:List Res}(h:St W0 w K (a::b::c::d::e::f::g::L)):St W0 w K (g::a::b::c::d::e::f::L):=St.p5 (h.map fun _ h=>h.cons fun _ h=>h.cons fun _ h=>h.cons fun _ h=>h.cons fun _ h=>h.cons fun _=>Holds.swap)
theorem zAB{W0:World}{K:Know}{wb off:Nat}{ws:List Bs}(hk:K.has (Know.strw wb off ws))(j:Nat)(x:Bs)(hx:ws[j]? =some x):∀(w':World) (L':List Res),St W0 w' K L'→w'.cell? ⟨wb,off+j,none⟩=some (Z (bb x)):=fun w' L' h'=>by
 obtain⟨F,hF,_⟩:=h'.get;exact(hk _ _ hF).2.2 j x hx
theorem zJk(s a b:Bs)(f:Bool)(hc:Lib.cut s [10]=(a,b,f))(hs:s.length≤1000000)(hk:K.has Know.lib)(h:St W0 w K L):
 Calls Jd 80 #[Z (bb s),Z ⟨#[10]⟩] w fun e w'=>e=Jb (.tuple #[Z (bb a),Z (bb b),U f])∧St W0 w' K L:=sl_cut s [10] a b f hc hs hk h
theorem zGM(s:Bs)(ws:List Bs)(n:Nat)(hn:ws.length=n)(hw:zDw s=ws.map bb)(hs:s.length≤1000000)(hk:K.has Know.lib)(h:St W0 w K L):
 Calls Jd 82 #[Z (bb s),Z ⟨#[32]⟩] w fun e w'=>∃b,e=Jb (Ja (some ⟨b,0,none⟩) n n)∧St W0 w' K (.raw b (ws.map fun x=>Value.string (bb x)).toArray 9::L):=by
 subst hn;exact zRO s ws hw hs hk h
def zA6 (s:Bs):Bool×Bs×Bool:=if s=[110,111,110,101]then(true,[],true)else(false,(hexV s).1,(hexV s).2)
end Go.Proofs.YtenojajfacacoaaGreatDoor
