import Derived.WalkKit
import Derived.WalkSpells
import Derived.WalkLawsBesides
import GoSem.Claim
import Derived.Test.YtfpgjkbjbbgciaaGreatDoorProg
import Derived.Lib.ParseIntB
import Derived.Lib.SplitLaws
import Derived.Laws.Strings
import Derived.Lib.Strings
import Derived.Deep.Light
import Derived.Laws.IdiomStrings
import Derived.Lib.DecodeN
import Derived.Lib.OthersKept
import Derived.Shelf.Small.Wraps
import Derived.Shelf.LaysM
import Derived.Shelf.LaysC
import Derived.Shelf.Strconv.ParseIntPublic10
import Derived.Shelf.Strconv.ErrVarParseInt
import Derived.Shelf.Strings.Count
import Derived.Shelf.Strings.Prefix
import Derived.Shelf.Strings.Split
import Derived.Shelf.Unicode.DecodeAny
import Derived.Lib.RuneCountTail
import Derived.WalkSmall
import Derived.Lib.AtoiErrMem
import Derived.Maps.Own
import Derived.Maps.OwnOps
import Derived.Maps.OwnSet
import Derived.Maps.AppendAt
import Derived.Maps.Views
import Derived.Deep.AppendLies
import Derived.Deep.RegionHeld3
import Derived.Deep.DrawnRows
import Derived.RegionDies
import Derived.BigQuiet
import Derived.StillTail
import Derived.Defers
import Derived.Recover
set_option maxRecDepth 100000
set_option maxHeartbeats 8000000
namespace Go.Proofs
open Go.Shelf
def Tryz.lays104_ren:Go.Shelf.Ren:=⟨fun|104=>128|211=>148|207=>164|n=>n,fun|9=>9|4=>4|24=>206|3=>3|n=>n,fun|n=>n⟩
theorem Tryz.lays104:Go.Proofs.Lays.n104 Tryz.prog Tryz.lays104_ren:={
 mixed:=by kernel_rfl
 f104:=Tryz.func128.trans (congrArg some (by kernel_rfl))
 f207:=Tryz.func164.trans (congrArg some (by kernel_rfl))
 f211:=Tryz.func148.trans (congrArg some (by kernel_rfl))
 t3:=Tryz.underlying3
 a3:=Tryz.isAgg3
 z3:=Tryz.sizeOf3
 v3:=Tryz.zeroValue3
 t4:=Tryz.underlying4
 a4:=Tryz.isAgg4
 z4:=Tryz.sizeOf4
 v4:=Tryz.zeroValue4
 t9:=Tryz.underlying9
 a9:=Tryz.isAgg9
 z9:=Tryz.sizeOf9
 v9:=Tryz.zeroValue9
 t24:=Tryz.underlying206
 a24:=Tryz.isAgg206
 z24:=Tryz.sizeOf206
 v24:=Tryz.zeroValue206 }
open Go.RowKit in
theorem Tryz.strings_CutSuffix(s p:ByteArray)(w:World)(hs:s.size≤9223372036854775807):
  Calls Tryz.prog 128 #[.string s,.string p] w fun e w'=>e=.returned (.tuple #[.string ⟨(Lib.trimSuffix s.data.toList p.data.toList).toArray⟩,.bool (Lib.hasSuffix s.data.toList p.data.toList)])∧w'=w:=Any.strings_CutSuffix Tryz.lays104 s p w hs
def Tryz.laysC174_ren:Go.Shelf.Ren:=⟨fun|174=>175|247=>180|245=>181|287=>184|279=>185|280=>186|281=>187|282=>188|321=>189|322=>190|316=>191|171=>193|205=>192|243=>194|246=>195|283=>196|284=>197|285=>198|286=>199|129=>201|317=>200|318=>202|319=>203|320=>204|337=>205|338=>206|n=>n,fun|9=>9|3=>3|2=>2|75=>246|85=>247|4=>4|167=>255|5=>5|53=>256|175=>257|46=>231|168=>259|37=>157|0=>0|210=>264|21=>21|127=>266|145=>269|143=>267|171=>271|173=>274|212=>277|51=>237|20=>20|213=>278|232=>281|233=>282|80=>202|n=>n,fun|15=>3|16=>4|17=>5|18=>6|19=>7|n=>n⟩
theorem Tryz.laysC174:Go.Proofs.LaysC.n174 Tryz.prog Tryz.laysC174_ren:={
 mixed:=by kernel_rfl
 f129:=Tryz.func201.trans (congrArg some (by kernel_rfl))
 f171:=Tryz.func193.trans (congrArg some (by kernel_rfl))
 f174:=Tryz.func175.trans (congrArg some (by kernel_rfl))
 f205:=Tryz.func192.trans (congrArg some (by kernel_rfl))
 f243:=Tryz.func194.trans (congrArg some (by kernel_rfl))
 f245:=Tryz.func181.trans (congrArg some (by kernel_rfl))
 f246:=Tryz.func195.trans (congrArg some (by kernel_rfl))
 f247:=Tryz.func180.trans (congrArg some (by kernel_rfl))
 f279:=Tryz.func185.trans (congrArg some (by kernel_rfl))
 f280:=Tryz.func186.trans (congrArg some (by kernel_rfl))
 f281:=Tryz.func187.trans (congrArg some (by kernel_rfl))
 f282:=Tryz.func188.trans (congrArg some (by kernel_rfl))
 f283:=Tryz.func196.trans (congrArg some (by kernel_rfl))
 f284:=Tryz.func197.trans (congrArg some (by kernel_rfl))
 f285:=Tryz.func198.trans (congrArg some (by kernel_rfl))
 f286:=Tryz.func199.trans (congrArg some (by kernel_rfl))
 f287:=Tryz.func184.trans (congrArg some (by kernel_rfl))
 f316:=Tryz.func191.trans (congrArg some (by kernel_rfl))
 f317:=Tryz.func200.trans (congrArg some (by kernel_rfl))
 f318:=Tryz.func202.trans (congrArg some (by kernel_rfl))
 f319:=Tryz.func203.trans (congrArg some (by kernel_rfl))
 f320:=Tryz.func204.trans (congrArg some (by kernel_rfl))
 f321:=Tryz.func189.trans (congrArg some (by kernel_rfl))
 f322:=Tryz.func190.trans (congrArg some (by kernel_rfl))
 f337:=Tryz.func205.trans (congrArg some (by kernel_rfl))
 f338:=Tryz.func206.trans (congrArg some (by kernel_rfl))
 t0:=Tryz.underlying0
 a0:=Tryz.isAgg0
 z0:=Tryz.sizeOf0
 v0:=Tryz.zeroValue0
 t2:=Tryz.underlying2
 a2:=Tryz.isAgg2
 z2:=Tryz.sizeOf2
 v2:=Tryz.zeroValue2
 t3:=Tryz.underlying3
 a3:=Tryz.isAgg3
 z3:=Tryz.sizeOf3
 v3:=Tryz.zeroValue3
 t4:=Tryz.underlying4
 a4:=Tryz.isAgg4
 z4:=Tryz.sizeOf4
 v4:=Tryz.zeroValue4
 t5:=Tryz.underlying5
 a5:=Tryz.isAgg5
 z5:=Tryz.sizeOf5
 v5:=Tryz.zeroValue5
 t9:=Tryz.underlying9
 a9:=Tryz.isAgg9
 z9:=Tryz.sizeOf9
 v9:=Tryz.zeroValue9
 t20:=Tryz.underlying20
 a20:=Tryz.isAgg20
 z20:=Tryz.sizeOf20
 v20:=Tryz.zeroValue20
 t21:=Tryz.underlying21
 a21:=Tryz.isAgg21
 z21:=Tryz.sizeOf21
 v21:=Tryz.zeroValue21
 t37:=Tryz.underlying157
 a37:=Tryz.isAgg157
 z37:=Tryz.sizeOf157
 v37:=Tryz.zeroValue157
 t46:=Tryz.underlying231
 a46:=Tryz.isAgg231
 z46:=Tryz.sizeOf231
 v46:=Tryz.zeroValue231
 t51:=Tryz.underlying237
 a51:=Tryz.isAgg237
 z51:=Tryz.sizeOf237
 v51:=Tryz.zeroValue237
 t53:=Tryz.underlying256
 a53:=Tryz.isAgg256
 z53:=Tryz.sizeOf256
 v53:=Tryz.zeroValue256
 t75:=Tryz.underlying246
 a75:=Tryz.isAgg246
 z75:=Tryz.sizeOf246
 v75:=Tryz.zeroValue246
 t85:=Tryz.underlying247
 a85:=Tryz.isAgg247
 z85:=Tryz.sizeOf247
 v85:=Tryz.zeroValue247
 t127:=Tryz.underlying266
 a127:=Tryz.isAgg266
 z127:=Tryz.sizeOf266
 v127:=Tryz.zeroValue266
 t143:=Tryz.underlying267
 a143:=Tryz.isAgg267
 z143:=Tryz.sizeOf267
 v143:=Tryz.zeroValue267
 t145:=Tryz.underlying269
 a145:=Tryz.isAgg269
 z145:=Tryz.sizeOf269
 v145:=Tryz.zeroValue269
 t167:=Tryz.underlying255
 a167:=Tryz.isAgg255
 z167:=Tryz.sizeOf255
 v167:=Tryz.zeroValue255
 t168:=Tryz.underlying259
 a168:=Tryz.isAgg259
 z168:=Tryz.sizeOf259
 v168:=Tryz.zeroValue259
 t171:=Tryz.underlying271
 a171:=Tryz.isAgg271
 z171:=Tryz.sizeOf271
 v171:=Tryz.zeroValue271
 t173:=Tryz.underlying274
 a173:=Tryz.isAgg274
 z173:=Tryz.sizeOf274
 v173:=Tryz.zeroValue274
 t175:=Tryz.underlying257
 a175:=Tryz.isAgg257
 z175:=Tryz.sizeOf257
 v175:=Tryz.zeroValue257
 t210:=Tryz.underlying264
 a210:=Tryz.isAgg264
 z210:=Tryz.sizeOf264
 v210:=Tryz.zeroValue264
 t212:=Tryz.underlying277
 a212:=Tryz.isAgg277
 z212:=Tryz.sizeOf277
 v212:=Tryz.zeroValue277
 t213:=Tryz.underlying278
 a213:=Tryz.isAgg278
 z213:=Tryz.sizeOf278
 t232:=Tryz.underlying281
 a232:=Tryz.isAgg281
 z232:=Tryz.sizeOf281
 v232:=Tryz.zeroValue281
 t233:=Tryz.underlying282
 a233:=Tryz.isAgg282
 z233:=Tryz.sizeOf282
 v233:=Tryz.zeroValue282
 g15:=by kernel_rfl
 g16:=by kernel_rfl
 g17:=by kernel_rfl
 g18:=by kernel_rfl
 g19:=by kernel_rfl
 t80:=Tryz.underlying202
 a80:=Tryz.isAgg202
 z80:=Tryz.sizeOf202
 v80:=Tryz.zeroValue202
 i0:=by kernel_rfl
 i2:=by kernel_rfl
 i3:=by kernel_rfl
 i4:=by kernel_rfl
 i5:=by kernel_rfl
 i9:=by kernel_rfl
 i20:=by kernel_rfl
 i21:=by kernel_rfl
 i37:=by kernel_rfl
 i46:=by kernel_rfl
 i51:=by kernel_rfl
 i53:=by kernel_rfl
 i75:=by kernel_rfl
 i80:=by kernel_rfl
 i85:=by kernel_rfl
 i127:=by kernel_rfl
 i143:=by kernel_rfl
 i145:=by kernel_rfl
 i167:=by kernel_rfl
 i168:=by kernel_rfl
 i171:=by kernel_rfl
 i173:=by kernel_rfl
 i175:=by kernel_rfl
 i210:=by kernel_rfl
 i212:=by kernel_rfl
 i232:=by kernel_rfl
 i233:=by kernel_rfl
 m15:=by kernel_rfl
 m16:=by kernel_rfl
 m17:=by kernel_rfl
 m18:=by kernel_rfl
 m19:=by kernel_rfl
 c0:=by kernel_rfl
 c2:=by kernel_rfl
 c3:=by kernel_rfl
 c4:=by kernel_rfl
 c5:=by kernel_rfl
 c9:=by kernel_rfl
 c20:=by kernel_rfl
 c21:=by kernel_rfl
 c37:=by kernel_rfl
 c46:=by kernel_rfl
 c51:=by kernel_rfl
 c53:=by kernel_rfl
 c75:=by kernel_rfl
 c80:=by kernel_rfl
 c85:=by kernel_rfl
 c127:=by kernel_rfl
 c143:=by kernel_rfl
 c145:=by kernel_rfl
 c167:=by kernel_rfl
 c168:=by kernel_rfl
 c171:=by kernel_rfl
 c173:=by kernel_rfl
 c175:=by kernel_rfl
 c210:=by kernel_rfl
 c212:=by kernel_rfl
 c213:=by kernel_rfl
 c232:=by kernel_rfl
 c233:=by kernel_rfl }
open Go.RowKit in
theorem Tryz.strconv_ParseInt_10_at64_ok(s:ByteArray)(hmax:s.size≤9223372036854775806)(v:Int)(h:Lib.parseIntB 64 s.data.toList=.ok v)(w:World):
  Calls Tryz.prog 175 #[.string s,.int .i64 10,.int .i64 64] w fun e w'=>e=.returned (.tuple #[.int .i64 v,.nilIface])∧(w'=w∨∃ t,w'=Lib.bytesWorld w 5 t):=Any.strconv_ParseInt_10_at64_ok Tryz.laysC174 s hmax v h w
open Go.RowKit in
theorem Tryz.strconv_ParseInt_10_at64_syntax_var (s:ByteArray) (hlim:s.size≤281474976710656) (h:Lib.parseIntB 64 s.data.toList=.«syntax») (tp:TypeId) (p:Value) (w:World) (hvar:w.var? Tryz.prog "strconv.ErrSyntax" = some #[.iface tp p]) :
  Calls Tryz.prog 175 #[.string s,.int .i64 10,.int .i64 64] w fun e w'=>∃ N,e=.returned (.tuple #[.int .i64 (0),.iface 259 (.pointer (some ⟨N,0,none⟩))])∧w.heap.size≤N∧w'.heap[N]?=some (.cells #[.string ⟨#[80,97,114,115,101,73,110,116]⟩,.string s,.iface tp p] 264 (0,0))∧Below w.heap.size w w':=Any.strconv_ParseInt_10_at64_syntax_var Tryz.laysC174 s hlim h tp p w hvar
open Go.RowKit in
theorem Tryz.strconv_ParseInt_10_at64_range_var (s:ByteArray) (hlim:s.size≤281474976710656) (h:Lib.parseIntB 64 s.data.toList=.range) (tp:TypeId) (p:Value) (w:World) (hvar:w.var? Tryz.prog "strconv.ErrRange" = some #[.iface tp p]) :
  Calls Tryz.prog 175 #[.string s,.int .i64 10,.int .i64 64] w fun e w'=>∃ N,e=.returned (.tuple #[.int .i64 (Lib.intSat 64 s.data.toList),.iface 259 (.pointer (some ⟨N,0,none⟩))])∧w.heap.size≤N∧w'.heap[N]?=some (.cells #[.string ⟨#[80,97,114,115,101,73,110,116]⟩,.string s,.iface tp p] 264 (0,0))∧Below w.heap.size w w':=Any.strconv_ParseInt_10_at64_range_var Tryz.laysC174 s hlim h tp p w hvar
def Tryz.lays138_ren:Go.Shelf.Ren:=⟨fun|138=>96|195=>122|218=>123|143=>124|219=>144|217=>157|225=>158|224=>159|267=>160|266=>172|314=>173|n=>n,fun|9=>9|3=>3|4=>4|5=>5|0=>0|46=>231|146=>238|51=>237|n=>n,fun|1=>0|n=>n⟩
theorem Tryz.lays138:Go.Proofs.Lays.n138 Tryz.prog Tryz.lays138_ren:={
 mixed:=by kernel_rfl
 f138:=Tryz.func96.trans (congrArg some (by kernel_rfl))
 f143:=Tryz.func124.trans (congrArg some (by kernel_rfl))
 f195:=Tryz.func122.trans (congrArg some (by kernel_rfl))
 f217:=Tryz.func157.trans (congrArg some (by kernel_rfl))
 f218:=Tryz.func123.trans (congrArg some (by kernel_rfl))
 f219:=Tryz.func144.trans (congrArg some (by kernel_rfl))
 f224:=Tryz.func159.trans (congrArg some (by kernel_rfl))
 f225:=Tryz.func158.trans (congrArg some (by kernel_rfl))
 f266:=Tryz.func172.trans (congrArg some (by kernel_rfl))
 f267:=Tryz.func160.trans (congrArg some (by kernel_rfl))
 f314:=Tryz.func173.trans (congrArg some (by kernel_rfl))
 t0:=Tryz.underlying0
 a0:=Tryz.isAgg0
 z0:=Tryz.sizeOf0
 v0:=Tryz.zeroValue0
 t3:=Tryz.underlying3
 a3:=Tryz.isAgg3
 z3:=Tryz.sizeOf3
 v3:=Tryz.zeroValue3
 t4:=Tryz.underlying4
 a4:=Tryz.isAgg4
 z4:=Tryz.sizeOf4
 v4:=Tryz.zeroValue4
 t5:=Tryz.underlying5
 a5:=Tryz.isAgg5
 z5:=Tryz.sizeOf5
 v5:=Tryz.zeroValue5
 t9:=Tryz.underlying9
 a9:=Tryz.isAgg9
 z9:=Tryz.sizeOf9
 v9:=Tryz.zeroValue9
 t46:=Tryz.underlying231
 a46:=Tryz.isAgg231
 z46:=Tryz.sizeOf231
 v46:=Tryz.zeroValue231
 t51:=Tryz.underlying237
 a51:=Tryz.isAgg237
 z51:=Tryz.sizeOf237
 v51:=Tryz.zeroValue237
 t146:=Tryz.underlying238
 a146:=Tryz.isAgg238
 z146:=Tryz.sizeOf238
 v146:=Tryz.zeroValue238
 g1:=by kernel_rfl }
open Go.RowKit Go.Lib in
theorem Tryz.strings_Count_one(s:ByteArray)(c:UInt8)(w:World):
  Calls Tryz.prog 96 #[.string s,.string ⟨#[c]⟩] w fun e w'=>e=.returned (.int .i64 (Lib.countByte s.data.toList c))∧w'=w:=Any.strings_Count_one Tryz.lays138 s c w
def Tryz.lays101_ren:Go.Shelf.Ren:=⟨fun|101=>174|208=>179|206=>183|n=>n,fun|9=>9|4=>4|3=>3|n=>n,fun|n=>n⟩
theorem Tryz.lays101:Go.Proofs.Lays.n101 Tryz.prog Tryz.lays101_ren:={
 mixed:=by kernel_rfl
 f101:=Tryz.func174.trans (congrArg some (by kernel_rfl))
 f206:=Tryz.func183.trans (congrArg some (by kernel_rfl))
 f208:=Tryz.func179.trans (congrArg some (by kernel_rfl))
 t3:=Tryz.underlying3
 a3:=Tryz.isAgg3
 z3:=Tryz.sizeOf3
 v3:=Tryz.zeroValue3
 t4:=Tryz.underlying4
 a4:=Tryz.isAgg4
 z4:=Tryz.sizeOf4
 v4:=Tryz.zeroValue4
 t9:=Tryz.underlying9
 a9:=Tryz.isAgg9
 z9:=Tryz.sizeOf9
 v9:=Tryz.zeroValue9 }
open Go.RowKit Go.Lib in
theorem Tryz.strings_TrimPrefix(s p:ByteArray)(w:World):
  Calls Tryz.prog 174 #[.string s,.string p] w fun e w'=>e=.returned (.string ⟨(Lib.trimPrefix s.data.toList p.data.toList).toArray⟩)∧w'=w:=Any.strings_TrimPrefix Tryz.lays101 s p w
def Tryz.lays146_ren:Go.Shelf.Ren:=⟨fun|146=>97|221=>125|268=>145|138=>96|143=>124|195=>122|197=>146|218=>123|219=>144|260=>161|217=>157|225=>158|224=>159|267=>160|266=>172|314=>173|n=>n,fun|9=>9|31=>67|3=>3|4=>4|0=>0|105=>220|21=>21|5=>5|46=>231|119=>240|139=>243|138=>242|146=>238|51=>237|n=>n,fun|1=>0|3=>1|4=>2|n=>n⟩
theorem Tryz.lays146:Go.Proofs.Lays.n146 Tryz.prog Tryz.lays146_ren:={
 mixed:=by kernel_rfl
 f138:=Tryz.func96.trans (congrArg some (by kernel_rfl))
 f143:=Tryz.func124.trans (congrArg some (by kernel_rfl))
 f146:=Tryz.func97.trans (congrArg some (by kernel_rfl))
 f195:=Tryz.func122.trans (congrArg some (by kernel_rfl))
 f197:=Tryz.func146.trans (congrArg some (by kernel_rfl))
 f217:=Tryz.func157.trans (congrArg some (by kernel_rfl))
 f218:=Tryz.func123.trans (congrArg some (by kernel_rfl))
 f219:=Tryz.func144.trans (congrArg some (by kernel_rfl))
 f221:=Tryz.func125.trans (congrArg some (by kernel_rfl))
 f224:=Tryz.func159.trans (congrArg some (by kernel_rfl))
 f225:=Tryz.func158.trans (congrArg some (by kernel_rfl))
 f260:=Tryz.func161.trans (congrArg some (by kernel_rfl))
 f266:=Tryz.func172.trans (congrArg some (by kernel_rfl))
 f267:=Tryz.func160.trans (congrArg some (by kernel_rfl))
 f268:=Tryz.func145.trans (congrArg some (by kernel_rfl))
 f314:=Tryz.func173.trans (congrArg some (by kernel_rfl))
 t0:=Tryz.underlying0
 a0:=Tryz.isAgg0
 z0:=Tryz.sizeOf0
 v0:=Tryz.zeroValue0
 t3:=Tryz.underlying3
 a3:=Tryz.isAgg3
 z3:=Tryz.sizeOf3
 v3:=Tryz.zeroValue3
 t4:=Tryz.underlying4
 a4:=Tryz.isAgg4
 z4:=Tryz.sizeOf4
 v4:=Tryz.zeroValue4
 t5:=Tryz.underlying5
 a5:=Tryz.isAgg5
 z5:=Tryz.sizeOf5
 v5:=Tryz.zeroValue5
 t9:=Tryz.underlying9
 a9:=Tryz.isAgg9
 z9:=Tryz.sizeOf9
 v9:=Tryz.zeroValue9
 t21:=Tryz.underlying21
 a21:=Tryz.isAgg21
 z21:=Tryz.sizeOf21
 v21:=Tryz.zeroValue21
 t31:=Tryz.underlying67
 a31:=Tryz.isAgg67
 z31:=Tryz.sizeOf67
 v31:=Tryz.zeroValue67
 t46:=Tryz.underlying231
 a46:=Tryz.isAgg231
 z46:=Tryz.sizeOf231
 v46:=Tryz.zeroValue231
 t51:=Tryz.underlying237
 a51:=Tryz.isAgg237
 z51:=Tryz.sizeOf237
 v51:=Tryz.zeroValue237
 t105:=Tryz.underlying220
 a105:=Tryz.isAgg220
 z105:=Tryz.sizeOf220
 v105:=Tryz.zeroValue220
 t119:=Tryz.underlying240
 a119:=Tryz.isAgg240
 z119:=Tryz.sizeOf240
 t138:=Tryz.underlying242
 a138:=Tryz.isAgg242
 z138:=Tryz.sizeOf242
 v138:=Tryz.zeroValue242
 t139:=Tryz.underlying243
 a139:=Tryz.isAgg243
 z139:=Tryz.sizeOf243
 v139:=Tryz.zeroValue243
 t146:=Tryz.underlying238
 a146:=Tryz.isAgg238
 z146:=Tryz.sizeOf238
 v146:=Tryz.zeroValue238
 g1:=by kernel_rfl
 g3:=by kernel_rfl
 g4:=by kernel_rfl }
open Go.RowKit Go.Lib in
theorem Tryz.strings_Split(s sep:ByteArray)(m:Int)(w:World)(hs:s.size<4294967281)(hm:w.cell? ⟨0,0,none⟩=some (.int .i64 m))(h1:1≤sep.size):
  Calls Tryz.prog 97 #[.string s,.string sep] w fun e w' =>
   e=.returned (.slice (some ⟨w.heap.size,0,none⟩) (Lib.countB s sep+1) (Lib.countB s sep+1))∧w'=w.alloc (.cells ((Lib.splitB sep 0 (Lib.countB s sep) s).map Value.string).toArray 9):=Any.strings_Split Tryz.lays146 (by kernel_rfl) s sep m w hs hm h1
def Tryz.lays197_ren:Go.Shelf.Ren:=⟨fun|197=>146|260=>161|n=>n,fun|9=>9|21=>21|3=>3|4=>4|5=>5|105=>220|119=>240|0=>0|46=>231|139=>243|138=>242|n=>n,fun|3=>1|4=>2|n=>n⟩
theorem Tryz.lays197:Go.Proofs.Lays.n197 Tryz.prog Tryz.lays197_ren:={
 mixed:=by kernel_rfl
 f197:=Tryz.func146.trans (congrArg some (by kernel_rfl))
 f260:=Tryz.func161.trans (congrArg some (by kernel_rfl))
 t0:=Tryz.underlying0
 a0:=Tryz.isAgg0
 z0:=Tryz.sizeOf0
 v0:=Tryz.zeroValue0
 t3:=Tryz.underlying3
 a3:=Tryz.isAgg3
 z3:=Tryz.sizeOf3
 v3:=Tryz.zeroValue3
 t4:=Tryz.underlying4
 a4:=Tryz.isAgg4
 z4:=Tryz.sizeOf4
 v4:=Tryz.zeroValue4
 t5:=Tryz.underlying5
 a5:=Tryz.isAgg5
 z5:=Tryz.sizeOf5
 v5:=Tryz.zeroValue5
 t9:=Tryz.underlying9
 a9:=Tryz.isAgg9
 z9:=Tryz.sizeOf9
 v9:=Tryz.zeroValue9
 t21:=Tryz.underlying21
 a21:=Tryz.isAgg21
 z21:=Tryz.sizeOf21
 v21:=Tryz.zeroValue21
 t46:=Tryz.underlying231
 a46:=Tryz.isAgg231
 z46:=Tryz.sizeOf231
 v46:=Tryz.zeroValue231
 t105:=Tryz.underlying220
 a105:=Tryz.isAgg220
 z105:=Tryz.sizeOf220
 v105:=Tryz.zeroValue220
 t119:=Tryz.underlying240
 a119:=Tryz.isAgg240
 z119:=Tryz.sizeOf240
 t138:=Tryz.underlying242
 a138:=Tryz.isAgg242
 z138:=Tryz.sizeOf242
 v138:=Tryz.zeroValue242
 t139:=Tryz.underlying243
 a139:=Tryz.isAgg243
 z139:=Tryz.sizeOf243
 v139:=Tryz.zeroValue243
 g3:=by kernel_rfl
 g4:=by kernel_rfl }
open Go.RowKit Go.Lib in
theorem Tryz.utf8_DecodeRuneInString(s:ByteArray)(w:World)(hT:Lib.Utf8Tabs 1 2 w):
  Calls Tryz.prog 146 #[.string s] w fun e w'=>e=.returned (.tuple #[.int .i32 (Lib.decodeGo s).1,.int .i64 (Lib.decodeGo s).2])∧Below w.heap.size w w':=Any.utf8_DecodeRuneInString Tryz.lays197 s w hT
end Go.Proofs
namespace Go.Proofs.YtfpgjkbjbbgciaaGreatDoor
section
open Go.RowKit
theorem zcH(x:Int)(h0:0≤x)(h1:x≤1000000):IntKind.i64.wrap x=x:=IntWalk.i64_in x (by omega)
theorem zdH{W w1:World}{B:Nat}(hb:Below B W w1):(∀ b o,b<B→w1.cell? ⟨b,o,none⟩=W.cell? ⟨b,o,none⟩)∧(∀ b o,b<B→w1.frozen? ⟨b,o,none⟩=W.frozen? ⟨b,o,none⟩) :=
 ⟨fun b o h=>hb.cell (p:=⟨b,o,none⟩) h,fun b o h=>hb.frozen (p:=⟨b,o,none⟩) h⟩
theorem zaE{a b:Bool}(h:a=b):Ending.returned (.bool a)=.returned (.bool b):=by rw [h]
theorem zaB{w w':World}{n:Nat}{r:Option Nat}(h:(w.drewN n).grownBy w' r):w.grownBy w' r:=⟨h.os,h.tape,h.output,h.size,h.block⟩
theorem zb7{w:World}{B:Nat}{e:TypeId}{size n:Nat}{v:Value}{xs:List Value}(hown:w.ownsRow B e size v n xs):∃ ao cap,v=.slice ao n cap:=by
 rcases hown.2 with ⟨a,b⟩|⟨g,cap,cur,a,_⟩
 ·exact⟨none,0,by rw [a,b]⟩
 ·exact⟨_,cap,a⟩
theorem zdV{w:World}{B e size n:Nat}{v:Value}{l:List Value}(h:w.ownsRow B e size v n l):∃ ao cap,v=.slice ao n cap∧n≤cap∧cap≤maxLen∧(ao=none→n=0∧cap=0):=by
 rcases h.2 with ⟨rfl,rfl⟩|⟨g,cap,cur,rfl,_,_,a,b,_⟩
 ·exact⟨none,0,rfl,Nat.le_refl _,Nat.zero_le _,fun _=>⟨rfl,rfl⟩⟩
 ·exact⟨_,cap,rfl,a,b,fun e=>by cases e⟩
theorem zaj{w w':World}{B:Nat}{e:TypeId}{size n:Nat}{v:Value}{xs:List Value}(h:w.ownsRow B e size v n xs)(hb:∀ g,v.ownBlock=some g→w'.heap[g]?=w.heap[g]?):w'.ownsRow B e size v n xs:=by
 refine⟨h.1,?_⟩;rcases h.2 with c|⟨g,a,b,i,d,f,r⟩
 ·exact .inl c
 ·exact .inr ⟨g,a,b,i,d,(hb g (by rw [i];rfl)).trans f,r⟩
end
namespace Sp
def isW(s:ByteArray)(l:List UInt8):Bool:=s.toList == l
def zaa(s:ByteArray):List UInt8 :=
 if isW s [115,101,116]||isW s [105,110,99] then [82,75] else
 if isW s [109,111,118]||isW s [108,111,97,100]||isW s [115,116,111,114,101] then [82,82] else
 if isW s [97,100,100]||isW s [115,117,98]||isW s [109,117,108] then [82,82,82] else
 if isW s [114,101,97,100]||isW s [119,114,105,116,101] then [82] else
 if isW s [106,117,109,112]||isW s [99,97,108,108] then [78] else
 if isW s [108,101,115,115]||isW s [115,97,109,101] then [82,82,78] else
 if isW s [98,97,99,107]||isW s [115,116,111,112] then [] else
 [63]
end Sp
section
open Go.RowKit Sp
theorem zkZ(W:World)(v:Value):(Instr.typeAssert (.iface 115 v) 20 115 true).run Tryz.prog W=.ok (.tuple #[v,.bool true]) W:=by kernel_rfl
theorem zna{w:World}{b:Nat}{x y:Value}(hx:w.cell? ⟨b,0,none⟩=some x)(hy:w.cell? ⟨b+1,0,none⟩=some y)(e l:Value)(o:Obj):
  Below b w (((w.setCell ⟨b,0,none⟩ e).setCell ⟨b+1,0,none⟩ l).alloc o).drew∧(((w.setCell ⟨b,0,none⟩ e).setCell ⟨b+1,0,none⟩ l).alloc o).drew.cell? ⟨b,0,none⟩=some e∧(((w.setCell ⟨b,0,none⟩ e).setCell ⟨b+1,0,none⟩ l).alloc o).drew.cell? ⟨b+1,0,none⟩=some l:=by
 have hlt1:b+1<w.heap.size:=by have:=World.block_lt_of_cell? w _ hy;simpa using this
 refine⟨((((Below.refl b w).setCell (p:=⟨b,0,none⟩) (Nat.le_refl _) _).setCell (p:=⟨b+1,0,none⟩) (Nat.le_succ b) _).alloc (by simp [World.setCell];omega) _).drew,?_,?_⟩
 ·show(((w.setCell ⟨b,0,none⟩ e).setCell ⟨b+1,0,none⟩ l).alloc o).cell? ⟨b,0,none⟩=some e;rw [World.cell?_alloc_lt _ o ⟨b,0,none⟩ (by simp [World.setCell];omega),World.cell?_setCell_other]
  ·exact World.cell?_setCell_same w _ _ hx
  ·simp
 ·show(((w.setCell ⟨b,0,none⟩ e).setCell ⟨b+1,0,none⟩ l).alloc o).cell? ⟨b+1,0,none⟩=some l;rw [World.cell?_alloc_lt _ o ⟨b+1,0,none⟩ (by simp [World.setCell];omega)];refine World.cell?_setCell_same (u:=y) _ _ _ ?_;rw [World.cell?_setCell_other]
  ·exact hy
  ·simp
theorem zfQ(b:Nat)(x y e l:Int)(w:World)(hx:w.cell? ⟨b,0,none⟩=some (.int .i64 x))(hy:w.cell? ⟨b+1,0,none⟩=some (.int .i64 y))(fx:w.frozen? ⟨b,0,none⟩=false)(fy:w.frozen? ⟨b+1,0,none⟩=false):
  CallsD Tryz.prog 64 #[.pointer (some ⟨b,0,none⟩),.pointer (some ⟨b+1,0,none⟩)] (.panicking ({ v:=.iface 115 (.agg #[.int .i64 e,.int .i64 l]),recovered:=false } :: [])) w fun en u' w' =>
   en=.returned (.tuple #[])∧u'=.panicking ({ v:=.iface 115 (.agg #[.int .i64 e,.int .i64 l]),recovered:=true } :: [])∧Below b w w'∧w'.cell? ⟨b,0,none⟩=some (.int .i64 e)∧w'.cell? ⟨b+1,0,none⟩=some (.int .i64 l):=by
 have has:=zkZ;refine callsD_of_wpS Tryz.func64 rfl fun c₀ cs hu=>?_;apply wpS_seq;apply wpS_region;simp [wpOpsS,go_sem,recoverD,hu,Tryz.ntmps64,Exit.thenS];refine wpS_of_wp ?_;have hlt1:b+1<w.heap.size:=by have:=World.block_lt_of_cell? w _ hy;simpa using this
 have hlt0:b<w.heap.size:=by omega
 have hn1:¬b=w.heap.size:=by omega
 have hn2:¬b+1=w.heap.size:=by omega
 go_wp2
 go_region
 all_goals exact⟨rfl,_,rfl,.tuple #[],by simp [results,Tryz.results64],rfl,rfl,zna hx hy _ _ _⟩
theorem zjt(b:Nat)(w:World):
  CallsD Tryz.prog 64 #[.pointer (some ⟨b,0,none⟩),.pointer (some ⟨b+1,0,none⟩)] .returning w fun en u' w'=>en=.returned (.tuple #[])∧u'=.returning∧w'=w:=by
 refine callsD_of_wpS Tryz.func64 rfl fun c₀ cs hu=>?_;apply wpS_seq;apply wpS_region;simp [wpOpsS,go_sem,recoverD,hu,Tryz.ntmps64,Exit.thenS];refine wpS_of_wp ?_;go_wp2;exact⟨rfl,.returning,by rw [←hu],.tuple #[],by simp [results,Tryz.results64],rfl,rfl,rfl⟩
theorem zcp{a b:ByteArray}(h:a=b):Ending.returned (.string a)=.returned (.string b):=by rw [h]
theorem za0(s:ByteArray)(l:List UInt8)(h:(s.toList == l)=true):s=⟨l.toArray⟩:=by
 rw [beq_iff_eq,ByteArray.toList_eq] at h;rw [←h]
theorem zsm(w:World):
  Calls Tryz.prog 74 #[.string ⟨#[115,101,116]⟩] w fun e w'=>e=.returned (.string ⟨(zaa ⟨#[115,101,116]⟩).toArray⟩)∧w'=w:=by
 go_enter Tryz.func74,Tryz.ntmps74;go_wp2;go_ret;exact⟨zcp (by kernel_rfl),rfl⟩
theorem zsn(w:World):
  Calls Tryz.prog 74 #[.string ⟨#[105,110,99]⟩] w fun e w'=>e=.returned (.string ⟨(zaa ⟨#[105,110,99]⟩).toArray⟩)∧w'=w:=by
 go_enter Tryz.func74,Tryz.ntmps74;go_wp2;go_ret;exact⟨zcp (by kernel_rfl),rfl⟩
theorem zso(w:World):
  Calls Tryz.prog 74 #[.string ⟨#[109,111,118]⟩] w fun e w'=>e=.returned (.string ⟨(zaa ⟨#[109,111,118]⟩).toArray⟩)∧w'=w:=by
 go_enter Tryz.func74,Tryz.ntmps74;go_wp2;go_ret;exact⟨zcp (by kernel_rfl),rfl⟩
theorem zpO(w:World):
  Calls Tryz.prog 74 #[.string ⟨#[108,111,97,100]⟩] w fun e w'=>e=.returned (.string ⟨(zaa ⟨#[108,111,97,100]⟩).toArray⟩)∧w'=w:=by
 go_enter Tryz.func74,Tryz.ntmps74;go_wp2;go_ret;exact⟨zcp (by kernel_rfl),rfl⟩
theorem zng(w:World):
  Calls Tryz.prog 74 #[.string ⟨#[115,116,111,114,101]⟩] w fun e w'=>e=.returned (.string ⟨(zaa ⟨#[115,116,111,114,101]⟩).toArray⟩)∧w'=w:=by
 go_enter Tryz.func74,Tryz.ntmps74;go_wp2;go_ret;exact⟨zcp (by kernel_rfl),rfl⟩
theorem zsp(w:World):
  Calls Tryz.prog 74 #[.string ⟨#[97,100,100]⟩] w fun e w'=>e=.returned (.string ⟨(zaa ⟨#[97,100,100]⟩).toArray⟩)∧w'=w:=by
 go_enter Tryz.func74,Tryz.ntmps74;go_wp2;go_ret;exact⟨zcp (by kernel_rfl),rfl⟩
theorem zsq(w:World):
  Calls Tryz.prog 74 #[.string ⟨#[115,117,98]⟩] w fun e w'=>e=.returned (.string ⟨(zaa ⟨#[115,117,98]⟩).toArray⟩)∧w'=w:=by
 go_enter Tryz.func74,Tryz.ntmps74;go_wp2;go_ret;exact⟨zcp (by kernel_rfl),rfl⟩
theorem zsr(w:World):
  Calls Tryz.prog 74 #[.string ⟨#[109,117,108]⟩] w fun e w'=>e=.returned (.string ⟨(zaa ⟨#[109,117,108]⟩).toArray⟩)∧w'=w:=by
 go_enter Tryz.func74,Tryz.ntmps74;go_wp2;go_ret;exact⟨zcp (by kernel_rfl),rfl⟩
theorem zpP(w:World):
  Calls Tryz.prog 74 #[.string ⟨#[114,101,97,100]⟩] w fun e w'=>e=.returned (.string ⟨(zaa ⟨#[114,101,97,100]⟩).toArray⟩)∧w'=w:=by
 go_enter Tryz.func74,Tryz.ntmps74;go_wp2;go_ret;exact⟨zcp (by kernel_rfl),rfl⟩
theorem znh(w:World):
  Calls Tryz.prog 74 #[.string ⟨#[119,114,105,116,101]⟩] w fun e w'=>e=.returned (.string ⟨(zaa ⟨#[119,114,105,116,101]⟩).toArray⟩)∧w'=w:=by
 go_enter Tryz.func74,Tryz.ntmps74;go_wp2;go_ret;exact⟨zcp (by kernel_rfl),rfl⟩
theorem zpQ(w:World):
  Calls Tryz.prog 74 #[.string ⟨#[106,117,109,112]⟩] w fun e w'=>e=.returned (.string ⟨(zaa ⟨#[106,117,109,112]⟩).toArray⟩)∧w'=w:=by
 go_enter Tryz.func74,Tryz.ntmps74;go_wp2;go_ret;exact⟨zcp (by kernel_rfl),rfl⟩
theorem zpR(w:World):
  Calls Tryz.prog 74 #[.string ⟨#[99,97,108,108]⟩] w fun e w'=>e=.returned (.string ⟨(zaa ⟨#[99,97,108,108]⟩).toArray⟩)∧w'=w:=by
 go_enter Tryz.func74,Tryz.ntmps74;go_wp2;go_ret;exact⟨zcp (by kernel_rfl),rfl⟩
theorem zpS(w:World):
  Calls Tryz.prog 74 #[.string ⟨#[108,101,115,115]⟩] w fun e w'=>e=.returned (.string ⟨(zaa ⟨#[108,101,115,115]⟩).toArray⟩)∧w'=w:=by
 go_enter Tryz.func74,Tryz.ntmps74;go_wp2;go_ret;exact⟨zcp (by kernel_rfl),rfl⟩
theorem zpT(w:World):
  Calls Tryz.prog 74 #[.string ⟨#[115,97,109,101]⟩] w fun e w'=>e=.returned (.string ⟨(zaa ⟨#[115,97,109,101]⟩).toArray⟩)∧w'=w:=by
 go_enter Tryz.func74,Tryz.ntmps74;go_wp2;go_ret;exact⟨zcp (by kernel_rfl),rfl⟩
theorem zpU(w:World):
  Calls Tryz.prog 74 #[.string ⟨#[98,97,99,107]⟩] w fun e w'=>e=.returned (.string ⟨(zaa ⟨#[98,97,99,107]⟩).toArray⟩)∧w'=w:=by
 go_enter Tryz.func74,Tryz.ntmps74;go_wp2;go_ret;exact⟨zcp (by kernel_rfl),rfl⟩
theorem zpV(w:World):
  Calls Tryz.prog 74 #[.string ⟨#[115,116,111,112]⟩] w fun e w'=>e=.returned (.string ⟨(zaa ⟨#[115,116,111,112]⟩).toArray⟩)∧w'=w:=by
 go_enter Tryz.func74,Tryz.ntmps74;go_wp2;go_ret;exact⟨zcp (by kernel_rfl),rfl⟩
theorem zpW(s:ByteArray)(w:World)(h0:(s.toList == [115,101,116])=false)(h1:(s.toList == [105,110,99])=false)(h2:(s.toList == [109,111,118])=false)(h3:(s.toList == [108,111,97,100])=false)(h4:(s.toList == [115,116,111,114,101])=false)(h5:(s.toList == [97,100,100])=false)(h6:(s.toList == [115,117,98])=false)(h7:(s.toList == [109,117,108])=false)(h8:(s.toList == [114,101,97,100])=false)(h9:(s.toList == [119,114,105,116,101])=false)(h10:(s.toList == [106,117,109,112])=false)(h11:(s.toList == [99,97,108,108])=false)(h12:(s.toList == [108,101,115,115])=false)(h13:(s.toList == [115,97,109,101])=false)(h14:(s.toList == [98,97,99,107])=false)(h15:(s.toList == [115,116,111,112])=false):
  Calls Tryz.prog 74 #[.string s] w fun e w'=>e=.returned (.string ⟨(zaa s).toArray⟩)∧w'=w:=by
 have a:Hid (([63]:List UInt8)=zaa s):=by
  simp only [Hid,zaa,isW,h0,h1,h2,h3,h4,h5,h6,h7,h8,h9,h10,h11,h12,h13,h14,h15];simp
 go_enter Tryz.func74,Tryz.ntmps74;go_wp2;go_ret;exact⟨zcp (by rw [←a.out]),rfl⟩
theorem zss(s:ByteArray)(w:World):
  Calls Tryz.prog 74 #[.string s] w fun e w'=>e=.returned (.string ⟨(zaa s).toArray⟩)∧w'=w:=by
 cases h0:(s.toList == [115,101,116]) with
 | true=>rw [za0 s _ h0];exact zsm w
 | false =>
 cases h1:(s.toList == [105,110,99]) with
 | true=>rw [za0 s _ h1];exact zsn w
 | false =>
 cases h2:(s.toList == [109,111,118]) with
 | true=>rw [za0 s _ h2];exact zso w
 | false =>
 cases h3:(s.toList == [108,111,97,100]) with
 | true=>rw [za0 s _ h3];exact zpO w
 | false =>
 cases h4:(s.toList == [115,116,111,114,101]) with
 | true=>rw [za0 s _ h4];exact zng w
 | false =>
 cases h5:(s.toList == [97,100,100]) with
 | true=>rw [za0 s _ h5];exact zsp w
 | false =>
 cases h6:(s.toList == [115,117,98]) with
 | true=>rw [za0 s _ h6];exact zsq w
 | false =>
 cases h7:(s.toList == [109,117,108]) with
 | true=>rw [za0 s _ h7];exact zsr w
 | false =>
 cases h8:(s.toList == [114,101,97,100]) with
 | true=>rw [za0 s _ h8];exact zpP w
 | false =>
 cases h9:(s.toList == [119,114,105,116,101]) with
 | true=>rw [za0 s _ h9];exact znh w
 | false =>
 cases h10:(s.toList == [106,117,109,112]) with
 | true=>rw [za0 s _ h10];exact zpQ w
 | false =>
 cases h11:(s.toList == [99,97,108,108]) with
 | true=>rw [za0 s _ h11];exact zpR w
 | false =>
 cases h12:(s.toList == [108,101,115,115]) with
 | true=>rw [za0 s _ h12];exact zpS w
 | false =>
 cases h13:(s.toList == [115,97,109,101]) with
 | true=>rw [za0 s _ h13];exact zpT w
 | false =>
 cases h14:(s.toList == [98,97,99,107]) with
 | true=>rw [za0 s _ h14];exact zpU w
 | false =>
 cases h15:(s.toList == [115,116,111,112]) with
 | true=>rw [za0 s _ h15];exact zpV w
 | false =>
 exact zpW s w h0 h1 h2 h3 h4 h5 h6 h7 h8 h9 h10 h11 h12 h13 h14 h15
end
end Go.Proofs.YtfpgjkbjbbgciaaGreatDoor
