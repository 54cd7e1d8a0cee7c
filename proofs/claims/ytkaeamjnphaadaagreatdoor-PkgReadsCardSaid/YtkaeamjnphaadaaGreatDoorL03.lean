/- Part 3 of what the laws lean on. -/
import Derived.Test.YtkaeamjnphaadaaGreatDoorL90
import Derived.Shelf.Strings.OnBuilder
import Derived.Shelf.Small.Utf8
import Derived.Shelf.Small.Wraps
import Derived.Shelf.Utf8.RuneCount
import Derived.Shelf.Strconv.Itoa4
import Derived.Shelf.Strconv.ErrVarParseInt
import Derived.Shelf.Strings.Shaped
import Derived.Shelf.Strings.SplitShaped
import Derived.Shelf.Strings.Explode
import Derived.Shelf.Unicode.DecodeAny
import Derived.Shelf.Strings.BuilderCap
import Derived.Shelf.Slices.SearchI
import Derived.Test.YtkaeamjnphaadaaGreatDoorProg
import Derived.Shelf.Strings.SlTrimAscii
import Derived.Shelf.Spec.TrailingZeros
import Derived.Test.YtkaeamjnphaadaaGreatDoorRows
import Derived.Test.YtkaeamjnphaadaaGreatDoorL01
import Derived.WalkSpells
import Derived.WalkLawsBesides
import Derived.BigQuiet
import Derived.Lib.BufferRead
import Derived.Deep.RegionHeld3
import Derived.Deep.DrawnRows
set_option maxRecDepth 100000
set_option maxHeartbeats 400000
namespace Go.Proofs
open Go.Shelf
def Tryz.mw:Go.Shelf.Ren:=⟨fun | 169=>36 | n=>n,fun | 70=>86 | 9=>9 | 0=>0 | 72=>89 | 37=>87 | 127=>153 | 3=>3 | 5=>5 | n=>n,fun | n=>n⟩
theorem Tryz.lays169:Go.Proofs.Lays.n169 Tryz.prog Tryz.mw:=YtkaeamjnphaadaaGreatDoor.zl
theorem Tryz.ml:Builder.Extra Tryz.prog Tryz.mw:={
 sizeBuilder:=by kernel_rfl
 liesBuilder:=by kernel_rfl
 t5:=Tryz.underlying5
 a5:=Tryz.isAgg5
 z5:=Tryz.sizeOf5
 v5:=Tryz.zeroValue5
 infoByte:=by kernel_rfl
 cellsByte:=by kernel_rfl
 sizeByte:=by kernel_rfl
 neB5:=by decide }
def Tryz.mx:Go.Shelf.Ren:=⟨fun | 156=>78 | 165=>127 | 166=>35 | 169=>36 | 240=>82 | 241=>166 | 276=>131 | 277=>201 | n=>n,fun | 31=>71 | 9=>9 | 3=>3 | 4=>4 | 0=>0 | 20=>20 | 72=>89 | 76=>92 | 70=>86 | 37=>87 | 75=>91 | 127=>153 | 164=>201 | 5=>5 | 80=>94 | n=>n,fun | n=>n⟩
theorem Tryz.lays156:Go.Proofs.Lays.n156 Tryz.prog Tryz.mx:=YtkaeamjnphaadaaGreatDoor.zl
theorem Tryz.fS:Builder.Extra Tryz.prog Tryz.mx:={
 sizeBuilder:=by kernel_rfl
 liesBuilder:=by kernel_rfl
 t5:=Tryz.underlying5
 a5:=Tryz.isAgg5
 z5:=Tryz.sizeOf5
 v5:=Tryz.zeroValue5
 infoByte:=by kernel_rfl
 cellsByte:=by kernel_rfl
 sizeByte:=by kernel_rfl
 neB5:=by decide }
open Go.RowKit in
theorem Tryz.strings_Join_none (a:Option Addr)(c:Nat)(sep:ByteArray)(w:World) :
  Calls Tryz.prog 78 #[.slice a 0 c,.string sep] w fun e w'=>e=.returned (.string ⟨#[]⟩)/\w'=w:=Any.strings_Join_none Tryz.lays156 Tryz.fS a c sep w
open Go.RowKit in
theorem Tryz.strings_Join (bk o c:Nat)(xs:List ByteArray)(sep:ByteArray)(w:World)(hcells:∀ (j:Nat) x,xs[j]?=some x->w.cell? ⟨bk,o+j,none⟩=some (.string x))(hbk:bk<w.heap.size)(hN:xs.length<=140737488355328)(hcap:xs.length<=c)(hlen:(Lib.join (xs.map (·.data.toList)) sep.data.toList).length<=140737488355328) :
  Calls Tryz.prog 78 #[.slice (some ⟨bk,o,none⟩) xs.length c,.string sep] w fun e w'=>e=.returned (.string ⟨(Lib.join (xs.map (·.data.toList)) sep.data.toList).toArray⟩)/\Below w.heap.size w w':=Any.strings_Join Tryz.lays156 Tryz.fS bk o c xs sep w hcells hbk hN hcap hlen
def Tryz.uq:Go.Shelf.Ren:=⟨fun | 161=>226 | 231=>263 | 227=>264 | 233=>265 | 235=>266 | 228=>288 | 197=>233 | 151=>289 | 260=>269 | 152=>290 | 137=>300 | 119=>301 | 224=>237 | 225=>236 | 217=>235 | 266=>270 | n=>n,fun | 9=>9 | 4=>4 | 3=>3 | 5=>5 | 117=>295 | 116=>294 | 0=>0 | 124=>298 | 105=>272 | 21=>21 | 119=>311 | 46=>185 | 139=>314 | 138=>313 | n=>n,fun | 3=>4 | 4=>5 | n=>n⟩
theorem Tryz.lays161:Go.Proofs.Lays.n161 Tryz.prog Tryz.uq:=YtkaeamjnphaadaaGreatDoor.zl
open Go.RowKit in
theorem Tryz.strings_TrimLeft_one (s:ByteArray)(c:UInt8)(hc:c.toNat<128)(w:World) :
  Calls Tryz.prog 226 #[.string s,.string ⟨#[c]⟩] w fun e w'=>e=.returned (.string ⟨(Lib.trimLeftB s.data.toList c).toArray⟩)/\w'=w:=Any.strings_TrimLeft_one Tryz.lays161 s c hc w
open Go.RowKit in
theorem Tryz.strings_TrimLeft_laid (s cutset:ByteArray)(w:World)(hcs:cutset.size<4294967281)(hascii:∀ (j:Nat) b,cutset.data.toList[j]?=some b->b.toNat<128) :
  Calls Tryz.prog 226 #[.string s,.string cutset] w fun e w'=>e=.returned (.string ⟨(Lib.trimLeftS s.data.toList cutset.data.toList).toArray⟩)/\Below w.heap.size w w':=Any.strings_TrimLeft_laid Tryz.lays161 (by kernel_rfl) s cutset w hcs hascii
def Tryz.uu:Go.Shelf.Ren:=⟨fun | 119=>301 | n=>n,fun | 21=>21 | 4=>4 | n=>n,fun | n=>n⟩
theorem Tryz.lays119:Go.Proofs.Lays.n119 Tryz.prog Tryz.uu:=YtkaeamjnphaadaaGreatDoor.zl
theorem Tryz.utf8_ValidRune (r:Int)(w:World) :
  Calls Tryz.prog 301 #[.int .i32 r] w fun e w'=>e=.returned (.bool (Lib.validRune r))/\w'=w:=Any.utf8_ValidRune Tryz.lays119 r w
def Tryz.uv:Go.Shelf.Ren:=⟨fun | 106=>273 | 213=>292 | 265=>302 | n=>n,fun | 9=>9 | 3=>3 | n=>n,fun | n=>n⟩
theorem Tryz.lays106:Go.Proofs.Lays.n106 Tryz.prog Tryz.uv:=YtkaeamjnphaadaaGreatDoor.zl
open Go.RowKit in
theorem Tryz.strings_Compare (a b:ByteArray)(w:World) :
  Calls Tryz.prog 273 #[.string a,.string b] w fun e w'=>e=.returned (.int .i64 (Lib.compareBytes a.data.toList b.data.toList))/\w'=w:=Any.strings_Compare Tryz.lays106 a b w
def Tryz.uw:Go.Shelf.Ren:=⟨fun | 137=>300 | 217=>235 | 266=>270 | n=>n,fun | 9=>9 | 5=>5 | 3=>3 | n=>n,fun | n=>n⟩
theorem Tryz.lays137:Go.Proofs.Lays.n137 Tryz.prog Tryz.uw:=YtkaeamjnphaadaaGreatDoor.zl
open Go.RowKit in
theorem Tryz.strings_IndexByte (s:ByteArray)(c:Int)(w:World) :
  Calls Tryz.prog 300 #[.string s,.int .u8 c] w fun e w'=>e=.returned (.int .i64 (Lib.indexByte s.data.toList c.toNat.toUInt8))/\w'=w:=Any.strings_IndexByte Tryz.lays137 s c w
def Tryz.ux:Go.Shelf.Ren:=⟨fun | 103=>249 | 210=>276 | 206=>295 | n=>n,fun | 9=>9 | 4=>4 | 24=>282 | 3=>3 | n=>n,fun | n=>n⟩
theorem Tryz.lays103:Go.Proofs.Lays.n103 Tryz.prog Tryz.ux:=YtkaeamjnphaadaaGreatDoor.zl
open Go.RowKit in
theorem Tryz.strings_CutPrefix (s p:ByteArray)(w:World) :
  Calls Tryz.prog 249 #[.string s,.string p] w fun e w'=>e=.returned (.tuple #[.string ⟨(Lib.trimPrefix s.data.toList p.data.toList).toArray⟩,.bool (Lib.hasPrefix s.data.toList p.data.toList)])/\w'=w:=Any.strings_CutPrefix Tryz.lays103 s p w
def Tryz.uy:Go.Shelf.Ren:=⟨fun | 104=>250 | 211=>277 | 207=>121 | n=>n,fun | 9=>9 | 4=>4 | 24=>282 | 3=>3 | n=>n,fun | n=>n⟩
theorem Tryz.lays104:Go.Proofs.Lays.n104 Tryz.prog Tryz.uy:=YtkaeamjnphaadaaGreatDoor.zl
open Go.RowKit in
theorem Tryz.strings_CutSuffix (s p:ByteArray)(w:World)(hs:s.size<=9223372036854775807) :
  Calls Tryz.prog 250 #[.string s,.string p] w fun e w'=>e=.returned (.tuple #[.string ⟨(Lib.trimSuffix s.data.toList p.data.toList).toArray⟩,.bool (Lib.hasSuffix s.data.toList p.data.toList)])/\w'=w:=Any.strings_CutSuffix Tryz.lays104 s p w hs
def Tryz.uz:Go.Shelf.Ren:=⟨fun | 122=>174 | 215=>211 | n=>n,fun | 3=>3 | 4=>4 | n=>n,fun | n=>n⟩
theorem Tryz.lays122:Go.Proofs.Lays.n122 Tryz.prog Tryz.uz:=YtkaeamjnphaadaaGreatDoor.zl
open Go.RowKit in
theorem Tryz.cmp_Compare_int (x y:Int)(w:World) :
  Calls Tryz.prog 174 #[.int .i64 x,.int .i64 y] w fun e w'=>e=.returned (.int .i64 (Lib.compareInt x y))/\w'=w:=Any.cmp_Compare_int Tryz.lays122 x y w
open Go.RowKit in
theorem Tryz.Builder_String_any_k (B b:Nat)(l:List UInt8)(w:World)(h:Lib.IsBuilderF 89 5 B b (Lib.byteCells l) w)(hBw:B<=w.heap.size) :
  Calls Tryz.prog 36 #[.pointer (some ⟨b,0,none⟩)] w fun e w'=>e=.returned (.string ⟨l.toArray⟩)/\(Lib.IsBuilderF 89 5 B b (Lib.byteCells l) w'/\Below B w w'/\Lib.OthersKept 5 (some b) w w'):=Any.Builder_String_any_k Tryz.lays169 Tryz.ml B b l w h hBw
def Tryz.uA:Go.Shelf.Ren:=⟨fun | 129=>241 | n=>n,fun | 53=>155 | 3=>3 | 4=>4 | 46=>185 | 5=>5 | 9=>9 | n=>n,fun | n=>n⟩
theorem Tryz.lays129:Go.Proofs.Lays.n129 Tryz.prog Tryz.uA:=YtkaeamjnphaadaaGreatDoor.zl
theorem Tryz.bits_Len64 (x:Int)(w:World)(h0:0<=x)(h1:x<=18446744073709551615) :
  Calls Tryz.prog 241 #[.int .u64 x] w fun e w'=>e=.returned (.int .i64 (Lib.bitLen x.toNat))/\w'=w:=Any.bits_Len64 Tryz.lays129 x w h0 h1
def Tryz.r6:Go.Shelf.Ren:=⟨fun | 171=>136 | 243=>173 | 246=>172 | 283=>207 | 284=>208 | 285=>209 | 286=>210 | 129=>241 | 317=>240 | 318=>242 | 319=>243 | 320=>244 | 337=>272 | 338=>134 | n=>n,fun | 3=>3 | 9=>9 | 2=>2 | 4=>4 | 171=>258 | 0=>0 | 53=>155 | 37=>87 | 5=>5 | 173=>260 | 212=>277 | 51=>278 | 20=>20 | 213=>279 | 46=>185 | 232=>315 | 233=>239 | n=>n,fun | 17=>3 | 18=>6 | 19=>1 | n=>n⟩
theorem Tryz.laysM171:Go.Proofs.LaysM.n171 Tryz.prog Tryz.r6:=YtkaeamjnphaadaaGreatDoor.zl
open Go.RowKit Go.Sort Go.Lib in
theorem Tryz.strconv_Itoa (n:Int)(h0:-9223372036854775808<=n)(h1:n<=9223372036854775807)(w:World)(htab:Lib.TabIs Tryz.prog w "internal/strconv.uint64pow10" .u64 Lib.pow10Tab) :
  Calls Tryz.prog 136 #[.int .i64 n] w fun e w'=>e=.returned (.string ⟨(Lib.itoa n).toArray⟩)/\∃ k os,w'=grow (w.drewN k) os:=Any.strconv_Itoa Tryz.laysM171 n h0 h1 w htab
def Tryz.r7:Go.Shelf.Ren:=⟨fun | 173=>135 | 246=>172 | 283=>207 | 284=>208 | 285=>209 | 286=>210 | 129=>241 | 317=>240 | 318=>242 | 319=>243 | 320=>244 | 337=>272 | 338=>134 | n=>n,fun | 2=>2 | 3=>3 | 9=>9 | 4=>4 | 171=>258 | 0=>0 | 53=>155 | 37=>87 | 5=>5 | 173=>260 | 212=>277 | 51=>278 | 20=>20 | 213=>279 | 46=>185 | 232=>315 | 233=>239 | n=>n,fun | 17=>3 | 18=>6 | 19=>1 | n=>n⟩
theorem Tryz.laysM173:Go.Proofs.LaysM.n173 Tryz.prog Tryz.r7:=YtkaeamjnphaadaaGreatDoor.zl
open Go.RowKit Go.Sort Go.Lib in
theorem Tryz.strconv_FormatInt_10 (n:Int)(h0:-9223372036854775808<=n)(h1:n<=9223372036854775807)(w:World)(htab:Lib.TabIs Tryz.prog w "internal/strconv.uint64pow10" .u64 Lib.pow10Tab) :
  Calls Tryz.prog 135 #[.int .i64 n,.int .i64 10] w fun e w'=>e=.returned (.string ⟨(Lib.itoa n).toArray⟩)/\∃ k os,w'=grow (w.drewN k) os:=Any.strconv_FormatInt_10 Tryz.laysM173 n h0 h1 w htab
def Tryz.r8:Go.Shelf.Ren:=⟨fun | 316=>83 | n=>n,fun | 9=>9 | 3=>3 | 4=>4 | 37=>87 | 0=>0 | 127=>153 | 5=>5 | n=>n,fun | n=>n⟩
theorem Tryz.laysM316:Go.Proofs.LaysM.n316 Tryz.prog Tryz.r8:=YtkaeamjnphaadaaGreatDoor.zl
open Go.RowKit in
theorem Tryz.stringslite_Clone (s:ByteArray)(w:World)(hlim:s.size<=281474976710656) :
  Calls Tryz.prog 83 #[.string s] w fun e w'=>e=.returned (.string s)/\Below w.heap.size w w':=Any.stringslite_Clone Tryz.laysM316 s w hlim
def Tryz.r9:Go.Shelf.Ren:=⟨fun | 174=>285 | 247=>297 | 245=>298 | 287=>303 | 279=>304 | 280=>305 | 281=>306 | 282=>307 | 321=>308 | 322=>309 | 316=>83 | 171=>136 | 205=>310 | 243=>173 | 246=>172 | 283=>207 | 284=>208 | 285=>209 | 286=>210 | 129=>241 | 317=>240 | 318=>242 | 319=>243 | 320=>244 | 337=>272 | 338=>134 | n=>n,fun | 9=>9 | 3=>3 | 2=>2 | 75=>91 | 85=>307 | 4=>4 | 167=>319 | 5=>5 | 53=>155 | 175=>320 | 46=>185 | 168=>322 | 37=>87 | 0=>0 | 210=>327 | 21=>21 | 127=>153 | 145=>331 | 143=>329 | 171=>258 | 173=>260 | 212=>277 | 51=>278 | 20=>20 | 213=>279 | 232=>315 | 233=>239 | 80=>94 | n=>n,fun | 15=>7 | 16=>8 | 17=>3 | 18=>6 | 19=>1 | n=>n⟩
theorem Tryz.laysC174:Go.Proofs.LaysC.n174 Tryz.prog Tryz.r9:=YtkaeamjnphaadaaGreatDoor.zl
open Go.RowKit in
theorem Tryz.strconv_ParseInt_10_at64_ok (s:ByteArray)(hmax:s.size<=9223372036854775806)(v:Int)(h:Lib.parseIntB 64 s.data.toList=.ok v)(w:World) :
  Calls Tryz.prog 285 #[.string s,.int .i64 10,.int .i64 64] w fun e w'=>e=.returned (.tuple #[.int .i64 v,.nilIface])/\(w'=w\/∃ t,w'=Lib.bytesWorld w 5 t):=Any.strconv_ParseInt_10_at64_ok Tryz.laysC174 s hmax v h w
open Go.RowKit in
theorem Tryz.strconv_ParseInt_10_at64_range_var (s:ByteArray)(hlim:s.size<=281474976710656)(h:Lib.parseIntB 64 s.data.toList=.range)(tp:TypeId)(p:Value)(w:World)(hvar:w.var? Tryz.prog "strconv.ErrRange" = some #[.iface tp p]) :
  Calls Tryz.prog 285 #[.string s,.int .i64 10,.int .i64 64] w fun e w'=>∃ N,e=.returned (.tuple #[.int .i64 (Lib.intSat 64 s.data.toList),.iface 322 (.pointer (some ⟨N,0,none⟩))])/\w.heap.size<=N/\w'.heap[N]?=some (.cells #[.string ⟨#[80,97,114,115,101,73,110,116]⟩,.string s,.iface tp p] 327 (0,0))/\Below w.heap.size w w':=Any.strconv_ParseInt_10_at64_range_var Tryz.laysC174 s hlim h tp p w hvar
def Tryz.uB:Go.Shelf.Ren:=⟨fun | 145=>123 | 220=>164 | 219=>200 | 217=>235 | 225=>236 | 224=>237 | 267=>238 | 266=>270 | 314=>271 | n=>n,fun | 9=>9 | 4=>4 | 59=>194 | 3=>3 | 5=>5 | 46=>185 | 146=>299 | 51=>278 | n=>n,fun | 1=>2 | n=>n⟩
theorem Tryz.lays145:Go.Proofs.Lays.n145 Tryz.prog Tryz.uB:=YtkaeamjnphaadaaGreatDoor.zl
open Go.RowKit Go.Lib in
theorem Tryz.strings_Cut (s sep:ByteArray)(m:Int)(w:World)(hs:s.size<4294967281)(hm:w.cell? ⟨2,0,none⟩=some (.int .i64 m)) :
  Calls Tryz.prog 123 #[.string s,.string sep] w fun e w'=>e=.returned (.tuple #[.string ⟨(Lib.cut s.data.toList sep.data.toList).1.toArray⟩,.string ⟨(Lib.cut s.data.toList sep.data.toList).2.1.toArray⟩,.bool (Lib.cut s.data.toList sep.data.toList).2.2])/\∃ n,w'=w.drewN n:=Any.strings_Cut Tryz.lays145 s sep m w hs hm
def Tryz.uC:Go.Shelf.Ren:=⟨fun | 100=>73 | 207=>121 | n=>n,fun | 9=>9 | 4=>4 | 3=>3 | n=>n,fun | n=>n⟩
theorem Tryz.lays100:Go.Proofs.Lays.n100 Tryz.prog Tryz.uC:=YtkaeamjnphaadaaGreatDoor.zl
open Go.RowKit Go.Lib in
theorem Tryz.strings_HasSuffix (s p:ByteArray)(w:World)(hs:s.size<=9223372036854775807) :
  Calls Tryz.prog 73 #[.string s,.string p] w fun e w'=>e=.returned (.bool (Lib.hasSuffix s.data.toList p.data.toList))/\w'=w:=Any.strings_HasSuffix Tryz.lays100 s p w hs
def Tryz.uD:Go.Shelf.Ren:=⟨fun | 101=>284 | 208=>296 | 206=>295 | n=>n,fun | 9=>9 | 4=>4 | 3=>3 | n=>n,fun | n=>n⟩
theorem Tryz.lays101:Go.Proofs.Lays.n101 Tryz.prog Tryz.uD:=YtkaeamjnphaadaaGreatDoor.zl
open Go.RowKit Go.Lib in
theorem Tryz.strings_TrimPrefix (s p:ByteArray)(w:World) :
  Calls Tryz.prog 284 #[.string s,.string p] w fun e w'=>e=.returned (.string ⟨(Lib.trimPrefix s.data.toList p.data.toList).toArray⟩)/\w'=w:=Any.strings_TrimPrefix Tryz.lays101 s p w
def Tryz.uE:Go.Shelf.Ren:=⟨fun | 146=>122 | 221=>163 | 268=>197 | 138=>198 | 143=>199 | 195=>232 | 197=>233 | 218=>234 | 219=>200 | 260=>269 | 217=>235 | 225=>236 | 224=>237 | 267=>238 | 266=>270 | 314=>271 | n=>n,fun | 9=>9 | 31=>71 | 3=>3 | 4=>4 | 0=>0 | 105=>272 | 21=>21 | 5=>5 | 46=>185 | 119=>311 | 139=>314 | 138=>313 | 146=>299 | 51=>278 | n=>n,fun | 1=>2 | 3=>4 | 4=>5 | n=>n⟩
theorem Tryz.lays146:Go.Proofs.Lays.n146 Tryz.prog Tryz.uE:=YtkaeamjnphaadaaGreatDoor.zl
open Go.RowKit Go.Lib in
theorem Tryz.strings_Split (s sep:ByteArray)(m:Int)(w:World)(hs:s.size<4294967281)(hm:w.cell? ⟨2,0,none⟩=some (.int .i64 m))(h1:1<=sep.size) :
  Calls Tryz.prog 122 #[.string s,.string sep] w fun e w' =>
   e=.returned (.slice (some ⟨w.heap.size,0,none⟩) (Lib.countB s sep+1) (Lib.countB s sep+1))/\w'=w.alloc (.cells ((Lib.splitB sep 0 (Lib.countB s sep) s).map Value.string).toArray 9):=Any.strings_Split Tryz.lays146 (by kernel_rfl) s sep m w hs hm h1
def Tryz.uF:Go.Shelf.Ren:=⟨fun | 147=>146 | 221=>163 | 268=>197 | 138=>198 | 143=>199 | 195=>232 | 197=>233 | 218=>234 | 219=>200 | 260=>269 | 217=>235 | 225=>236 | 224=>237 | 267=>238 | 266=>270 | 314=>271 | n=>n,fun | 9=>9 | 3=>3 | 31=>71 | 4=>4 | 0=>0 | 105=>272 | 21=>21 | 5=>5 | 46=>185 | 119=>311 | 139=>314 | 138=>313 | 146=>299 | 51=>278 | n=>n,fun | 1=>2 | 3=>4 | 4=>5 | n=>n⟩
theorem Tryz.lays147:Go.Proofs.Lays.n147 Tryz.prog Tryz.uF:=YtkaeamjnphaadaaGreatDoor.zl
open Go.RowKit Go.Lib in
theorem Tryz.strings_SplitN (s sep:ByteArray)(n:Nat)(m:Int)(w:World)(hs:s.size<4294967281)(hm:w.cell? ⟨2,0,none⟩=some (.int .i64 m))(h1:1<=sep.size)(hn:1<=n)(hn63:n<=9223372036854775807) :
  Calls Tryz.prog 146 #[.string s,.string sep,.int .i64 n] w fun e w' =>
   e=.returned (.slice (some ⟨w.heap.size,0,none⟩) (Lib.splitB sep 0 (min n (s.size+1)-1) s).length (min n (s.size+1)))/\w'=w.alloc (.cells (Lib.cellsOf (Lib.splitB sep 0 (min n (s.size+1)-1) s) (min n (s.size+1))) 9):=Any.strings_SplitN Tryz.lays147 (by kernel_rfl) s sep n m w hs hm h1 hn hn63
def Tryz.uG:Go.Shelf.Ren:=⟨fun | 152=>290 | 137=>300 | 119=>301 | 224=>237 | 225=>236 | 217=>235 | 266=>270 | n=>n,fun | 9=>9 | 21=>21 | 3=>3 | 4=>4 | 5=>5 | 0=>0 | 46=>185 | n=>n,fun | n=>n⟩
theorem Tryz.lays152:Go.Proofs.Lays.n152 Tryz.prog Tryz.uG:=YtkaeamjnphaadaaGreatDoor.zl
open Go.RowKit Go.Lib in
theorem Tryz.strings_IndexRune_ascii (s:ByteArray)(r:Int)(w:World)(h0:0<=r)(h1:r<128) :
  Calls Tryz.prog 290 #[.string s,.int .i32 r] w fun e w'=>e=.returned (.int .i64 (Lib.indexByte s.data.toList r.toNat.toUInt8))/\w'=w:=Any.strings_IndexRune_ascii Tryz.lays152 s r w h0 h1
def Tryz.uH:Go.Shelf.Ren:=⟨fun | 226=>291 | n=>n,fun | 3=>3 | 4=>4 | n=>n,fun | n=>n⟩
theorem Tryz.lays226:Go.Proofs.Lays.n226 Tryz.prog Tryz.uH:=YtkaeamjnphaadaaGreatDoor.zl
open Go.RowKit Go.Lib in
theorem Tryz.strings_shouldUseASCIISet (n:Int)(w:World) :
  Calls Tryz.prog 291 #[.int .i64 n] w fun e w'=>e=.returned (.bool (decide (8<n)))/\w'=w:=Any.strings_shouldUseASCIISet Tryz.lays226 n w
def Tryz.uI:Go.Shelf.Ren:=⟨fun | 153=>267 | 152=>290 | 226=>291 | 227=>264 | 228=>288 | 137=>300 | 119=>301 | 224=>237 | 225=>236 | 217=>235 | 266=>270 | n=>n,fun | 9=>9 | 3=>3 | 4=>4 | 5=>5 | 21=>21 | 117=>295 | 116=>294 | 0=>0 | 46=>185 | 124=>298 | n=>n,fun | n=>n⟩
theorem Tryz.lays153:Go.Proofs.Lays.n153 Tryz.prog Tryz.uI:=YtkaeamjnphaadaaGreatDoor.zl
open Go.RowKit Go.Lib in
theorem Tryz.strings_IndexAny_long (hv116:∀ w,(zeroValue 294).run Tryz.prog w=.ok (.agg (Array.replicate 256 (.bool false))) w)(s chars:ByteArray)(w:World)(h2:2<=chars.size)(h8:8<s.size)(hs:s.size<4294967281)(hcs:chars.size<4294967281)(hascii:∀ (j:Nat) b,chars.data.toList[j]?=some b->b.toNat<128) :
  Calls Tryz.prog 267 #[.string s,.string chars] w fun e w'=>e=.returned (.int .i64 (Lib.indexAny s.data.toList chars.data.toList))/\w'=((w.alloc (.cells (Lib.setCells chars.data.toList) 294)).alloc (.cells (Lib.setCells chars.data.toList) 294)):=Any.strings_IndexAny_long Tryz.lays153 hv116 (by kernel_rfl) s chars w h2 h8 hs hcs hascii
open Go.RowKit Go.Lib in
theorem Tryz.strings_IndexAny_laid (s chars:ByteArray)(w:World)(hs:s.size<4294967281)(hcs:chars.size<4294967281)(has:∀ (j:Nat) b,s.data.toList[j]?=some b->b.toNat<128)(hac:∀ (j:Nat) b,chars.data.toList[j]?=some b->b.toNat<128) :
  Calls Tryz.prog 267 #[.string s,.string chars] w fun e w'=>e=.returned (.int .i64 (Lib.indexAny s.data.toList chars.data.toList))/\Below w.heap.size w w':=Any.strings_IndexAny_laid Tryz.lays153 (by kernel_rfl) s chars w hs hcs has hac
def Tryz.sc:Go.Shelf.Ren:=⟨fun | 29=>134 | n=>n,fun | 22=>155 | 3=>3 | 4=>4 | 25=>185 | 54=>239 | 0=>0 | 5=>5 | n=>n,fun | 1=>1 | n=>n⟩
theorem Tryz.lays7x29:Go.Proofs.Lays7.n29 Tryz.prog Tryz.sc:=YtkaeamjnphaadaaGreatDoor.zl
open Go.RowKit in
theorem Tryz.bits_TrailingZeros64 (x:Nat)(hx:x<18446744073709551616)(w:World)(hT:x≠0->TabAt 1 Lib.deBruijn64tab w) :
  Calls Tryz.prog 134 #[.int .u64 x] w fun e w'=>e=.returned (.int .i64 (Lib.ctz 64 x))/\w'=w:=Any7.bits_TrailingZeros64 Tryz.lays7x29 x hx w hT
end Go.Proofs
namespace Go.Proofs.YtkaeamjnphaadaaGreatDoor
section
open Go.RowKit
theorem wh (c:UInt8):(c.toNat:Int)<256:=by have:=c.toNat_lt;omega
theorem byte_at (l:List UInt8)(i:Nat)(h:i<l.length):∃ c,({ data:=l.toArray }:ByteArray)[i]'(by rw[ByteArray.size_mk'];simpa using h)=c/\l[i]=c:=⟨l[i],rfl,rfl⟩
abbrev pan (n:Int):Ending:=.panicked [{ v:=.iface 32 (.int .i64 n),recovered:=false }]
def okOr (b:Bool) (n:Int):Ending:=if b then .returned (.tuple #[]) else pan n
theorem my (b:Bool)(n:Int)(w:World) :
  Calls Tryz.prog 66 #[.bool b,.int .i64 n] w fun e w'=>e=okOr b n/\w=w':=by
 have aa:∀ (x:Bool) (w:World),(Op.unary .not (.bool x)).run Tryz.prog w=.ok (.bool (!x)) w:=fun _ _=>rfl
 cases b
 ·go_enter Tryz.func66,Tryz.ntmps66
  go_wp2
  exact⟨rfl,rfl,rfl⟩
 ·go_enter Tryz.func66,Tryz.ntmps66
  go_wp2
  go_end0
  exact⟨rfl,rfl⟩
theorem aj {n:Int}(w:World):Calls Tryz.prog 66 #[.bool true,.int .i64 n] w fun e w'=>e=.returned (.tuple #[])/\w=w':=my true n w
theorem an {n:Int}(w:World):Calls Tryz.prog 66 #[.bool false,.int .i64 n] w fun e w'=>e=pan n/\w=w':=my false n w
theorem aeH (p q:UInt8->Bool)(h:∀ n,n<256->p (UInt8.ofNat n)=q (UInt8.ofNat n))(c:UInt8):p c=q c:=by
 have:=h c.toNat c.toNat_lt
 simpa using this
theorem mR {a b l:List UInt8}(h:a++b=l):l.take a.length=a:=by subst h;simp
theorem sd {a b l:List UInt8}(h:a++b=l):l.drop a.length=b:=by subst h;simp
theorem pq (p:UInt8->Bool):∀ (l:List UInt8) (k:Nat) (h:k<l.length),k<=(l.takeWhile p).length->(p l[k]=true↔k+1<=(l.takeWhile p).length)
 | [],k,h,_=>by simp at h
 | b :: l,k,h,hk=>by
  rw[List.takeWhile_cons] at hk ⊢
  cases hb:p b
  ·rw[hb] at hk
   have:k=0:=by simpa using hk
   subst this
   simp[hb]
  ·rw[hb] at hk
   cases k with
   | zero=>simp[hb]
   | succ k =>
    have ih:=pq p l k (by simpa using h) (by simpa using hk)
    simpa using ih
theorem xq (p:UInt8->Bool)(l:List UInt8):(l.takeWhile p).length<=l.length:=by
 have h:l.takeWhile p++l.dropWhile p=l:=List.takeWhile_append_dropWhile
 have:=congrArg List.length h;rw[List.length_append] at this;omega
theorem jh (p:UInt8->Bool)(l:List UInt8):l.take (l.takeWhile p).length=l.takeWhile p:=mR List.takeWhile_append_dropWhile
theorem lV (p:UInt8->Bool)(l:List UInt8):l.drop (l.takeWhile p).length=l.dropWhile p:=sd List.takeWhile_append_dropWhile
theorem ji (l:List UInt8)(c:UInt8):Vm.has c l=true↔(Vm.fst c l).length<l.length:=by
 unfold Vm.has Vm.fst
 induction l with
 | nil=>simp
 | cons b l ih =>
  rw[List.takeWhile_cons]
  by_cases hb:b=c
  ·simp[hb]
  ·have:(b != c)=true:=by simp[hb]
   simp only[this,if_true,List.length_cons,List.contains_cons]
   have h2:(c==b)=false:=by simp;exact fun h=>hb h.symm
   rw[h2,Bool.false_or,ih];omega
theorem eO (l:List UInt8)(c:UInt8):(Vm.fst c l).length<=l.length:=xq _ l
def strLen:Value->Nat | .string s=>s.data.size | _=>0
theorem extract_from (m:List UInt8)(k:Nat):(⟨m.toArray⟩:ByteArray).extract k m.length=⟨(m.drop k).toArray⟩:=by
 rw[ByteArray.extract_mk,List.take_of_length_le (by simp)]
theorem jL (m:List UInt8)(k:Nat):(⟨m.toArray⟩:ByteArray).extract 0 k=⟨(m.take k).toArray⟩:=by
 rw[ByteArray.extract_mk,List.drop_zero,Nat.sub_zero]
theorem eP {o:Int}(w:World) :
  Calls Tryz.prog 19 #[.nilIface,.int .i64 o] w fun e w'=>e=.returned (.tuple #[.int .i64 0,.int .i64 0])/\w=w':=by
 go_enter Tryz.func19,Tryz.ntmps19
 go_wp2_with fail
 go_ret2
 exact⟨rfl,rfl⟩
theorem kJ (n:Int){o:Int}(w:World) :
  Calls Tryz.prog 19 #[.iface 32 (.int .i64 n),.int .i64 o] w fun e w'=>e=.returned (.tuple #[.int .i64 0,.int .i64 n])/\w=w':=by
 have aa:∀ W:World,(Instr.typeAssert (.iface 32 (.int .i64 n)) 20 32 true).run Tryz.prog W=.ok (.tuple #[.int .i64 n,.bool true]) W:=fun _=>by kernel_rfl
 go_enter Tryz.func19,Tryz.ntmps19
 go_wp2_with fail
 go_ret2
 exact⟨rfl,rfl⟩
theorem di {o:Int}(w:World) :
  Calls Tryz.prog 29 #[.nilIface,.int .i64 o] w fun e w'=>e=.returned (.int .i64 0)/\w=w':=by
 go_enter Tryz.func29,Tryz.ntmps29
 go_wp2_with fail
 refine (eP _).mono ?_
 rintro _ w' ⟨rfl,rfl⟩
 go_wp2_with fail
 go_ret
 exact⟨rfl,rfl⟩
theorem dj (n:Int){o:Int}(w:World) :
  Calls Tryz.prog 29 #[.iface 32 (.int .i64 n),.int .i64 o] w fun e w'=>e=.returned (.int .i64 n)/\w=w':=by
 go_enter Tryz.func29,Tryz.ntmps29
 go_wp2_with fail
 refine (kJ n _).mono ?_
 rintro _ w' ⟨rfl,rfl⟩
 go_wp2_with fail
 go_ret
 exact⟨rfl,rfl⟩
def MaxOk (w:World):Prop:=∃ m:Int,w.cell? ⟨2,0,none⟩=some (.int .i64 m)
theorem abt {w:World}(h:MaxOk w):2<w.heap.size:=by
 obtain⟨m,h⟩:=h
 exact World.block_lt_of_cell? w _ h
theorem ah {w w':World}(h:MaxOk w)(hb:Below w.heap.size w w'):MaxOk w':=by
 have aa:=abt h
 obtain⟨m,h⟩:=h
 exact⟨m,(hb.cell aa).trans h⟩
theorem yZ (l:List UInt8)(c:UInt8):Lib.index l [c]=if Vm.has c l then ((Vm.fst c l).length:Int) else -1:=by
 unfold Vm.has Vm.fst
 induction l with
 | nil=>rfl
 | cons b l ih =>
  unfold Lib.index
  rw[List.takeWhile_cons,List.contains_cons]
  by_cases hb:c=b
  ·subst hb;simp
  ·have h1:(c==b)=false:=by simp[hb]
   have h2:(b != c)=true:=by simp;exact fun h=>hb h.symm
   simp only[List.isPrefixOf,h1,Bool.false_and,Bool.false_eq_true,if_false,Bool.false_or,h2,if_true]
   rw[ih]
   cases hc:l.contains c
   ·simp
   ·simp only[if_true,List.length_cons]
    rw[if_neg (by simp)];omega
theorem pr (l:List UInt8)(c:UInt8):Lib.cut l [c]=if Vm.has c l then (Vm.fst c l,Vm.snd c l,true) else (l,[],false):=by
 unfold Lib.cut
 rw[yZ]
 cases hc:Vm.has c l
 ·simp
 ·simp only[if_true]
  rw[if_pos (by omega)]
  have e1:((Vm.fst c l).length:Int).toNat=(Vm.fst c l).length:=by omega
  rw[e1]
  have h2:l.drop ((Vm.fst c l).length+[c].length)=Vm.snd c l:=by
   rw[<-List.drop_drop]
   unfold Vm.snd Vm.fst
   rw[lV];rfl
  rw[h2,show l.take (Vm.fst c l).length=Vm.fst c l from jh _ l]
theorem bK (w w1:World)(T:TypeId)(x:Value)(hb:Below (w.heap.size+1) (w.alloc (.cells #[x] T)) w1):w1.cell? ⟨w.heap.size,0,none⟩=some x/\w1.frozen? ⟨w.heap.size,0,none⟩=false:=by
 have h:w1.heap[w.heap.size]?=some (.cells #[x] T (0,0)):=(hb.block _ (Nat.lt_succ_self _)).trans (heap_alloc_new w _)
 exact⟨cell_of_one h,free_of_one h⟩
theorem bE {w w1:World}{o:Obj}(h:Below (w.heap.size+1) (w.alloc o) w1):Below w.heap.size w w1:=((Below.refl _ _).alloc (Nat.le_refl _) _).trans (h.mono (Nat.le_succ _))
theorem ag {w W1:World}{o:Obj}(h:w.alloc o=W1):Below w.heap.size w W1:=by rw[<-h];exact (Below.refl _ _).alloc (Nat.le_refl _) _
theorem cu {w W1 u:World}{a b:Value}{T:TypeId}(h1:w.alloc (.cells #[a,b] T)=W1)(hb:Below W1.heap.size W1 u) :
  u.cell? ⟨w.heap.size,0,none⟩=some a/\u.cell? ⟨w.heap.size,1,none⟩=some b/\u.frozen? ⟨w.heap.size,0,none⟩=false/\u.frozen? ⟨w.heap.size,1,none⟩=false:=by
 subst h1
 have h:u.heap[w.heap.size]?=some (.cells #[a,b] T (0,0)):=(hb.block _ (by simp)).trans (heap_alloc_new w _)
 refine⟨?_,?_,?_,?_⟩ <;> simp[World.cell?,World.frozen?,h]
attribute [local go_sem ↓] Go.wp_at_zero Go.wp_at_succ
theorem aX (v:List UInt8)(w:World)(hv:v.length<=281474976710656):Calls Tryz.prog 37 #[.string ⟨v.toArray⟩] w fun e w'=>e=.returned (.string ⟨v.toArray⟩)/\Below w.heap.size w w':=by
 go_enter Tryz.func37,Tryz.ntmps37
 go_wp2_with fail
 refine (Tryz.stringslite_Clone ⟨v.toArray⟩ _ (by show v.toArray.size<=_;simpa using hv)).mono ?_
 rintro _ w1 ⟨rfl,hb⟩
 have HB:=zh hb
 clear hb
 go_wp2_with fail
 go_ret
 exact⟨rfl,HB.out⟩
end
end Go.Proofs.YtkaeamjnphaadaaGreatDoor
