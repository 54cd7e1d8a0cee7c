/- Part 3 of what the laws lean on. -/
import Derived.Test.YtpfkphmldalmmaaGreatDoorL90
import Derived.Shelf.Strings.OnBuilder
import Derived.Shelf.Small.Utf8
import Derived.Shelf.Small.Wraps
import Derived.Shelf.Utf8.RuneCount
import Derived.Shelf.Strconv.Itoa4
import Derived.Shelf.Strconv.ErrVarParseInt
import Derived.Shelf.Strings.Shaped
import Derived.Shelf.Strings.SplitShaped
import Derived.Shelf.Strings.Explode
import Derived.Shelf.Unicode.DecodeAny
import Derived.Shelf.Strings.BuilderCap
import Derived.Shelf.Slices.SearchI
import Derived.Test.YtpfkphmldalmmaaGreatDoorProg
import Derived.Shelf.Strings.SlTrimAscii
import Derived.Shelf.Spec.TrailingZeros
set_option maxRecDepth 100000
set_option maxHeartbeats 400000
namespace Go.Proofs
open Go.Shelf
def Tryz.mi:Go.Shelf.Ren:=⟨fun | 169=>56 | n=>n,fun | 70=>100 | 9=>9 | 0=>0 | 72=>103 | 37=>101 | 127=>161 | 3=>3 | 5=>5 | n=>n,fun | n=>n⟩
theorem Tryz.lays169:Go.Proofs.Lays.n169 Tryz.prog Tryz.mi:=YtpfkphmldalmmaaGreatDoor.zl
theorem Tryz.mc:Builder.Extra Tryz.prog Tryz.mi:={
 sizeBuilder:=by kernel_rfl
 liesBuilder:=by kernel_rfl
 t5:=Tryz.underlying5
 a5:=Tryz.isAgg5
 z5:=Tryz.sizeOf5
 v5:=Tryz.zeroValue5
 infoByte:=by kernel_rfl
 cellsByte:=by kernel_rfl
 sizeByte:=by kernel_rfl
 neB5:=by decide }
def Tryz.mj:Go.Shelf.Ren:=⟨fun | 156=>80 | 165=>120 | 166=>55 | 169=>56 | 240=>99 | 241=>165 | 276=>149 | 277=>196 | n=>n,fun | 31=>133 | 9=>9 | 3=>3 | 4=>4 | 0=>0 | 20=>20 | 72=>103 | 76=>106 | 70=>100 | 37=>101 | 75=>105 | 127=>161 | 164=>209 | 5=>5 | 80=>90 | n=>n,fun | n=>n⟩
theorem Tryz.lays156:Go.Proofs.Lays.n156 Tryz.prog Tryz.mj:=YtpfkphmldalmmaaGreatDoor.zl
theorem Tryz.fA:Builder.Extra Tryz.prog Tryz.mj:={
 sizeBuilder:=by kernel_rfl
 liesBuilder:=by kernel_rfl
 t5:=Tryz.underlying5
 a5:=Tryz.isAgg5
 z5:=Tryz.sizeOf5
 v5:=Tryz.zeroValue5
 infoByte:=by kernel_rfl
 cellsByte:=by kernel_rfl
 sizeByte:=by kernel_rfl
 neB5:=by decide }
open Go.RowKit in
theorem Tryz.strings_Join_none (a:Option Addr)(c:Nat)(sep:ByteArray)(w:World) :
  Calls Tryz.prog 80 #[.slice a 0 c,.string sep] w fun e w'=>e=.returned (.string ⟨#[]⟩)/\w'=w:=Any.strings_Join_none Tryz.lays156 Tryz.fA a c sep w
open Go.RowKit in
theorem Tryz.strings_Join (bk o c:Nat)(xs:List ByteArray)(sep:ByteArray)(w:World)(hcells:∀ (j:Nat) x,xs[j]?=some x->w.cell? ⟨bk,o+j,none⟩=some (.string x))(hbk:bk<w.heap.size)(hN:xs.length<=140737488355328)(hcap:xs.length<=c)(hlen:(Lib.join (xs.map (·.data.toList)) sep.data.toList).length<=140737488355328) :
  Calls Tryz.prog 80 #[.slice (some ⟨bk,o,none⟩) xs.length c,.string sep] w fun e w'=>e=.returned (.string ⟨(Lib.join (xs.map (·.data.toList)) sep.data.toList).toArray⟩)/\Below w.heap.size w w':=Any.strings_Join Tryz.lays156 Tryz.fA bk o c xs sep w hcells hbk hN hcap hlen
def Tryz.uM:Go.Shelf.Ren:=⟨fun | 161=>221 | 231=>252 | 227=>253 | 233=>254 | 235=>255 | 228=>278 | 197=>243 | 151=>279 | 260=>273 | 152=>280 | 137=>295 | 119=>296 | 224=>247 | 225=>246 | 217=>245 | 266=>274 | n=>n,fun | 9=>9 | 4=>4 | 3=>3 | 5=>5 | 117=>278 | 116=>277 | 0=>0 | 124=>281 | 105=>273 | 21=>21 | 119=>307 | 46=>150 | 139=>310 | 138=>309 | n=>n,fun | 3=>5 | 4=>6 | n=>n⟩
theorem Tryz.lays161:Go.Proofs.Lays.n161 Tryz.prog Tryz.uM:=YtpfkphmldalmmaaGreatDoor.zl
open Go.RowKit in
theorem Tryz.strings_TrimLeft_one (s:ByteArray)(c:UInt8)(hc:c.toNat<128)(w:World) :
  Calls Tryz.prog 221 #[.string s,.string ⟨#[c]⟩] w fun e w'=>e=.returned (.string ⟨(Lib.trimLeftB s.data.toList c).toArray⟩)/\w'=w:=Any.strings_TrimLeft_one Tryz.lays161 s c hc w
open Go.RowKit in
theorem Tryz.strings_TrimLeft_laid (s cutset:ByteArray)(w:World)(hcs:cutset.size<4294967281)(hascii:∀ (j:Nat) b,cutset.data.toList[j]?=some b->b.toNat<128) :
  Calls Tryz.prog 221 #[.string s,.string cutset] w fun e w'=>e=.returned (.string ⟨(Lib.trimLeftS s.data.toList cutset.data.toList).toArray⟩)/\Below w.heap.size w w':=Any.strings_TrimLeft_laid Tryz.lays161 (by kernel_rfl) s cutset w hcs hascii
def Tryz.uN:Go.Shelf.Ren:=⟨fun | 119=>296 | n=>n,fun | 21=>21 | 4=>4 | n=>n,fun | n=>n⟩
theorem Tryz.lays119:Go.Proofs.Lays.n119 Tryz.prog Tryz.uN:=YtpfkphmldalmmaaGreatDoor.zl
theorem Tryz.utf8_ValidRune (r:Int)(w:World) :
  Calls Tryz.prog 296 #[.int .i32 r] w fun e w'=>e=.returned (.bool (Lib.validRune r))/\w'=w:=Any.utf8_ValidRune Tryz.lays119 r w
def Tryz.uO:Go.Shelf.Ren:=⟨fun | 106=>276 | 213=>293 | 265=>302 | n=>n,fun | 9=>9 | 3=>3 | n=>n,fun | n=>n⟩
theorem Tryz.lays106:Go.Proofs.Lays.n106 Tryz.prog Tryz.uO:=YtpfkphmldalmmaaGreatDoor.zl
open Go.RowKit in
theorem Tryz.strings_Compare (a b:ByteArray)(w:World) :
  Calls Tryz.prog 276 #[.string a,.string b] w fun e w'=>e=.returned (.int .i64 (Lib.compareBytes a.data.toList b.data.toList))/\w'=w:=Any.strings_Compare Tryz.lays106 a b w
def Tryz.uP:Go.Shelf.Ren:=⟨fun | 137=>295 | 217=>245 | 266=>274 | n=>n,fun | 9=>9 | 5=>5 | 3=>3 | n=>n,fun | n=>n⟩
theorem Tryz.lays137:Go.Proofs.Lays.n137 Tryz.prog Tryz.uP:=YtpfkphmldalmmaaGreatDoor.zl
open Go.RowKit in
theorem Tryz.strings_IndexByte (s:ByteArray)(c:Int)(w:World) :
  Calls Tryz.prog 295 #[.string s,.int .u8 c] w fun e w'=>e=.returned (.int .i64 (Lib.indexByte s.data.toList c.toNat.toUInt8))/\w'=w:=Any.strings_IndexByte Tryz.lays137 s c w
def Tryz.uQ:Go.Shelf.Ren:=⟨fun | 103=>262 | 210=>283 | 206=>298 | n=>n,fun | 9=>9 | 4=>4 | 24=>285 | 3=>3 | n=>n,fun | n=>n⟩
theorem Tryz.lays103:Go.Proofs.Lays.n103 Tryz.prog Tryz.uQ:=YtpfkphmldalmmaaGreatDoor.zl
open Go.RowKit in
theorem Tryz.strings_CutPrefix (s p:ByteArray)(w:World) :
  Calls Tryz.prog 262 #[.string s,.string p] w fun e w'=>e=.returned (.tuple #[.string ⟨(Lib.trimPrefix s.data.toList p.data.toList).toArray⟩,.bool (Lib.hasPrefix s.data.toList p.data.toList)])/\w'=w:=Any.strings_CutPrefix Tryz.lays103 s p w
def Tryz.uR:Go.Shelf.Ren:=⟨fun | 104=>263 | 211=>284 | 207=>143 | n=>n,fun | 9=>9 | 4=>4 | 24=>285 | 3=>3 | n=>n,fun | n=>n⟩
theorem Tryz.lays104:Go.Proofs.Lays.n104 Tryz.prog Tryz.uR:=YtpfkphmldalmmaaGreatDoor.zl
open Go.RowKit in
theorem Tryz.strings_CutSuffix (s p:ByteArray)(w:World)(hs:s.size<=9223372036854775807) :
  Calls Tryz.prog 263 #[.string s,.string p] w fun e w'=>e=.returned (.tuple #[.string ⟨(Lib.trimSuffix s.data.toList p.data.toList).toArray⟩,.bool (Lib.hasSuffix s.data.toList p.data.toList)])/\w'=w:=Any.strings_CutSuffix Tryz.lays104 s p w hs
def Tryz.uS:Go.Shelf.Ren:=⟨fun | 122=>182 | 215=>216 | n=>n,fun | 3=>3 | 4=>4 | n=>n,fun | n=>n⟩
theorem Tryz.lays122:Go.Proofs.Lays.n122 Tryz.prog Tryz.uS:=YtpfkphmldalmmaaGreatDoor.zl
open Go.RowKit in
theorem Tryz.cmp_Compare_int (x y:Int)(w:World) :
  Calls Tryz.prog 182 #[.int .i64 x,.int .i64 y] w fun e w'=>e=.returned (.int .i64 (Lib.compareInt x y))/\w'=w:=Any.cmp_Compare_int Tryz.lays122 x y w
open Go.RowKit in
theorem Tryz.Builder_String_any_k (B b:Nat)(l:List UInt8)(w:World)(h:Lib.IsBuilderF 103 5 B b (Lib.byteCells l) w)(hBw:B<=w.heap.size) :
  Calls Tryz.prog 56 #[.pointer (some ⟨b,0,none⟩)] w fun e w'=>e=.returned (.string ⟨l.toArray⟩)/\(Lib.IsBuilderF 103 5 B b (Lib.byteCells l) w'/\Below B w w'/\Lib.OthersKept 5 (some b) w w'):=Any.Builder_String_any_k Tryz.lays169 Tryz.mc B b l w h hBw
def Tryz.uT:Go.Shelf.Ren:=⟨fun | 129=>231 | n=>n,fun | 53=>139 | 3=>3 | 4=>4 | 46=>150 | 5=>5 | 9=>9 | n=>n,fun | n=>n⟩
theorem Tryz.lays129:Go.Proofs.Lays.n129 Tryz.prog Tryz.uT:=YtpfkphmldalmmaaGreatDoor.zl
theorem Tryz.bits_Len64 (x:Int)(w:World)(h0:0<=x)(h1:x<=18446744073709551615) :
  Calls Tryz.prog 231 #[.int .u64 x] w fun e w'=>e=.returned (.int .i64 (Lib.bitLen x.toNat))/\w'=w:=Any.bits_Len64 Tryz.lays129 x w h0 h1
def Tryz.sc:Go.Shelf.Ren:=⟨fun | 171=>127 | 243=>172 | 246=>171 | 283=>203 | 284=>204 | 285=>205 | 286=>206 | 129=>231 | 317=>230 | 318=>232 | 319=>233 | 320=>234 | 337=>259 | 338=>125 | n=>n,fun | 3=>3 | 9=>9 | 2=>2 | 4=>4 | 171=>248 | 0=>0 | 53=>139 | 37=>101 | 5=>5 | 173=>250 | 212=>266 | 51=>267 | 20=>20 | 213=>268 | 46=>150 | 232=>299 | 233=>229 | n=>n,fun | 17=>3 | 18=>4 | 19=>1 | n=>n⟩
theorem Tryz.laysM171:Go.Proofs.LaysM.n171 Tryz.prog Tryz.sc:=YtpfkphmldalmmaaGreatDoor.zl
open Go.RowKit Go.Sort Go.Lib in
theorem Tryz.strconv_Itoa (n:Int)(h0:-9223372036854775808<=n)(h1:n<=9223372036854775807)(w:World)(htab:Lib.TabIs Tryz.prog w "internal/strconv.uint64pow10" .u64 Lib.pow10Tab) :
  Calls Tryz.prog 127 #[.int .i64 n] w fun e w'=>e=.returned (.string ⟨(Lib.itoa n).toArray⟩)/\∃ k os,w'=grow (w.drewN k) os:=Any.strconv_Itoa Tryz.laysM171 n h0 h1 w htab
def Tryz.sd:Go.Shelf.Ren:=⟨fun | 173=>126 | 246=>171 | 283=>203 | 284=>204 | 285=>205 | 286=>206 | 129=>231 | 317=>230 | 318=>232 | 319=>233 | 320=>234 | 337=>259 | 338=>125 | n=>n,fun | 2=>2 | 3=>3 | 9=>9 | 4=>4 | 171=>248 | 0=>0 | 53=>139 | 37=>101 | 5=>5 | 173=>250 | 212=>266 | 51=>267 | 20=>20 | 213=>268 | 46=>150 | 232=>299 | 233=>229 | n=>n,fun | 17=>3 | 18=>4 | 19=>1 | n=>n⟩
theorem Tryz.laysM173:Go.Proofs.LaysM.n173 Tryz.prog Tryz.sd:=YtpfkphmldalmmaaGreatDoor.zl
open Go.RowKit Go.Sort Go.Lib in
theorem Tryz.strconv_FormatInt_10 (n:Int)(h0:-9223372036854775808<=n)(h1:n<=9223372036854775807)(w:World)(htab:Lib.TabIs Tryz.prog w "internal/strconv.uint64pow10" .u64 Lib.pow10Tab) :
  Calls Tryz.prog 126 #[.int .i64 n,.int .i64 10] w fun e w'=>e=.returned (.string ⟨(Lib.itoa n).toArray⟩)/\∃ k os,w'=grow (w.drewN k) os:=Any.strconv_FormatInt_10 Tryz.laysM173 n h0 h1 w htab
def Tryz.se:Go.Shelf.Ren:=⟨fun | 316=>79 | n=>n,fun | 9=>9 | 3=>3 | 4=>4 | 37=>101 | 0=>0 | 127=>161 | 5=>5 | n=>n,fun | n=>n⟩
theorem Tryz.laysM316:Go.Proofs.LaysM.n316 Tryz.prog Tryz.se:=YtpfkphmldalmmaaGreatDoor.zl
open Go.RowKit in
theorem Tryz.stringslite_Clone (s:ByteArray)(w:World)(hlim:s.size<=281474976710656) :
  Calls Tryz.prog 79 #[.string s] w fun e w'=>e=.returned (.string s)/\Below w.heap.size w w':=Any.stringslite_Clone Tryz.laysM316 s w hlim
def Tryz.sf:Go.Shelf.Ren:=⟨fun | 174=>292 | 247=>300 | 245=>301 | 287=>303 | 279=>304 | 280=>305 | 281=>306 | 282=>307 | 321=>308 | 322=>309 | 316=>79 | 171=>127 | 205=>310 | 243=>172 | 246=>171 | 283=>203 | 284=>204 | 285=>205 | 286=>206 | 129=>231 | 317=>230 | 318=>232 | 319=>233 | 320=>234 | 337=>259 | 338=>125 | n=>n,fun | 9=>9 | 3=>3 | 2=>2 | 75=>105 | 85=>305 | 4=>4 | 167=>313 | 5=>5 | 53=>139 | 175=>314 | 46=>150 | 168=>316 | 37=>101 | 0=>0 | 210=>321 | 21=>21 | 127=>161 | 145=>325 | 143=>323 | 171=>248 | 173=>250 | 212=>266 | 51=>267 | 20=>20 | 213=>268 | 232=>299 | 233=>229 | 80=>90 | n=>n,fun | 15=>7 | 16=>8 | 17=>3 | 18=>4 | 19=>1 | n=>n⟩
theorem Tryz.laysC174:Go.Proofs.LaysC.n174 Tryz.prog Tryz.sf:=YtpfkphmldalmmaaGreatDoor.zl
open Go.RowKit in
theorem Tryz.strconv_ParseInt_10_at64_ok (s:ByteArray)(hmax:s.size<=9223372036854775806)(v:Int)(h:Lib.parseIntB 64 s.data.toList=.ok v)(w:World) :
  Calls Tryz.prog 292 #[.string s,.int .i64 10,.int .i64 64] w fun e w'=>e=.returned (.tuple #[.int .i64 v,.nilIface])/\(w'=w\/∃ t,w'=Lib.bytesWorld w 5 t):=Any.strconv_ParseInt_10_at64_ok Tryz.laysC174 s hmax v h w
open Go.RowKit in
theorem Tryz.strconv_ParseInt_10_at64_range_var (s:ByteArray)(hlim:s.size<=281474976710656)(h:Lib.parseIntB 64 s.data.toList=.range)(tp:TypeId)(p:Value)(w:World)(hvar:w.var? Tryz.prog "strconv.ErrRange" = some #[.iface tp p]) :
  Calls Tryz.prog 292 #[.string s,.int .i64 10,.int .i64 64] w fun e w'=>∃ N,e=.returned (.tuple #[.int .i64 (Lib.intSat 64 s.data.toList),.iface 316 (.pointer (some ⟨N,0,none⟩))])/\w.heap.size<=N/\w'.heap[N]?=some (.cells #[.string ⟨#[80,97,114,115,101,73,110,116]⟩,.string s,.iface tp p] 321 (0,0))/\Below w.heap.size w w':=Any.strconv_ParseInt_10_at64_range_var Tryz.laysC174 s hlim h tp p w hvar
def Tryz.uU:Go.Shelf.Ren:=⟨fun | 145=>145 | 220=>180 | 219=>215 | 217=>245 | 225=>246 | 224=>247 | 267=>248 | 266=>274 | 314=>275 | n=>n,fun | 9=>9 | 4=>4 | 59=>206 | 3=>3 | 5=>5 | 46=>150 | 146=>295 | 51=>267 | n=>n,fun | 1=>2 | n=>n⟩
theorem Tryz.lays145:Go.Proofs.Lays.n145 Tryz.prog Tryz.uU:=YtpfkphmldalmmaaGreatDoor.zl
open Go.RowKit Go.Lib in
theorem Tryz.strings_Cut (s sep:ByteArray)(m:Int)(w:World)(hs:s.size<4294967281)(hm:w.cell? ⟨2,0,none⟩=some (.int .i64 m)) :
  Calls Tryz.prog 145 #[.string s,.string sep] w fun e w'=>e=.returned (.tuple #[.string ⟨(Lib.cut s.data.toList sep.data.toList).1.toArray⟩,.string ⟨(Lib.cut s.data.toList sep.data.toList).2.1.toArray⟩,.bool (Lib.cut s.data.toList sep.data.toList).2.2])/\∃ n,w'=w.drewN n:=Any.strings_Cut Tryz.lays145 s sep m w hs hm
def Tryz.uV:Go.Shelf.Ren:=⟨fun | 100=>94 | 207=>143 | n=>n,fun | 9=>9 | 4=>4 | 3=>3 | n=>n,fun | n=>n⟩
theorem Tryz.lays100:Go.Proofs.Lays.n100 Tryz.prog Tryz.uV:=YtpfkphmldalmmaaGreatDoor.zl
open Go.RowKit Go.Lib in
theorem Tryz.strings_HasSuffix (s p:ByteArray)(w:World)(hs:s.size<=9223372036854775807) :
  Calls Tryz.prog 94 #[.string s,.string p] w fun e w'=>e=.returned (.bool (Lib.hasSuffix s.data.toList p.data.toList))/\w'=w:=Any.strings_HasSuffix Tryz.lays100 s p w hs
def Tryz.uW:Go.Shelf.Ren:=⟨fun | 101=>291 | 208=>299 | 206=>298 | n=>n,fun | 9=>9 | 4=>4 | 3=>3 | n=>n,fun | n=>n⟩
theorem Tryz.lays101:Go.Proofs.Lays.n101 Tryz.prog Tryz.uW:=YtpfkphmldalmmaaGreatDoor.zl
open Go.RowKit Go.Lib in
theorem Tryz.strings_TrimPrefix (s p:ByteArray)(w:World) :
  Calls Tryz.prog 291 #[.string s,.string p] w fun e w'=>e=.returned (.string ⟨(Lib.trimPrefix s.data.toList p.data.toList).toArray⟩)/\w'=w:=Any.strings_TrimPrefix Tryz.lays101 s p w
def Tryz.uX:Go.Shelf.Ren:=⟨fun | 146=>144 | 221=>179 | 268=>212 | 138=>213 | 143=>214 | 195=>242 | 197=>243 | 218=>244 | 219=>215 | 260=>273 | 217=>245 | 225=>246 | 224=>247 | 267=>248 | 266=>274 | 314=>275 | n=>n,fun | 9=>9 | 31=>133 | 3=>3 | 4=>4 | 0=>0 | 105=>273 | 21=>21 | 5=>5 | 46=>150 | 119=>307 | 139=>310 | 138=>309 | 146=>295 | 51=>267 | n=>n,fun | 1=>2 | 3=>5 | 4=>6 | n=>n⟩
theorem Tryz.lays146:Go.Proofs.Lays.n146 Tryz.prog Tryz.uX:=YtpfkphmldalmmaaGreatDoor.zl
open Go.RowKit Go.Lib in
theorem Tryz.strings_Split (s sep:ByteArray)(m:Int)(w:World)(hs:s.size<4294967281)(hm:w.cell? ⟨2,0,none⟩=some (.int .i64 m))(h1:1<=sep.size) :
  Calls Tryz.prog 144 #[.string s,.string sep] w fun e w' =>
   e=.returned (.slice (some ⟨w.heap.size,0,none⟩) (Lib.countB s sep+1) (Lib.countB s sep+1))/\w'=w.alloc (.cells ((Lib.splitB sep 0 (Lib.countB s sep) s).map Value.string).toArray 9):=Any.strings_Split Tryz.lays146 (by kernel_rfl) s sep m w hs hm h1
def Tryz.uY:Go.Shelf.Ren:=⟨fun | 147=>176 | 221=>179 | 268=>212 | 138=>213 | 143=>214 | 195=>242 | 197=>243 | 218=>244 | 219=>215 | 260=>273 | 217=>245 | 225=>246 | 224=>247 | 267=>248 | 266=>274 | 314=>275 | n=>n,fun | 9=>9 | 3=>3 | 31=>133 | 4=>4 | 0=>0 | 105=>273 | 21=>21 | 5=>5 | 46=>150 | 119=>307 | 139=>310 | 138=>309 | 146=>295 | 51=>267 | n=>n,fun | 1=>2 | 3=>5 | 4=>6 | n=>n⟩
theorem Tryz.lays147:Go.Proofs.Lays.n147 Tryz.prog Tryz.uY:=YtpfkphmldalmmaaGreatDoor.zl
open Go.RowKit Go.Lib in
theorem Tryz.strings_SplitN (s sep:ByteArray)(n:Nat)(m:Int)(w:World)(hs:s.size<4294967281)(hm:w.cell? ⟨2,0,none⟩=some (.int .i64 m))(h1:1<=sep.size)(hn:1<=n)(hn63:n<=9223372036854775807) :
  Calls Tryz.prog 176 #[.string s,.string sep,.int .i64 n] w fun e w' =>
   e=.returned (.slice (some ⟨w.heap.size,0,none⟩) (Lib.splitB sep 0 (min n (s.size+1)-1) s).length (min n (s.size+1)))/\w'=w.alloc (.cells (Lib.cellsOf (Lib.splitB sep 0 (min n (s.size+1)-1) s) (min n (s.size+1))) 9):=Any.strings_SplitN Tryz.lays147 (by kernel_rfl) s sep n m w hs hm h1 hn hn63
def Tryz.uZ:Go.Shelf.Ren:=⟨fun | 152=>280 | 137=>295 | 119=>296 | 224=>247 | 225=>246 | 217=>245 | 266=>274 | n=>n,fun | 9=>9 | 21=>21 | 3=>3 | 4=>4 | 5=>5 | 0=>0 | 46=>150 | n=>n,fun | n=>n⟩
theorem Tryz.lays152:Go.Proofs.Lays.n152 Tryz.prog Tryz.uZ:=YtpfkphmldalmmaaGreatDoor.zl
open Go.RowKit Go.Lib in
theorem Tryz.strings_IndexRune_ascii (s:ByteArray)(r:Int)(w:World)(h0:0<=r)(h1:r<128) :
  Calls Tryz.prog 280 #[.string s,.int .i32 r] w fun e w'=>e=.returned (.int .i64 (Lib.indexByte s.data.toList r.toNat.toUInt8))/\w'=w:=Any.strings_IndexRune_ascii Tryz.lays152 s r w h0 h1
def Tryz.va:Go.Shelf.Ren:=⟨fun | 226=>281 | n=>n,fun | 3=>3 | 4=>4 | n=>n,fun | n=>n⟩
theorem Tryz.lays226:Go.Proofs.Lays.n226 Tryz.prog Tryz.va:=YtpfkphmldalmmaaGreatDoor.zl
open Go.RowKit Go.Lib in
theorem Tryz.strings_shouldUseASCIISet (n:Int)(w:World) :
  Calls Tryz.prog 281 #[.int .i64 n] w fun e w'=>e=.returned (.bool (decide (8<n)))/\w'=w:=Any.strings_shouldUseASCIISet Tryz.lays226 n w
def Tryz.vb:Go.Shelf.Ren:=⟨fun | 153=>256 | 152=>280 | 226=>281 | 227=>253 | 228=>278 | 137=>295 | 119=>296 | 224=>247 | 225=>246 | 217=>245 | 266=>274 | n=>n,fun | 9=>9 | 3=>3 | 4=>4 | 5=>5 | 21=>21 | 117=>278 | 116=>277 | 0=>0 | 46=>150 | 124=>281 | n=>n,fun | n=>n⟩
theorem Tryz.lays153:Go.Proofs.Lays.n153 Tryz.prog Tryz.vb:=YtpfkphmldalmmaaGreatDoor.zl
open Go.RowKit Go.Lib in
theorem Tryz.strings_IndexAny_long (hv116:∀ w,(zeroValue 277).run Tryz.prog w=.ok (.agg (Array.replicate 256 (.bool false))) w)(s chars:ByteArray)(w:World)(h2:2<=chars.size)(h8:8<s.size)(hs:s.size<4294967281)(hcs:chars.size<4294967281)(hascii:∀ (j:Nat) b,chars.data.toList[j]?=some b->b.toNat<128) :
  Calls Tryz.prog 256 #[.string s,.string chars] w fun e w'=>e=.returned (.int .i64 (Lib.indexAny s.data.toList chars.data.toList))/\w'=((w.alloc (.cells (Lib.setCells chars.data.toList) 277)).alloc (.cells (Lib.setCells chars.data.toList) 277)):=Any.strings_IndexAny_long Tryz.lays153 hv116 (by kernel_rfl) s chars w h2 h8 hs hcs hascii
open Go.RowKit Go.Lib in
theorem Tryz.strings_IndexAny_laid (s chars:ByteArray)(w:World)(hs:s.size<4294967281)(hcs:chars.size<4294967281)(has:∀ (j:Nat) b,s.data.toList[j]?=some b->b.toNat<128)(hac:∀ (j:Nat) b,chars.data.toList[j]?=some b->b.toNat<128) :
  Calls Tryz.prog 256 #[.string s,.string chars] w fun e w'=>e=.returned (.int .i64 (Lib.indexAny s.data.toList chars.data.toList))/\Below w.heap.size w w':=Any.strings_IndexAny_laid Tryz.lays153 (by kernel_rfl) s chars w hs hcs has hac
def Tryz.si:Go.Shelf.Ren:=⟨fun | 29=>125 | n=>n,fun | 22=>139 | 3=>3 | 4=>4 | 25=>150 | 54=>229 | 0=>0 | 5=>5 | n=>n,fun | 1=>1 | n=>n⟩
theorem Tryz.lays7x29:Go.Proofs.Lays7.n29 Tryz.prog Tryz.si:=YtpfkphmldalmmaaGreatDoor.zl
open Go.RowKit in
theorem Tryz.bits_TrailingZeros64 (x:Nat)(hx:x<18446744073709551616)(w:World)(hT:x≠0->TabAt 1 Lib.deBruijn64tab w) :
  Calls Tryz.prog 125 #[.int .u64 x] w fun e w'=>e=.returned (.int .i64 (Lib.ctz 64 x))/\w'=w:=Any7.bits_TrailingZeros64 Tryz.lays7x29 x hx w hT
end Go.Proofs
