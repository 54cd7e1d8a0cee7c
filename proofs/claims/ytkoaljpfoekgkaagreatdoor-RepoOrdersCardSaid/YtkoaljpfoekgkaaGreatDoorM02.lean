/- Part 2 of what the laws lean on. -/
import Derived.Test.YtkoaljpfoekgkaaGreatDoorM90
import Derived.Shelf.Strings.OnBuilder
import Derived.Shelf.Small.Utf8
import Derived.Shelf.Small.Wraps
import Derived.Shelf.Strings.BuilderK
import Derived.Shelf.Strconv.Itoa4
import Derived.Shelf.Strconv.ErrVarParseInt
import Derived.Shelf.Strings.Shaped
import Derived.Shelf.Strings.SplitShaped
import Derived.Shelf.Unicode.DecodeSlow
import Derived.Shelf.Slices.SearchI
import Derived.Test.YtkoaljpfoekgkaaGreatDoorProg
import Derived.Shelf.Strings.SlTrimAscii
import Derived.Shelf.Spec.TrailingZeros
import Derived.Test.YtkoaljpfoekgkaaGreatDoorRows
import Derived.Test.YtkoaljpfoekgkaaGreatDoorM01
import Derived.WalkSpells
import Derived.WalkLawsBesides
import Derived.BigQuiet
import Derived.Lib.BufferRead
import Derived.Deep.RegionHeld3
import Derived.Deep.DrawnRows
set_option maxRecDepth 100000
set_option maxHeartbeats 400000
namespace Go.Proofs
open Go.Shelf
def Tryz.sB:Go.Shelf.Ren:=⟨fun | 161=>160 | 231=>195 | 227=>196 | 233=>197 | 235=>198 | 228=>201 | 197=>225 | 151=>226 | 260=>250 | 152=>199 | 137=>227 | 119=>228 | 224=>193 | 225=>192 | 217=>191 | 266=>223 | n=>n,fun | 9=>9 | 4=>4 | 3=>3 | 5=>5 | 117=>244 | 116=>243 | 0=>0 | 124=>247 | 105=>264 | 21=>21 | 119=>292 | 46=>146 | 139=>295 | 138=>294 | n=>n,fun | 3=>4 | 4=>5 | n=>n⟩
theorem Tryz.lays161:Go.Proofs.Lays.n161 Tryz.prog Tryz.sB:=YtkoaljpfoekgkaaGreatDoor.zl
open Go.RowKit in
theorem Tryz.strings_TrimLeft_one (s:ByteArray)(c:UInt8)(hc:c.toNat<128)(w:World) :
  Calls Tryz.prog 160 #[.string s,.string ⟨#[c]⟩] w fun e w'=>e=.returned (.string ⟨(Lib.trimLeftB s.data.toList c).toArray⟩)/\w'=w:=Any.strings_TrimLeft_one Tryz.lays161 s c hc w
open Go.RowKit in
theorem Tryz.strings_TrimLeft_laid (s cutset:ByteArray)(w:World)(hcs:cutset.size<4294967281)(hascii:∀ (j:Nat) b,cutset.data.toList[j]?=some b->b.toNat<128) :
  Calls Tryz.prog 160 #[.string s,.string cutset] w fun e w'=>e=.returned (.string ⟨(Lib.trimLeftS s.data.toList cutset.data.toList).toArray⟩)/\Below w.heap.size w w':=Any.strings_TrimLeft_laid Tryz.lays161 (by kernel_rfl) s cutset w hcs hascii
def Tryz.sC:Go.Shelf.Ren:=⟨fun | 119=>228 | n=>n,fun | 21=>21 | 4=>4 | n=>n,fun | n=>n⟩
theorem Tryz.lays119:Go.Proofs.Lays.n119 Tryz.prog Tryz.sC:=YtkoaljpfoekgkaaGreatDoor.zl
theorem Tryz.utf8_ValidRune (r:Int)(w:World) :
  Calls Tryz.prog 228 #[.int .i32 r] w fun e w'=>e=.returned (.bool (Lib.validRune r))/\w'=w:=Any.utf8_ValidRune Tryz.lays119 r w
def Tryz.sD:Go.Shelf.Ren:=⟨fun | 106=>86 | 213=>119 | 265=>156 | n=>n,fun | 9=>9 | 3=>3 | n=>n,fun | n=>n⟩
theorem Tryz.lays106:Go.Proofs.Lays.n106 Tryz.prog Tryz.sD:=YtkoaljpfoekgkaaGreatDoor.zl
open Go.RowKit in
theorem Tryz.strings_Compare (a b:ByteArray)(w:World) :
  Calls Tryz.prog 86 #[.string a,.string b] w fun e w'=>e=.returned (.int .i64 (Lib.compareBytes a.data.toList b.data.toList))/\w'=w:=Any.strings_Compare Tryz.lays106 a b w
def Tryz.sE:Go.Shelf.Ren:=⟨fun | 137=>227 | 217=>191 | 266=>223 | n=>n,fun | 9=>9 | 5=>5 | 3=>3 | n=>n,fun | n=>n⟩
theorem Tryz.lays137:Go.Proofs.Lays.n137 Tryz.prog Tryz.sE:=YtkoaljpfoekgkaaGreatDoor.zl
open Go.RowKit in
theorem Tryz.strings_IndexByte (s:ByteArray)(c:Int)(w:World) :
  Calls Tryz.prog 227 #[.string s,.int .u8 c] w fun e w'=>e=.returned (.int .i64 (Lib.indexByte s.data.toList c.toNat.toUInt8))/\w'=w:=Any.strings_IndexByte Tryz.lays137 s c w
def Tryz.sF:Go.Shelf.Ren:=⟨fun | 103=>271 | 210=>283 | 206=>294 | n=>n,fun | 9=>9 | 4=>4 | 24=>136 | 3=>3 | n=>n,fun | n=>n⟩
theorem Tryz.lays103:Go.Proofs.Lays.n103 Tryz.prog Tryz.sF:=YtkoaljpfoekgkaaGreatDoor.zl
open Go.RowKit in
theorem Tryz.strings_CutPrefix (s p:ByteArray)(w:World) :
  Calls Tryz.prog 271 #[.string s,.string p] w fun e w'=>e=.returned (.tuple #[.string ⟨(Lib.trimPrefix s.data.toList p.data.toList).toArray⟩,.bool (Lib.hasPrefix s.data.toList p.data.toList)])/\w'=w:=Any.strings_CutPrefix Tryz.lays103 s p w
def Tryz.sG:Go.Shelf.Ren:=⟨fun | 104=>272 | 211=>284 | 207=>148 | n=>n,fun | 9=>9 | 4=>4 | 24=>136 | 3=>3 | n=>n,fun | n=>n⟩
theorem Tryz.lays104:Go.Proofs.Lays.n104 Tryz.prog Tryz.sG:=YtkoaljpfoekgkaaGreatDoor.zl
open Go.RowKit in
theorem Tryz.strings_CutSuffix (s p:ByteArray)(w:World)(hs:s.size<=9223372036854775807) :
  Calls Tryz.prog 272 #[.string s,.string p] w fun e w'=>e=.returned (.tuple #[.string ⟨(Lib.trimSuffix s.data.toList p.data.toList).toArray⟩,.bool (Lib.hasSuffix s.data.toList p.data.toList)])/\w'=w:=Any.strings_CutSuffix Tryz.lays104 s p w hs
def Tryz.sH:Go.Shelf.Ren:=⟨fun | 122=>78 | 215=>111 | n=>n,fun | 3=>3 | 4=>4 | n=>n,fun | n=>n⟩
theorem Tryz.lays122:Go.Proofs.Lays.n122 Tryz.prog Tryz.sH:=YtkoaljpfoekgkaaGreatDoor.zl
open Go.RowKit in
theorem Tryz.cmp_Compare_int (x y:Int)(w:World) :
  Calls Tryz.prog 78 #[.int .i64 x,.int .i64 y] w fun e w'=>e=.returned (.int .i64 (Lib.compareInt x y))/\w'=w:=Any.cmp_Compare_int Tryz.lays122 x y w
def Tryz.sI:Go.Shelf.Ren:=⟨fun | 129=>256 | n=>n,fun | 53=>26 | 3=>3 | 4=>4 | 46=>146 | 5=>5 | 9=>9 | n=>n,fun | n=>n⟩
theorem Tryz.lays129:Go.Proofs.Lays.n129 Tryz.prog Tryz.sI:=YtkoaljpfoekgkaaGreatDoor.zl
theorem Tryz.bits_Len64 (x:Int)(w:World)(h0:0<=x)(h1:x<=18446744073709551615) :
  Calls Tryz.prog 256 #[.int .u64 x] w fun e w'=>e=.returned (.int .i64 (Lib.bitLen x.toNat))/\w'=w:=Any.bits_Len64 Tryz.lays129 x w h0 h1
def Tryz.pW:Go.Shelf.Ren:=⟨fun | 171=>174 | 243=>213 | 246=>212 | 283=>239 | 284=>240 | 285=>241 | 286=>242 | 129=>256 | 317=>255 | 318=>257 | 319=>258 | 320=>259 | 337=>268 | 338=>172 | n=>n,fun | 3=>3 | 9=>9 | 2=>2 | 4=>4 | 171=>275 | 0=>0 | 53=>26 | 37=>22 | 5=>5 | 173=>277 | 212=>286 | 51=>261 | 20=>20 | 213=>287 | 46=>146 | 232=>307 | 233=>253 | n=>n,fun | 17=>3 | 18=>6 | 19=>2 | n=>n⟩
theorem Tryz.laysM171:Go.Proofs.LaysM.n171 Tryz.prog Tryz.pW:=YtkoaljpfoekgkaaGreatDoor.zl
open Go.RowKit Go.Sort Go.Lib in
theorem Tryz.strconv_Itoa (n:Int)(h0:-9223372036854775808<=n)(h1:n<=9223372036854775807)(w:World)(htab:Lib.TabIs Tryz.prog w "internal/strconv.uint64pow10" .u64 Lib.pow10Tab) :
  Calls Tryz.prog 174 #[.int .i64 n] w fun e w'=>e=.returned (.string ⟨(Lib.itoa n).toArray⟩)/\∃ k os,w'=grow (w.drewN k) os:=Any.strconv_Itoa Tryz.laysM171 n h0 h1 w htab
def Tryz.pX:Go.Shelf.Ren:=⟨fun | 173=>173 | 246=>212 | 283=>239 | 284=>240 | 285=>241 | 286=>242 | 129=>256 | 317=>255 | 318=>257 | 319=>258 | 320=>259 | 337=>268 | 338=>172 | n=>n,fun | 2=>2 | 3=>3 | 9=>9 | 4=>4 | 171=>275 | 0=>0 | 53=>26 | 37=>22 | 5=>5 | 173=>277 | 212=>286 | 51=>261 | 20=>20 | 213=>287 | 46=>146 | 232=>307 | 233=>253 | n=>n,fun | 17=>3 | 18=>6 | 19=>2 | n=>n⟩
theorem Tryz.laysM173:Go.Proofs.LaysM.n173 Tryz.prog Tryz.pX:=YtkoaljpfoekgkaaGreatDoor.zl
open Go.RowKit Go.Sort Go.Lib in
theorem Tryz.strconv_FormatInt_10 (n:Int)(h0:-9223372036854775808<=n)(h1:n<=9223372036854775807)(w:World)(htab:Lib.TabIs Tryz.prog w "internal/strconv.uint64pow10" .u64 Lib.pow10Tab) :
  Calls Tryz.prog 173 #[.int .i64 n,.int .i64 10] w fun e w'=>e=.returned (.string ⟨(Lib.itoa n).toArray⟩)/\∃ k os,w'=grow (w.drewN k) os:=Any.strconv_FormatInt_10 Tryz.laysM173 n h0 h1 w htab
def Tryz.pY:Go.Shelf.Ren:=⟨fun | 316=>72 | n=>n,fun | 9=>9 | 3=>3 | 4=>4 | 37=>22 | 0=>0 | 127=>154 | 5=>5 | n=>n,fun | n=>n⟩
theorem Tryz.laysM316:Go.Proofs.LaysM.n316 Tryz.prog Tryz.pY:=YtkoaljpfoekgkaaGreatDoor.zl
open Go.RowKit in
theorem Tryz.stringslite_Clone (s:ByteArray)(w:World)(hlim:s.size<=281474976710656) :
  Calls Tryz.prog 72 #[.string s] w fun e w'=>e=.returned (.string s)/\Below w.heap.size w w':=Any.stringslite_Clone Tryz.laysM316 s w hlim
def Tryz.pZ:Go.Shelf.Ren:=⟨fun | 174=>292 | 247=>296 | 245=>297 | 287=>298 | 279=>299 | 280=>300 | 281=>301 | 282=>302 | 321=>303 | 322=>304 | 316=>72 | 171=>174 | 205=>305 | 243=>213 | 246=>212 | 283=>239 | 284=>240 | 285=>241 | 286=>242 | 129=>256 | 317=>255 | 318=>257 | 319=>258 | 320=>259 | 337=>268 | 338=>172 | n=>n,fun | 9=>9 | 3=>3 | 2=>2 | 75=>119 | 85=>313 | 4=>4 | 167=>316 | 5=>5 | 53=>26 | 175=>317 | 46=>146 | 168=>319 | 37=>22 | 0=>0 | 210=>324 | 21=>21 | 127=>154 | 145=>328 | 143=>326 | 171=>275 | 173=>277 | 212=>286 | 51=>261 | 20=>20 | 213=>287 | 232=>307 | 233=>253 | 80=>64 | n=>n,fun | 15=>7 | 16=>8 | 17=>3 | 18=>6 | 19=>2 | n=>n⟩
theorem Tryz.laysC174:Go.Proofs.LaysC.n174 Tryz.prog Tryz.pZ:=YtkoaljpfoekgkaaGreatDoor.zl
open Go.RowKit in
theorem Tryz.strconv_ParseInt_10_at64_ok (s:ByteArray)(hmax:s.size<=9223372036854775806)(v:Int)(h:Lib.parseIntB 64 s.data.toList=.ok v)(w:World) :
  Calls Tryz.prog 292 #[.string s,.int .i64 10,.int .i64 64] w fun e w'=>e=.returned (.tuple #[.int .i64 v,.nilIface])/\(w'=w\/∃ t,w'=Lib.bytesWorld w 5 t):=Any.strconv_ParseInt_10_at64_ok Tryz.laysC174 s hmax v h w
open Go.RowKit in
theorem Tryz.strconv_ParseInt_10_at64_range_var (s:ByteArray)(hlim:s.size<=281474976710656)(h:Lib.parseIntB 64 s.data.toList=.range)(tp:TypeId)(p:Value)(w:World)(hvar:w.var? Tryz.prog "strconv.ErrRange" = some #[.iface tp p]) :
  Calls Tryz.prog 292 #[.string s,.int .i64 10,.int .i64 64] w fun e w'=>∃ N,e=.returned (.tuple #[.int .i64 (Lib.intSat 64 s.data.toList),.iface 319 (.pointer (some ⟨N,0,none⟩))])/\w.heap.size<=N/\w'.heap[N]?=some (.cells #[.string ⟨#[80,97,114,115,101,73,110,116]⟩,.string s,.iface tp p] 324 (0,0))/\Below w.heap.size w w':=Any.strconv_ParseInt_10_at64_range_var Tryz.laysC174 s hlim h tp p w hvar
def Tryz.sJ:Go.Shelf.Ren:=⟨fun | 145=>89 | 220=>121 | 219=>158 | 217=>191 | 225=>192 | 224=>193 | 267=>194 | 266=>223 | 314=>224 | n=>n,fun | 9=>9 | 4=>4 | 59=>150 | 3=>3 | 5=>5 | 46=>146 | 146=>262 | 51=>261 | n=>n,fun | 1=>0 | n=>n⟩
theorem Tryz.lays145:Go.Proofs.Lays.n145 Tryz.prog Tryz.sJ:=YtkoaljpfoekgkaaGreatDoor.zl
open Go.RowKit Go.Lib in
theorem Tryz.strings_Cut (s sep:ByteArray)(m:Int)(w:World)(hs:s.size<4294967281)(hm:w.cell? ⟨0,0,none⟩=some (.int .i64 m)) :
  Calls Tryz.prog 89 #[.string s,.string sep] w fun e w'=>e=.returned (.tuple #[.string ⟨(Lib.cut s.data.toList sep.data.toList).1.toArray⟩,.string ⟨(Lib.cut s.data.toList sep.data.toList).2.1.toArray⟩,.bool (Lib.cut s.data.toList sep.data.toList).2.2])/\∃ n,w'=w.drewN n:=Any.strings_Cut Tryz.lays145 s sep m w hs hm
def Tryz.sK:Go.Shelf.Ren:=⟨fun | 100=>112 | 207=>148 | n=>n,fun | 9=>9 | 4=>4 | 3=>3 | n=>n,fun | n=>n⟩
theorem Tryz.lays100:Go.Proofs.Lays.n100 Tryz.prog Tryz.sK:=YtkoaljpfoekgkaaGreatDoor.zl
open Go.RowKit Go.Lib in
theorem Tryz.strings_HasSuffix (s p:ByteArray)(w:World)(hs:s.size<=9223372036854775807) :
  Calls Tryz.prog 112 #[.string s,.string p] w fun e w'=>e=.returned (.bool (Lib.hasSuffix s.data.toList p.data.toList))/\w'=w:=Any.strings_HasSuffix Tryz.lays100 s p w hs
def Tryz.sL:Go.Shelf.Ren:=⟨fun | 101=>291 | 208=>295 | 206=>294 | n=>n,fun | 9=>9 | 4=>4 | 3=>3 | n=>n,fun | n=>n⟩
theorem Tryz.lays101:Go.Proofs.Lays.n101 Tryz.prog Tryz.sL:=YtkoaljpfoekgkaaGreatDoor.zl
open Go.RowKit Go.Lib in
theorem Tryz.strings_TrimPrefix (s p:ByteArray)(w:World) :
  Calls Tryz.prog 291 #[.string s,.string p] w fun e w'=>e=.returned (.string ⟨(Lib.trimPrefix s.data.toList p.data.toList).toArray⟩)/\w'=w:=Any.strings_TrimPrefix Tryz.lays101 s p w
def Tryz.sM:Go.Shelf.Ren:=⟨fun | 152=>199 | 137=>227 | 119=>228 | 224=>193 | 225=>192 | 217=>191 | 266=>223 | n=>n,fun | 9=>9 | 21=>21 | 3=>3 | 4=>4 | 5=>5 | 0=>0 | 46=>146 | n=>n,fun | n=>n⟩
theorem Tryz.lays152:Go.Proofs.Lays.n152 Tryz.prog Tryz.sM:=YtkoaljpfoekgkaaGreatDoor.zl
open Go.RowKit Go.Lib in
theorem Tryz.strings_IndexRune_ascii (s:ByteArray)(r:Int)(w:World)(h0:0<=r)(h1:r<128) :
  Calls Tryz.prog 199 #[.string s,.int .i32 r] w fun e w'=>e=.returned (.int .i64 (Lib.indexByte s.data.toList r.toNat.toUInt8))/\w'=w:=Any.strings_IndexRune_ascii Tryz.lays152 s r w h0 h1
def Tryz.sN:Go.Shelf.Ren:=⟨fun | 226=>200 | n=>n,fun | 3=>3 | 4=>4 | n=>n,fun | n=>n⟩
theorem Tryz.lays226:Go.Proofs.Lays.n226 Tryz.prog Tryz.sN:=YtkoaljpfoekgkaaGreatDoor.zl
open Go.RowKit Go.Lib in
theorem Tryz.strings_shouldUseASCIISet (n:Int)(w:World) :
  Calls Tryz.prog 200 #[.int .i64 n] w fun e w'=>e=.returned (.bool (decide (8<n)))/\w'=w:=Any.strings_shouldUseASCIISet Tryz.lays226 n w
def Tryz.sO:Go.Shelf.Ren:=⟨fun | 153=>161 | 152=>199 | 226=>200 | 227=>196 | 228=>201 | 137=>227 | 119=>228 | 224=>193 | 225=>192 | 217=>191 | 266=>223 | n=>n,fun | 9=>9 | 3=>3 | 4=>4 | 5=>5 | 21=>21 | 117=>244 | 116=>243 | 0=>0 | 46=>146 | 124=>247 | n=>n,fun | n=>n⟩
theorem Tryz.lays153:Go.Proofs.Lays.n153 Tryz.prog Tryz.sO:=YtkoaljpfoekgkaaGreatDoor.zl
open Go.RowKit Go.Lib in
theorem Tryz.strings_IndexAny_long (hv116:∀ w,(zeroValue 243).run Tryz.prog w=.ok (.agg (Array.replicate 256 (.bool false))) w)(s chars:ByteArray)(w:World)(h2:2<=chars.size)(h8:8<s.size)(hs:s.size<4294967281)(hcs:chars.size<4294967281)(hascii:∀ (j:Nat) b,chars.data.toList[j]?=some b->b.toNat<128) :
  Calls Tryz.prog 161 #[.string s,.string chars] w fun e w'=>e=.returned (.int .i64 (Lib.indexAny s.data.toList chars.data.toList))/\w'=((w.alloc (.cells (Lib.setCells chars.data.toList) 243)).alloc (.cells (Lib.setCells chars.data.toList) 243)):=Any.strings_IndexAny_long Tryz.lays153 hv116 (by kernel_rfl) s chars w h2 h8 hs hcs hascii
open Go.RowKit Go.Lib in
theorem Tryz.strings_IndexAny_laid (s chars:ByteArray)(w:World)(hs:s.size<4294967281)(hcs:chars.size<4294967281)(has:∀ (j:Nat) b,s.data.toList[j]?=some b->b.toNat<128)(hac:∀ (j:Nat) b,chars.data.toList[j]?=some b->b.toNat<128) :
  Calls Tryz.prog 161 #[.string s,.string chars] w fun e w'=>e=.returned (.int .i64 (Lib.indexAny s.data.toList chars.data.toList))/\Below w.heap.size w w':=Any.strings_IndexAny_laid Tryz.lays153 (by kernel_rfl) s chars w hs hcs has hac
def Tryz.p8:Go.Shelf.Ren:=⟨fun | 29=>172 | n=>n,fun | 22=>26 | 3=>3 | 4=>4 | 25=>146 | 54=>253 | 0=>0 | 5=>5 | n=>n,fun | 1=>2 | n=>n⟩
theorem Tryz.lays7x29:Go.Proofs.Lays7.n29 Tryz.prog Tryz.p8:=YtkoaljpfoekgkaaGreatDoor.zl
open Go.RowKit in
theorem Tryz.bits_TrailingZeros64 (x:Nat)(hx:x<18446744073709551616)(w:World)(hT:x≠0->TabAt 2 Lib.deBruijn64tab w) :
  Calls Tryz.prog 172 #[.int .u64 x] w fun e w'=>e=.returned (.int .i64 (Lib.ctz 64 x))/\w'=w:=Any7.bits_TrailingZeros64 Tryz.lays7x29 x hx w hT
end Go.Proofs
namespace Go.Proofs.YtkoaljpfoekgkaaGreatDoor
section
open Go.RowKit
theorem ux (c:UInt8):(c.toNat:Int)<256:=by have:=c.toNat_lt;omega
theorem byte_at (l:List UInt8)(i:Nat)(h:i<l.length):∃ c,({ data:=l.toArray }:ByteArray)[i]'(by rw[ByteArray.size_mk'];simpa using h)=c/\l[i]=c:=⟨l[i],rfl,rfl⟩
abbrev pan (n:Int):Ending:=.panicked [{ v:=.iface 29 (.int .i64 n),recovered:=false }]
def okOr (b:Bool) (n:Int):Ending:=if b then .returned (.tuple #[]) else pan n
theorem j8 (b:Bool)(n:Int)(w:World) :
  Calls Tryz.prog 38 #[.bool b,.int .i64 n] w fun e w'=>e=okOr b n/\w=w':=by
 have aa:∀ (x:Bool) (w:World),(Op.unary .not (.bool x)).run Tryz.prog w=.ok (.bool (!x)) w:=fun _ _=>rfl
 cases b
 ·go_enter Tryz.func38,Tryz.ntmps38
  go_wp2
  exact⟨rfl,rfl,rfl⟩
 ·go_enter Tryz.func38,Tryz.ntmps38
  go_wp2
  go_end0
  exact⟨rfl,rfl⟩
theorem ag {n:Int}(w:World):Calls Tryz.prog 38 #[.bool true,.int .i64 n] w fun e w'=>e=.returned (.tuple #[])/\w=w':=j8 true n w
theorem ai {n:Int}(w:World):Calls Tryz.prog 38 #[.bool false,.int .i64 n] w fun e w'=>e=pan n/\w=w':=j8 false n w
theorem ac1 (p q:UInt8->Bool)(h:∀ n,n<256->p (UInt8.ofNat n)=q (UInt8.ofNat n))(c:UInt8):p c=q c:=by
 have:=h c.toNat c.toNat_lt
 simpa using this
theorem kz {a b l:List UInt8}(h:a++b=l):l.take a.length=a:=by subst h;simp
theorem p9 {a b l:List UInt8}(h:a++b=l):l.drop a.length=b:=by subst h;simp
theorem abx (p:UInt8->Bool)(l:List UInt8):(l.takeWhile p).length<=l.length:=by
 have h:l.takeWhile p++l.dropWhile p=l:=List.takeWhile_append_dropWhile
 have:=congrArg List.length h;rw[List.length_append] at this;omega
theorem gA (p:UInt8->Bool)(l:List UInt8):l.take (l.takeWhile p).length=l.takeWhile p:=kz List.takeWhile_append_dropWhile
theorem abQ (p:UInt8->Bool)(l:List UInt8):l.drop (l.takeWhile p).length=l.dropWhile p:=p9 List.takeWhile_append_dropWhile
theorem abR (l:List UInt8)(c:UInt8):Vm.has c l=true↔(Vm.fst c l).length<l.length:=by
 unfold Vm.has Vm.fst
 induction l with
 | nil=>simp
 | cons b l ih =>
  rw[List.takeWhile_cons]
  by_cases hb:b=c
  ·simp[hb]
  ·have:(b != c)=true:=by simp[hb]
   simp only[this,if_true,List.length_cons,List.contains_cons]
   have h2:(c==b)=false:=by simp;exact fun h=>hb h.symm
   rw[h2,Bool.false_or,ih];omega
theorem qe (l:List UInt8)(c:UInt8):(Vm.fst c l).length<=l.length:=abx _ l
def strLen:Value->Nat | .string s=>s.data.size | _=>0
theorem bT {o:Int}(w:World) :
  Calls Tryz.prog 26 #[.nilIface,.int .i64 o] w fun e w'=>e=.returned (.tuple #[.int .i64 0,.int .i64 0])/\w=w':=by
 go_enter Tryz.func26,Tryz.ntmps26
 go_wp2_with fail
 go_ret2
 exact⟨rfl,rfl⟩
theorem dt (n:Int){o:Int}(w:World) :
  Calls Tryz.prog 26 #[.iface 29 (.int .i64 n),.int .i64 o] w fun e w'=>e=.returned (.tuple #[.int .i64 0,.int .i64 n])/\w=w':=by
 have aa:∀ W:World,(Instr.typeAssert (.iface 29 (.int .i64 n)) 20 29 true).run Tryz.prog W=.ok (.tuple #[.int .i64 n,.bool true]) W:=fun _=>by kernel_rfl
 go_enter Tryz.func26,Tryz.ntmps26
 go_wp2_with fail
 go_ret2
 exact⟨rfl,rfl⟩
theorem bD {o:Int}(w:World) :
  Calls Tryz.prog 35 #[.nilIface,.int .i64 o] w fun e w'=>e=.returned (.int .i64 0)/\w=w':=by
 go_enter Tryz.func35,Tryz.ntmps35
 go_wp2_with fail
 refine (bT _).mono ?_
 rintro _ w' ⟨rfl,rfl⟩
 go_wp2_with fail
 go_ret
 exact⟨rfl,rfl⟩
theorem bE (n:Int){o:Int}(w:World) :
  Calls Tryz.prog 35 #[.iface 29 (.int .i64 n),.int .i64 o] w fun e w'=>e=.returned (.int .i64 n)/\w=w':=by
 go_enter Tryz.func35,Tryz.ntmps35
 go_wp2_with fail
 refine (dt n _).mono ?_
 rintro _ w' ⟨rfl,rfl⟩
 go_wp2_with fail
 go_ret
 exact⟨rfl,rfl⟩
def MaxOk (w:World):Prop:=∃ m:Int,w.cell? ⟨0,0,none⟩=some (.int .i64 m)
theorem zD {w:World}(h:MaxOk w):0<w.heap.size:=by
 obtain⟨m,h⟩:=h
 exact World.block_lt_of_cell? w _ h
theorem aa {w w':World}(h:MaxOk w)(hb:Below w.heap.size w w'):MaxOk w':=by
 have ab:=zD h
 obtain⟨m,h⟩:=h
 exact⟨m,(hb.cell ab).trans h⟩
theorem xh (l:List UInt8)(c:UInt8):Lib.index l [c]=if Vm.has c l then ((Vm.fst c l).length:Int) else -1:=by
 unfold Vm.has Vm.fst
 induction l with
 | nil=>rfl
 | cons b l ih =>
  unfold Lib.index
  rw[List.takeWhile_cons,List.contains_cons]
  by_cases hb:c=b
  ·subst hb;simp
  ·have h1:(c==b)=false:=by simp[hb]
   have h2:(b != c)=true:=by simp;exact fun h=>hb h.symm
   simp only[List.isPrefixOf,h1,Bool.false_and,Bool.false_eq_true,if_false,Bool.false_or,h2,if_true]
   rw[ih]
   cases hc:l.contains c
   ·simp
   ·simp only[if_true,List.length_cons]
    rw[if_neg (by simp)];omega
theorem mO (l:List UInt8)(c:UInt8):Lib.cut l [c]=if Vm.has c l then (Vm.fst c l,Vm.snd c l,true) else (l,[],false):=by
 unfold Lib.cut
 rw[xh]
 cases hc:Vm.has c l
 ·simp
 ·simp only[if_true]
  rw[if_pos (by omega)]
  have e1:((Vm.fst c l).length:Int).toNat=(Vm.fst c l).length:=by omega
  rw[e1]
  have h2:l.drop ((Vm.fst c l).length+[c].length)=Vm.snd c l:=by
   rw[<-List.drop_drop]
   unfold Vm.snd Vm.fst
   rw[abQ];rfl
  rw[h2,show l.take (Vm.fst c l).length=Vm.fst c l from gA _ l]
theorem aT (w w1:World)(T:TypeId)(x:Value)(hb:Below (w.heap.size+1) (w.alloc (.cells #[x] T)) w1):w1.cell? ⟨w.heap.size,0,none⟩=some x/\w1.frozen? ⟨w.heap.size,0,none⟩=false:=by
 have h:w1.heap[w.heap.size]?=some (.cells #[x] T (0,0)):=(hb.block _ (Nat.lt_succ_self _)).trans (heap_alloc_new w _)
 exact⟨cell_of_one h,free_of_one h⟩
theorem aU {w w1:World}{o:Obj}(h:Below (w.heap.size+1) (w.alloc o) w1):Below w.heap.size w w1:=((Below.refl _ _).alloc (Nat.le_refl _) _).trans (h.mono (Nat.le_succ _))
theorem ab {w W1:World}{o:Obj}(h:w.alloc o=W1):Below w.heap.size w W1:=by rw[<-h];exact (Below.refl _ _).alloc (Nat.le_refl _) _
theorem cZ {w W1 u:World}{a b:Value}{T:TypeId}(h1:w.alloc (.cells #[a,b] T)=W1)(hb:Below W1.heap.size W1 u) :
  u.cell? ⟨w.heap.size,0,none⟩=some a/\u.cell? ⟨w.heap.size,1,none⟩=some b/\u.frozen? ⟨w.heap.size,0,none⟩=false/\u.frozen? ⟨w.heap.size,1,none⟩=false:=by
 subst h1
 have h:u.heap[w.heap.size]?=some (.cells #[a,b] T (0,0)):=(hb.block _ (by simp)).trans (heap_alloc_new w _)
 refine⟨?_,?_,?_,?_⟩ <;> simp[World.cell?,World.frozen?,h]
attribute [local go_sem ↓] Go.wp_at_zero Go.wp_at_succ
theorem aN (v:List UInt8)(w:World)(hv:v.length<=281474976710656):Calls Tryz.prog 41 #[.string ⟨v.toArray⟩] w fun e w'=>e=.returned (.string ⟨v.toArray⟩)/\Below w.heap.size w w':=by
 go_enter Tryz.func41,Tryz.ntmps41
 go_wp2_with fail
 refine (Tryz.stringslite_Clone ⟨v.toArray⟩ _ (by show v.toArray.size<=_;simpa using hv)).mono ?_
 rintro _ w1 ⟨rfl,hb⟩
 have HB:=zh hb
 clear hb
 go_wp2_with fail
 go_ret
 exact⟨rfl,HB.out⟩
end
end Go.Proofs.YtkoaljpfoekgkaaGreatDoor
