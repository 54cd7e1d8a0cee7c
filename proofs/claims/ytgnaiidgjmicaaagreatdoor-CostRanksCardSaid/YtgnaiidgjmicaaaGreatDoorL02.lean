/- Part 2 of what the laws lean on. -/
import Derived.Test.YtgnaiidgjmicaaaGreatDoorL90
import Derived.Shelf.Strings.OnBuilder
import Derived.Shelf.Small.Utf8
import Derived.Shelf.Small.Wraps
import Derived.Shelf.Strconv.Itoa4
import Derived.Shelf.Strconv.ErrVarParseInt
import Derived.Shelf.Strings.Shaped
import Derived.Shelf.Strings.SplitShaped
import Derived.Shelf.Strings.Explode
import Derived.Shelf.Unicode.DecodeSlow
import Derived.Shelf.Strings.BuilderCap
import Derived.Shelf.Slices.SearchI
import Derived.Shelf.Slices.Cells
import Derived.Test.YtgnaiidgjmicaaaGreatDoorProg
import Derived.Shelf.Strings.SlTrimAscii
import Derived.Shelf.Spec.TrailingZeros
import Derived.Test.YtgnaiidgjmicaaaGreatDoorRows
import Derived.Test.YtgnaiidgjmicaaaGreatDoorL01
import Derived.WalkSpells
import Derived.WalkLawsBesides
import Derived.BigQuiet
import Derived.Lib.BufferRead
import Derived.Deep.RegionHeld3
import Derived.Deep.DrawnRows
import Derived.Lib.SmallJoins
import Derived.Deep.AppendLies
import Derived.Deep.Upon
set_option maxRecDepth 100000
set_option maxHeartbeats 400000
namespace Go.Proofs
open Go.Shelf
def Tryz.qe:Go.Shelf.Ren:=⟨fun | 161=>198 | 231=>229 | 227=>230 | 233=>231 | 235=>232 | 228=>235 | 197=>264 | 151=>265 | 260=>291 | 152=>233 | 137=>266 | 119=>267 | 224=>227 | 225=>226 | 217=>225 | 266=>262 | n=>n,fun | 9=>9 | 4=>4 | 3=>3 | 5=>5 | 117=>274 | 116=>273 | 0=>0 | 124=>277 | 105=>302 | 21=>21 | 119=>333 | 46=>205 | 139=>336 | 138=>335 | n=>n,fun | 3=>4 | 4=>5 | n=>n⟩
theorem Tryz.lays161:Go.Proofs.Lays.n161 Tryz.prog Tryz.qe:=YtgnaiidgjmicaaaGreatDoor.zl
open Go.RowKit in
theorem Tryz.strings_TrimLeft_one (s:ByteArray)(c:UInt8)(hc:c.toNat<128)(w:World) :
  Calls Tryz.prog 198 #[.string s,.string ⟨#[c]⟩] w fun e w'=>e=.returned (.string ⟨(Lib.trimLeftB s.data.toList c).toArray⟩)/\w'=w:=Any.strings_TrimLeft_one Tryz.lays161 s c hc w
open Go.RowKit in
theorem Tryz.strings_TrimLeft_laid (s cutset:ByteArray)(w:World)(hcs:cutset.size<4294967281)(hascii:∀ (j:Nat) b,cutset.data.toList[j]?=some b->b.toNat<128) :
  Calls Tryz.prog 198 #[.string s,.string cutset] w fun e w'=>e=.returned (.string ⟨(Lib.trimLeftS s.data.toList cutset.data.toList).toArray⟩)/\Below w.heap.size w w':=Any.strings_TrimLeft_laid Tryz.lays161 (by kernel_rfl) s cutset w hcs hascii
def Tryz.qf:Go.Shelf.Ren:=⟨fun | 119=>267 | n=>n,fun | 21=>21 | 4=>4 | n=>n,fun | n=>n⟩
theorem Tryz.lays119:Go.Proofs.Lays.n119 Tryz.prog Tryz.qf:=YtgnaiidgjmicaaaGreatDoor.zl
theorem Tryz.utf8_ValidRune (r:Int)(w:World) :
  Calls Tryz.prog 267 #[.int .i32 r] w fun e w'=>e=.returned (.bool (Lib.validRune r))/\w'=w:=Any.utf8_ValidRune Tryz.lays119 r w
def Tryz.qg:Go.Shelf.Ren:=⟨fun | 106=>143 | 213=>181 | 265=>211 | n=>n,fun | 9=>9 | 3=>3 | n=>n,fun | n=>n⟩
theorem Tryz.lays106:Go.Proofs.Lays.n106 Tryz.prog Tryz.qg:=YtgnaiidgjmicaaaGreatDoor.zl
open Go.RowKit in
theorem Tryz.strings_Compare (a b:ByteArray)(w:World) :
  Calls Tryz.prog 143 #[.string a,.string b] w fun e w'=>e=.returned (.int .i64 (Lib.compareBytes a.data.toList b.data.toList))/\w'=w:=Any.strings_Compare Tryz.lays106 a b w
def Tryz.qh:Go.Shelf.Ren:=⟨fun | 137=>266 | 217=>225 | 266=>262 | n=>n,fun | 9=>9 | 5=>5 | 3=>3 | n=>n,fun | n=>n⟩
theorem Tryz.lays137:Go.Proofs.Lays.n137 Tryz.prog Tryz.qh:=YtgnaiidgjmicaaaGreatDoor.zl
open Go.RowKit in
theorem Tryz.strings_IndexByte (s:ByteArray)(c:Int)(w:World) :
  Calls Tryz.prog 266 #[.string s,.int .u8 c] w fun e w'=>e=.returned (.int .i64 (Lib.indexByte s.data.toList c.toNat.toUInt8))/\w'=w:=Any.strings_IndexByte Tryz.lays137 s c w
def Tryz.qi:Go.Shelf.Ren:=⟨fun | 103=>319 | 210=>331 | 206=>342 | n=>n,fun | 9=>9 | 4=>4 | 24=>150 | 3=>3 | n=>n,fun | n=>n⟩
theorem Tryz.lays103:Go.Proofs.Lays.n103 Tryz.prog Tryz.qi:=YtgnaiidgjmicaaaGreatDoor.zl
open Go.RowKit in
theorem Tryz.strings_CutPrefix (s p:ByteArray)(w:World) :
  Calls Tryz.prog 319 #[.string s,.string p] w fun e w'=>e=.returned (.tuple #[.string ⟨(Lib.trimPrefix s.data.toList p.data.toList).toArray⟩,.bool (Lib.hasPrefix s.data.toList p.data.toList)])/\w'=w:=Any.strings_CutPrefix Tryz.lays103 s p w
def Tryz.qj:Go.Shelf.Ren:=⟨fun | 104=>320 | 211=>332 | 207=>203 | n=>n,fun | 9=>9 | 4=>4 | 24=>150 | 3=>3 | n=>n,fun | n=>n⟩
theorem Tryz.lays104:Go.Proofs.Lays.n104 Tryz.prog Tryz.qj:=YtgnaiidgjmicaaaGreatDoor.zl
open Go.RowKit in
theorem Tryz.strings_CutSuffix (s p:ByteArray)(w:World)(hs:s.size<=9223372036854775807) :
  Calls Tryz.prog 320 #[.string s,.string p] w fun e w'=>e=.returned (.tuple #[.string ⟨(Lib.trimSuffix s.data.toList p.data.toList).toArray⟩,.bool (Lib.hasSuffix s.data.toList p.data.toList)])/\w'=w:=Any.strings_CutSuffix Tryz.lays104 s p w hs
def Tryz.qk:Go.Shelf.Ren:=⟨fun | 122=>99 | 215=>139 | n=>n,fun | 3=>3 | 4=>4 | n=>n,fun | n=>n⟩
theorem Tryz.lays122:Go.Proofs.Lays.n122 Tryz.prog Tryz.qk:=YtgnaiidgjmicaaaGreatDoor.zl
open Go.RowKit in
theorem Tryz.cmp_Compare_int (x y:Int)(w:World) :
  Calls Tryz.prog 99 #[.int .i64 x,.int .i64 y] w fun e w'=>e=.returned (.int .i64 (Lib.compareInt x y))/\w'=w:=Any.cmp_Compare_int Tryz.lays122 x y w
def Tryz.ql:Go.Shelf.Ren:=⟨fun | 129=>304 | n=>n,fun | 53=>63 | 3=>3 | 4=>4 | 46=>205 | 5=>5 | 9=>9 | n=>n,fun | n=>n⟩
theorem Tryz.lays129:Go.Proofs.Lays.n129 Tryz.prog Tryz.ql:=YtgnaiidgjmicaaaGreatDoor.zl
theorem Tryz.bits_Len64 (x:Int)(w:World)(h0:0<=x)(h1:x<=18446744073709551615) :
  Calls Tryz.prog 304 #[.int .u64 x] w fun e w'=>e=.returned (.int .i64 (Lib.bitLen x.toNat))/\w'=w:=Any.bits_Len64 Tryz.lays129 x w h0 h1
def Tryz.oe:Go.Shelf.Ren:=⟨fun | 316=>90 | n=>n,fun | 9=>9 | 3=>3 | 4=>4 | 37=>61 | 0=>0 | 127=>193 | 5=>5 | n=>n,fun | n=>n⟩
theorem Tryz.laysM316:Go.Proofs.LaysM.n316 Tryz.prog Tryz.oe:=YtgnaiidgjmicaaaGreatDoor.zl
open Go.RowKit in
theorem Tryz.stringslite_Clone (s:ByteArray)(w:World)(hlim:s.size<=281474976710656) :
  Calls Tryz.prog 90 #[.string s] w fun e w'=>e=.returned (.string s)/\Below w.heap.size w w':=Any.stringslite_Clone Tryz.laysM316 s w hlim
def Tryz.og:Go.Shelf.Ren:=⟨fun | 174=>340 | 247=>344 | 245=>345 | 287=>346 | 279=>347 | 280=>348 | 281=>349 | 282=>350 | 321=>351 | 322=>352 | 316=>90 | 171=>224 | 205=>353 | 243=>261 | 246=>260 | 283=>287 | 284=>288 | 285=>289 | 286=>290 | 129=>304 | 317=>303 | 318=>305 | 319=>306 | 320=>307 | 337=>316 | 338=>222 | n=>n,fun | 9=>9 | 3=>3 | 2=>2 | 75=>175 | 85=>357 | 4=>4 | 167=>360 | 5=>5 | 53=>63 | 175=>361 | 46=>205 | 168=>363 | 37=>61 | 0=>0 | 210=>368 | 21=>21 | 127=>193 | 145=>372 | 143=>370 | 171=>320 | 173=>322 | 212=>330 | 51=>299 | 20=>20 | 213=>331 | 232=>351 | 233=>298 | 80=>80 | n=>n,fun | 15=>7 | 16=>8 | 17=>3 | 18=>6 | 19=>2 | n=>n⟩
theorem Tryz.laysC174:Go.Proofs.LaysC.n174 Tryz.prog Tryz.og:=YtgnaiidgjmicaaaGreatDoor.zl
open Go.RowKit in
theorem Tryz.strconv_ParseInt_10_at64_ok (s:ByteArray)(hmax:s.size<=9223372036854775806)(v:Int)(h:Lib.parseIntB 64 s.data.toList=.ok v)(w:World) :
  Calls Tryz.prog 340 #[.string s,.int .i64 10,.int .i64 64] w fun e w'=>e=.returned (.tuple #[.int .i64 v,.nilIface])/\(w'=w\/∃ t,w'=Lib.bytesWorld w 5 t):=Any.strconv_ParseInt_10_at64_ok Tryz.laysC174 s hmax v h w
open Go.RowKit in
theorem Tryz.strconv_ParseInt_10_at64_range_var (s:ByteArray)(hlim:s.size<=281474976710656)(h:Lib.parseIntB 64 s.data.toList=.range)(tp:TypeId)(p:Value)(w:World)(hvar:w.var? Tryz.prog "strconv.ErrRange" = some #[.iface tp p]) :
  Calls Tryz.prog 340 #[.string s,.int .i64 10,.int .i64 64] w fun e w'=>∃ N,e=.returned (.tuple #[.int .i64 (Lib.intSat 64 s.data.toList),.iface 363 (.pointer (some ⟨N,0,none⟩))])/\w.heap.size<=N/\w'.heap[N]?=some (.cells #[.string ⟨#[80,97,114,115,101,73,110,116]⟩,.string s,.iface tp p] 368 (0,0))/\Below w.heap.size w w':=Any.strconv_ParseInt_10_at64_range_var Tryz.laysC174 s hlim h tp p w hvar
def Tryz.qm:Go.Shelf.Ren:=⟨fun | 145=>122 | 220=>159 | 219=>196 | 217=>225 | 225=>226 | 224=>227 | 267=>228 | 266=>262 | 314=>263 | n=>n,fun | 9=>9 | 4=>4 | 59=>187 | 3=>3 | 5=>5 | 46=>205 | 146=>300 | 51=>299 | n=>n,fun | 1=>0 | n=>n⟩
theorem Tryz.lays145:Go.Proofs.Lays.n145 Tryz.prog Tryz.qm:=YtgnaiidgjmicaaaGreatDoor.zl
open Go.RowKit Go.Lib in
theorem Tryz.strings_Cut (s sep:ByteArray)(m:Int)(w:World)(hs:s.size<4294967281)(hm:w.cell? ⟨0,0,none⟩=some (.int .i64 m)) :
  Calls Tryz.prog 122 #[.string s,.string sep] w fun e w'=>e=.returned (.tuple #[.string ⟨(Lib.cut s.data.toList sep.data.toList).1.toArray⟩,.string ⟨(Lib.cut s.data.toList sep.data.toList).2.1.toArray⟩,.bool (Lib.cut s.data.toList sep.data.toList).2.2])/\∃ n,w'=w.drewN n:=Any.strings_Cut Tryz.lays145 s sep m w hs hm
def Tryz.qo:Go.Shelf.Ren:=⟨fun | 100=>174 | 207=>203 | n=>n,fun | 9=>9 | 4=>4 | 3=>3 | n=>n,fun | n=>n⟩
theorem Tryz.lays100:Go.Proofs.Lays.n100 Tryz.prog Tryz.qo:=YtgnaiidgjmicaaaGreatDoor.zl
open Go.RowKit Go.Lib in
theorem Tryz.strings_HasSuffix (s p:ByteArray)(w:World)(hs:s.size<=9223372036854775807) :
  Calls Tryz.prog 174 #[.string s,.string p] w fun e w'=>e=.returned (.bool (Lib.hasSuffix s.data.toList p.data.toList))/\w'=w:=Any.strings_HasSuffix Tryz.lays100 s p w hs
def Tryz.qp:Go.Shelf.Ren:=⟨fun | 101=>339 | 208=>343 | 206=>342 | n=>n,fun | 9=>9 | 4=>4 | 3=>3 | n=>n,fun | n=>n⟩
theorem Tryz.lays101:Go.Proofs.Lays.n101 Tryz.prog Tryz.qp:=YtgnaiidgjmicaaaGreatDoor.zl
open Go.RowKit Go.Lib in
theorem Tryz.strings_TrimPrefix (s p:ByteArray)(w:World) :
  Calls Tryz.prog 339 #[.string s,.string p] w fun e w'=>e=.returned (.string ⟨(Lib.trimPrefix s.data.toList p.data.toList).toArray⟩)/\w'=w:=Any.strings_TrimPrefix Tryz.lays101 s p w
def Tryz.qq:Go.Shelf.Ren:=⟨fun | 146=>204 | 221=>236 | 268=>268 | 138=>269 | 143=>270 | 195=>292 | 197=>264 | 218=>293 | 219=>196 | 260=>291 | 217=>225 | 225=>226 | 224=>227 | 267=>228 | 266=>262 | 314=>263 | n=>n,fun | 9=>9 | 31=>40 | 3=>3 | 4=>4 | 0=>0 | 105=>302 | 21=>21 | 5=>5 | 46=>205 | 119=>333 | 139=>336 | 138=>335 | 146=>300 | 51=>299 | n=>n,fun | 1=>0 | 3=>4 | 4=>5 | n=>n⟩
theorem Tryz.lays146:Go.Proofs.Lays.n146 Tryz.prog Tryz.qq:=YtgnaiidgjmicaaaGreatDoor.zl
open Go.RowKit Go.Lib in
theorem Tryz.strings_Split (s sep:ByteArray)(m:Int)(w:World)(hs:s.size<4294967281)(hm:w.cell? ⟨0,0,none⟩=some (.int .i64 m))(h1:1<=sep.size) :
  Calls Tryz.prog 204 #[.string s,.string sep] w fun e w' =>
   e=.returned (.slice (some ⟨w.heap.size,0,none⟩) (Lib.countB s sep+1) (Lib.countB s sep+1))/\w'=w.alloc (.cells ((Lib.splitB sep 0 (Lib.countB s sep) s).map Value.string).toArray 9):=Any.strings_Split Tryz.lays146 (by kernel_rfl) s sep m w hs hm h1
def Tryz.qt:Go.Shelf.Ren:=⟨fun | 147=>274 | 221=>236 | 268=>268 | 138=>269 | 143=>270 | 195=>292 | 197=>264 | 218=>293 | 219=>196 | 260=>291 | 217=>225 | 225=>226 | 224=>227 | 267=>228 | 266=>262 | 314=>263 | n=>n,fun | 9=>9 | 3=>3 | 31=>40 | 4=>4 | 0=>0 | 105=>302 | 21=>21 | 5=>5 | 46=>205 | 119=>333 | 139=>336 | 138=>335 | 146=>300 | 51=>299 | n=>n,fun | 1=>0 | 3=>4 | 4=>5 | n=>n⟩
theorem Tryz.lays147:Go.Proofs.Lays.n147 Tryz.prog Tryz.qt:=YtgnaiidgjmicaaaGreatDoor.zl
open Go.RowKit Go.Lib in
theorem Tryz.strings_SplitN (s sep:ByteArray)(n:Nat)(m:Int)(w:World)(hs:s.size<4294967281)(hm:w.cell? ⟨0,0,none⟩=some (.int .i64 m))(h1:1<=sep.size)(hn:1<=n)(hn63:n<=9223372036854775807) :
  Calls Tryz.prog 274 #[.string s,.string sep,.int .i64 n] w fun e w' =>
   e=.returned (.slice (some ⟨w.heap.size,0,none⟩) (Lib.splitB sep 0 (min n (s.size+1)-1) s).length (min n (s.size+1)))/\w'=w.alloc (.cells (Lib.cellsOf (Lib.splitB sep 0 (min n (s.size+1)-1) s) (min n (s.size+1))) 9):=Any.strings_SplitN Tryz.lays147 (by kernel_rfl) s sep n m w hs hm h1 hn hn63
def Tryz.qu:Go.Shelf.Ren:=⟨fun | 152=>233 | 137=>266 | 119=>267 | 224=>227 | 225=>226 | 217=>225 | 266=>262 | n=>n,fun | 9=>9 | 21=>21 | 3=>3 | 4=>4 | 5=>5 | 0=>0 | 46=>205 | n=>n,fun | n=>n⟩
theorem Tryz.lays152:Go.Proofs.Lays.n152 Tryz.prog Tryz.qu:=YtgnaiidgjmicaaaGreatDoor.zl
open Go.RowKit Go.Lib in
theorem Tryz.strings_IndexRune_ascii (s:ByteArray)(r:Int)(w:World)(h0:0<=r)(h1:r<128) :
  Calls Tryz.prog 233 #[.string s,.int .i32 r] w fun e w'=>e=.returned (.int .i64 (Lib.indexByte s.data.toList r.toNat.toUInt8))/\w'=w:=Any.strings_IndexRune_ascii Tryz.lays152 s r w h0 h1
def Tryz.qv:Go.Shelf.Ren:=⟨fun | 226=>234 | n=>n,fun | 3=>3 | 4=>4 | n=>n,fun | n=>n⟩
theorem Tryz.lays226:Go.Proofs.Lays.n226 Tryz.prog Tryz.qv:=YtgnaiidgjmicaaaGreatDoor.zl
open Go.RowKit Go.Lib in
theorem Tryz.strings_shouldUseASCIISet (n:Int)(w:World) :
  Calls Tryz.prog 234 #[.int .i64 n] w fun e w'=>e=.returned (.bool (decide (8<n)))/\w'=w:=Any.strings_shouldUseASCIISet Tryz.lays226 n w
def Tryz.qw:Go.Shelf.Ren:=⟨fun | 153=>199 | 152=>233 | 226=>234 | 227=>230 | 228=>235 | 137=>266 | 119=>267 | 224=>227 | 225=>226 | 217=>225 | 266=>262 | n=>n,fun | 9=>9 | 3=>3 | 4=>4 | 5=>5 | 21=>21 | 117=>274 | 116=>273 | 0=>0 | 46=>205 | 124=>277 | n=>n,fun | n=>n⟩
theorem Tryz.lays153:Go.Proofs.Lays.n153 Tryz.prog Tryz.qw:=YtgnaiidgjmicaaaGreatDoor.zl
open Go.RowKit Go.Lib in
theorem Tryz.strings_IndexAny_long (hv116:∀ w,(zeroValue 273).run Tryz.prog w=.ok (.agg (Array.replicate 256 (.bool false))) w)(s chars:ByteArray)(w:World)(h2:2<=chars.size)(h8:8<s.size)(hs:s.size<4294967281)(hcs:chars.size<4294967281)(hascii:∀ (j:Nat) b,chars.data.toList[j]?=some b->b.toNat<128) :
  Calls Tryz.prog 199 #[.string s,.string chars] w fun e w'=>e=.returned (.int .i64 (Lib.indexAny s.data.toList chars.data.toList))/\w'=((w.alloc (.cells (Lib.setCells chars.data.toList) 273)).alloc (.cells (Lib.setCells chars.data.toList) 273)):=Any.strings_IndexAny_long Tryz.lays153 hv116 (by kernel_rfl) s chars w h2 h8 hs hcs hascii
open Go.RowKit Go.Lib in
theorem Tryz.strings_IndexAny_laid (s chars:ByteArray)(w:World)(hs:s.size<4294967281)(hcs:chars.size<4294967281)(has:∀ (j:Nat) b,s.data.toList[j]?=some b->b.toNat<128)(hac:∀ (j:Nat) b,chars.data.toList[j]?=some b->b.toNat<128) :
  Calls Tryz.prog 199 #[.string s,.string chars] w fun e w'=>e=.returned (.int .i64 (Lib.indexAny s.data.toList chars.data.toList))/\Below w.heap.size w w':=Any.strings_IndexAny_laid Tryz.lays153 (by kernel_rfl) s chars w hs hcs has hac
def Tryz.qx:Go.Shelf.Ren:=⟨fun | 194=>50 | n=>n,fun | 31=>40 | 9=>9 | 3=>3 | 4=>4 | 0=>0 | n=>n,fun | n=>n⟩
theorem Tryz.lays194:Go.Proofs.Lays.n194 Tryz.prog Tryz.qx:=YtgnaiidgjmicaaaGreatDoor.zl
open Go.RowKit Go.Lib Go.Sort in
theorem Tryz.slices_Compact_string (blk off cap:Nat)(zs:List (List UInt8))(w:World)(hH:Holds encStr w blk off zs.toArray)(hsz:zs.length<=9223372036854775807)(hcap:zs.length<=cap) :
  Calls Tryz.prog 50 #[.slice (some ⟨blk,off,none⟩) zs.length cap] w fun e w'=>e=.returned (.slice (some ⟨blk,off,none⟩) (Lib.compact zs).length cap)/\∃ q,w'=putRow encStr (Sort.ahead w q) blk off (Lib.compact zs++List.replicate (zs.length-(Lib.compact zs).length) []).toArray:=Any.slices_Compact_string Tryz.lays194 blk off cap zs w hH hsz hcap
open Go.RowKit Go.Lib Go.Sort in
theorem Tryz.slices_Compact_string_empty (a:Option Addr)(cap:Nat)(w:World) :
  Calls Tryz.prog 50 #[.slice a 0 cap] w fun e w'=>e=.returned (.slice a 0 cap)/\w'=w:=Any.slices_Compact_string_empty Tryz.lays194 a cap w
end Go.Proofs
namespace Go.Proofs.YtgnaiidgjmicaaaGreatDoor
section
open Go.RowKit
theorem rE (c:UInt8):(c.toNat:Int)<256:=by have:=c.toNat_lt;omega
theorem byte_at (l:List UInt8)(i:Nat)(h:i<l.length):∃ c,({ data:=l.toArray }:ByteArray)[i]'(by rw[ByteArray.size_mk'];simpa using h)=c/\l[i]=c:=⟨l[i],rfl,rfl⟩
abbrev pan (n:Int):Ending:=.panicked [{ v:=.iface 77 (.int .i64 n),recovered:=false }]
def okOr (b:Bool) (n:Int):Ending:=if b then .returned (.tuple #[]) else pan n
theorem i5 (b:Bool)(n:Int)(w:World) :
  Calls Tryz.prog 70 #[.bool b,.int .i64 n] w fun e w'=>e=okOr b n/\w=w':=by
 have aa:∀ (x:Bool) (w:World),(Op.unary .not (.bool x)).run Tryz.prog w=.ok (.bool (!x)) w:=fun _ _=>rfl
 cases b
 ·go_enter Tryz.func70,Tryz.ntmps70
  go_wp2
  exact⟨rfl,rfl,rfl⟩
 ·go_enter Tryz.func70,Tryz.ntmps70
  go_wp2
  go_end0
  exact⟨rfl,rfl⟩
theorem ah {n:Int}(w:World):Calls Tryz.prog 70 #[.bool true,.int .i64 n] w fun e w'=>e=.returned (.tuple #[])/\w=w':=i5 true n w
theorem ai {n:Int}(w:World):Calls Tryz.prog 70 #[.bool false,.int .i64 n] w fun e w'=>e=pan n/\w=w':=i5 false n w
theorem aaf (p q:UInt8->Bool)(h:∀ n,n<256->p (UInt8.ofNat n)=q (UInt8.ofNat n))(c:UInt8):p c=q c:=by
 have:=h c.toNat c.toNat_lt
 simpa using this
theorem js {a b l:List UInt8}(h:a++b=l):l.take a.length=a:=by subst h;simp
theorem oh {a b l:List UInt8}(h:a++b=l):l.drop a.length=b:=by subst h;simp
theorem yH (p:UInt8->Bool)(l:List UInt8):(l.takeWhile p).length<=l.length:=by
 have h:l.takeWhile p++l.dropWhile p=l:=List.takeWhile_append_dropWhile
 have:=congrArg List.length h;rw[List.length_append] at this;omega
theorem rF (p:UInt8->Bool)(l:List UInt8):l.take (l.takeWhile p).length=l.takeWhile p:=js List.takeWhile_append_dropWhile
theorem yY (p:UInt8->Bool)(l:List UInt8):l.drop (l.takeWhile p).length=l.dropWhile p:=oh List.takeWhile_append_dropWhile
theorem yZ (l:List UInt8)(c:UInt8):Vm.has c l=true↔(Vm.fst c l).length<l.length:=by
 unfold Vm.has Vm.fst
 induction l with
 | nil=>simp
 | cons b l ih =>
  rw[List.takeWhile_cons]
  by_cases hb:b=c
  ·simp[hb]
  ·have:(b != c)=true:=by simp[hb]
   simp only[this,if_true,List.length_cons,List.contains_cons]
   have h2:(c==b)=false:=by simp;exact fun h=>hb h.symm
   rw[h2,Bool.false_or,ih];omega
theorem oj (l:List UInt8)(c:UInt8):(Vm.fst c l).length<=l.length:=yH _ l
def strLen:Value->Nat | .string s=>s.data.size | _=>0
theorem cy {o:Int}(w:World) :
  Calls Tryz.prog 63 #[.nilIface,.int .i64 o] w fun e w'=>e=.returned (.tuple #[.int .i64 0,.int .i64 0])/\w=w':=by
 go_enter Tryz.func63,Tryz.ntmps63
 go_wp2_with fail
 go_ret2
 exact⟨rfl,rfl⟩
theorem ev (n:Int){o:Int}(w:World) :
  Calls Tryz.prog 63 #[.iface 77 (.int .i64 n),.int .i64 o] w fun e w'=>e=.returned (.tuple #[.int .i64 0,.int .i64 n])/\w=w':=by
 have aa:∀ W:World,(Instr.typeAssert (.iface 77 (.int .i64 n)) 20 77 true).run Tryz.prog W=.ok (.tuple #[.int .i64 n,.bool true]) W:=fun _=>by kernel_rfl
 go_enter Tryz.func63,Tryz.ntmps63
 go_wp2_with fail
 go_ret2
 exact⟨rfl,rfl⟩
theorem da {o:Int}(w:World) :
  Calls Tryz.prog 66 #[.nilIface,.int .i64 o] w fun e w'=>e=.returned (.int .i64 0)/\w=w':=by
 go_enter Tryz.func66,Tryz.ntmps66
 go_wp2_with fail
 refine (cy _).mono ?_
 rintro _ w' ⟨rfl,rfl⟩
 go_wp2_with fail
 go_ret
 exact⟨rfl,rfl⟩
theorem db (n:Int){o:Int}(w:World) :
  Calls Tryz.prog 66 #[.iface 77 (.int .i64 n),.int .i64 o] w fun e w'=>e=.returned (.int .i64 n)/\w=w':=by
 go_enter Tryz.func66,Tryz.ntmps66
 go_wp2_with fail
 refine (ev n _).mono ?_
 rintro _ w' ⟨rfl,rfl⟩
 go_wp2_with fail
 go_ret
 exact⟨rfl,rfl⟩
def MaxOk (w:World):Prop:=∃ m:Int,w.cell? ⟨0,0,none⟩=some (.int .i64 m)
theorem wI {w:World}(h:MaxOk w):0<w.heap.size:=by
 obtain⟨m,h⟩:=h
 exact World.block_lt_of_cell? w _ h
theorem ab {w w':World}(h:MaxOk w)(hb:Below w.heap.size w w'):MaxOk w':=by
 have aa:=wI h
 obtain⟨m,h⟩:=h
 exact⟨m,(hb.cell aa).trans h⟩
theorem ui (l:List UInt8)(c:UInt8):Lib.index l [c]=if Vm.has c l then ((Vm.fst c l).length:Int) else -1:=by
 unfold Vm.has Vm.fst
 induction l with
 | nil=>rfl
 | cons b l ih =>
  unfold Lib.index
  rw[List.takeWhile_cons,List.contains_cons]
  by_cases hb:c=b
  ·subst hb;simp
  ·have h1:(c==b)=false:=by simp[hb]
   have h2:(b != c)=true:=by simp;exact fun h=>hb h.symm
   simp only[List.isPrefixOf,h1,Bool.false_and,Bool.false_eq_true,if_false,Bool.false_or,h2,if_true]
   rw[ih]
   cases hc:l.contains c
   ·simp
   ·simp only[if_true,List.length_cons]
    rw[if_neg (by simp)];omega
theorem lB (l:List UInt8)(c:UInt8):Lib.cut l [c]=if Vm.has c l then (Vm.fst c l,Vm.snd c l,true) else (l,[],false):=by
 unfold Lib.cut
 rw[ui]
 cases hc:Vm.has c l
 ·simp
 ·simp only[if_true]
  rw[if_pos (by omega)]
  have e1:((Vm.fst c l).length:Int).toNat=(Vm.fst c l).length:=by omega
  rw[e1]
  have h2:l.drop ((Vm.fst c l).length+[c].length)=Vm.snd c l:=by
   rw[<-List.drop_drop]
   unfold Vm.snd Vm.fst
   rw[yY];rfl
  rw[h2,show l.take (Vm.fst c l).length=Vm.fst c l from rF _ l]
theorem bg (w w1:World)(T:TypeId)(x:Value)(hb:Below (w.heap.size+1) (w.alloc (.cells #[x] T)) w1):w1.cell? ⟨w.heap.size,0,none⟩=some x/\w1.frozen? ⟨w.heap.size,0,none⟩=false:=by
 have h:w1.heap[w.heap.size]?=some (.cells #[x] T (0,0)):=(hb.block _ (Nat.lt_succ_self _)).trans (heap_alloc_new w _)
 exact⟨cell_of_one h,free_of_one h⟩
theorem aW {w w1:World}{o:Obj}(h:Below (w.heap.size+1) (w.alloc o) w1):Below w.heap.size w w1:=((Below.refl _ _).alloc (Nat.le_refl _) _).trans (h.mono (Nat.le_succ _))
theorem aa {w W1:World}{o:Obj}(h:w.alloc o=W1):Below w.heap.size w W1:=by rw[<-h];exact (Below.refl _ _).alloc (Nat.le_refl _) _
theorem bF {w W1 u:World}{a b:Value}{T:TypeId}(h1:w.alloc (.cells #[a,b] T)=W1)(hb:Below W1.heap.size W1 u) :
  u.cell? ⟨w.heap.size,0,none⟩=some a/\u.cell? ⟨w.heap.size,1,none⟩=some b/\u.frozen? ⟨w.heap.size,0,none⟩=false/\u.frozen? ⟨w.heap.size,1,none⟩=false:=by
 subst h1
 have h:u.heap[w.heap.size]?=some (.cells #[a,b] T (0,0)):=(hb.block _ (by simp)).trans (heap_alloc_new w _)
 refine⟨?_,?_,?_,?_⟩ <;> simp[World.cell?,World.frozen?,h]
attribute [local go_sem ↓] Go.wp_at_zero Go.wp_at_succ
theorem aQ (v:List UInt8)(w:World)(hv:v.length<=281474976710656):Calls Tryz.prog 49 #[.string ⟨v.toArray⟩] w fun e w'=>e=.returned (.string ⟨v.toArray⟩)/\Below w.heap.size w w':=by
 go_enter Tryz.func49,Tryz.ntmps49
 go_wp2_with fail
 refine (Tryz.stringslite_Clone ⟨v.toArray⟩ _ (by show v.toArray.size<=_;simpa using hv)).mono ?_
 rintro _ w1 ⟨rfl,hb⟩
 have HB:=zh hb
 clear hb
 go_wp2_with fail
 go_ret
 exact⟨rfl,HB.out⟩
end
namespace Rs
open Go.RowKit Go.ChangeShapes Go.WideShapes Go.Joins
theorem add_block (a:Addr)(n:Nat):(a.add n).block=a.block:=by unfold Addr.add;split <;> rfl
theorem bH {w:World}{a:Addr}{v:Value}(h:w.cell? a=some v):a.block<w.heap.size:=by
 rcases Nat.lt_or_ge a.block w.heap.size with h1 | h1
 ·exact h1
 ·unfold World.cell? at h
  rw[Array.getElem?_eq_none h1] at h
  cases h
end Rs
namespace Rg
open Go.RowKit Go.ChangeShapes Go.WideShapes
section
variable {α:Type} (enc:α->List Value) (K:Nat)
def flat (l:List α):List Value:=l.flatMap enc
theorem bG (l m:List α):flat enc (l++m)=flat enc l++flat enc m:=List.flatMap_append
theorem om (x:α):flat enc [x]=enc x:=by simp[flat]
structure Fits:Prop where
 len:∀ x,(enc x).length=K
 one:∀ x,∀ u∈enc x,u.oneCell'=true
variable {enc K}
theorem aV (h:Fits enc K):∀ l:List α,(flat enc l).length=l.length*K
 | []=>by simp[flat]
 | s :: l=>by
  show (enc s++flat enc l).length=_
  rw[List.length_append,aV h l,h.len,List.length_cons,Nat.add_mul];omega
theorem flat_get (h:Fits enc K):∀ (l:List α) (i:Nat) (hi:i<l.length) (j:Nat),j<K->(flat enc l)[i*K+j]?=(enc l[i])[j]?
 | [],_,hi,_,_=>absurd hi (by simp)
 | s :: l,0,_,j,hj=>by
  show (enc s++flat enc l)[0*K+j]?=_
  rw[Nat.zero_mul,Nat.zero_add,List.getElem?_append_left (by rw[h.len];exact hj)];rfl
 | s :: l,i+1,hi,j,hj=>by
  show (enc s++flat enc l)[(i+1)*K+j]?=_
  rw[List.getElem?_append_right (by rw[h.len,Nat.add_mul];omega),h.len,show (i+1)*K+j-K=i*K+j from by rw[Nat.add_mul];omega]
  exact flat_get h l i (by simpa using hi) j hj
theorem bd (h:Fits enc K)(l:List α):∀ u∈flat enc l,u.oneCell'=true:=fun u hu=>by
 obtain⟨x,_,hx⟩:=List.mem_flatMap.1 hu
 exact h.one x u hx
variable (enc K)
def At (w:World) (p:Addr) (x:α):Prop:=∀ j v,(enc x)[j]?=some v->w.cell? (if j=0 then p else ⟨p.block,p.off+j,none⟩)=some v
def Row (w:World) (A:Option Addr) (l:List α):Prop:=0<l.length->∃ a,A=some a/\a.block<w.heap.size/\∀ (i:Nat) (h:i<l.length),At enc w (a.add (i*K)) l[i]
def Own (w:World) (B:Nat) (T:TypeId) (v:Value) (l:List α):Prop:=w.ownsRow B T K v l.length (flat enc l)
variable {enc K}
theorem add_zero (a:Addr):a.add 0=a:=by unfold Addr.add;rfl
theorem eM (a:Addr)(m j:Nat):a.add (m+j)=if j=0 then a.add m else ⟨(a.add m).block,(a.add m).off+j,none⟩:=by
 by_cases hj:j=0
 ·subst hj;simp
 ·rw[if_neg hj]
  unfold Addr.add
  rw[if_neg (by omega)]
  by_cases hm:m=0
  ·subst hm;simp
  ·rw[if_neg hm];show (⟨_,_,_⟩:Addr)=⟨_,_,_⟩;rw[Nat.add_assoc]
theorem wJ {w w':World}{p:Addr}{x:α}(hp:p.block<w.heap.size)(h:At enc w p x)(hb:Below w.heap.size w w'):At enc w' p x:=fun j v hv=>by
 rw[hb.cell (by split <;> exact hp)];exact h j v hv
theorem ag {w w':World}{A:Option Addr}{l:List α}(h:Row enc K w A l)(hb:Below w.heap.size w w'):Row enc K w' A l:=fun h0=>by
 obtain⟨a,e,hl,hc⟩:=h h0
 exact⟨a,e,Nat.lt_of_lt_of_le hl hb.size,fun i hi=>wJ (by rw[Rs.add_block];exact hl) (hc i hi) hb⟩
theorem bu (w:World)(A:Option Addr):Row enc K w A ([]:List α):=fun h=>absurd h (by simp)
theorem bz {w:World}{A:Option Addr}{l:List α}(h:Row enc K w A l)(k:Nat)(hk:k<l.length):∃ ad x,A=some ad/\l[k]=x/\ad.block<w.heap.size/\At enc w (ad.add (k*K)) x:=by
 obtain⟨ad,e,hl,hc⟩:=h (by omega)
 exact⟨ad,_,e,rfl,hl,hc k hk⟩
theorem an (w:World)(B:Nat)(T:TypeId):Own enc K w B T (.slice none 0 0) ([]:List α):=World.ownsRow_nil w B T K
theorem au (hf:Fits enc K){w:World}{B:Nat}{T:TypeId}{v:Value}{l:List α}(h:Own enc K w B T v l):∃ A c,v=.slice A l.length c/\Row enc K w A l/\l.length<=c/\c<=maxLen:=by
 have h0:=h
 rcases h.2 with⟨rfl,h1⟩ | ⟨g,cap,cur,rfl,hb,hg,hn,hm,hs,ht⟩
 ·refine⟨none,0,by rw[h1],fun h2=>by omega,by omega,by unfold maxLen;omega⟩
 ·refine⟨_,_,rfl,fun h2=>⟨_,rfl,?_,fun i hi j v hv=>?_⟩,hn,hm⟩
  ·exact (Array.getElem?_eq_some_iff.1 hg).1
  ·have hc:=World.ownsRow.cells h0 (g:=g) rfl
   have hj:j<K:=by rw[<-hf.len l[i]];exact (List.getElem?_eq_some_iff.1 hv).1
   rw[<-eM]
   exact hc _ _ (by rw[flat_get hf l i hi j hj];exact hv)
theorem own_below {w w':World}{B:Nat}{T:TypeId}{v:Value}{l:List α}(h:Own enc K w B T v l)(hb:Below w.heap.size w w'):Own enc K w' B T v l:=by
 obtain⟨h1,h2⟩:=h
 refine⟨h1,?_⟩
 rcases h2 with h2 | ⟨g,cap,cur,e1,e2,e3,e4⟩
 ·exact Or.inl h2
 ·refine Or.inr ⟨g,cap,cur,e1,e2,?_,e4⟩
  rw[hb.block g ((Array.getElem?_eq_some_iff.1 e3).1)];exact e3
theorem aT {w:World}{B:Nat}{T:TypeId}{v:Value}{l:List α}(h:Own enc K w B T v l):∀ k,v.ownBlock=some k->B<=k/\k<w.heap.size:=World.ownsRow.lt h
theorem ak {w w':World}{B:Nat}{T:TypeId}{v:Value}{l:List α}(h:Own enc K w B T v l)(hB:B<=w.heap.size)(hg:w.grownBy w' v.ownBlock):Below B w w' :=
 (Below.refl B w).grown hg hB (fun k hk=>(aT h k hk).1)
end
end Rg
namespace Rg
open Go.RowKit Go.ChangeShapes Go.WideShapes
structure SliceT {α:Type} (P:Program) (enc:α->List Value) (K:Nat) (ST T:TypeId):Prop where
 fits:Fits enc K
 pos:0<K
 under:P.underlying ST=some (.slice T)
 info:∃ i z,P.info? T=some i/\i.zero=some z/\z.cells.size=K/\i.size=K/\i.bytes<=1000
theorem bw {P:Program}{T:TypeId}{z:Value}{K b:Nat}(h:(P.info? T).map (fun i=>(i.zero,i.size,i.bytes))=some (some z,K,b))(hz:z.cells.size=K)(hb:b<=1000) :
  ∃ i z,P.info? T=some i/\i.zero=some z/\z.cells.size=K/\i.size=K/\i.bytes<=1000:=by
 obtain⟨i0,hi,aa,ab,ac⟩:=info_parts h
 exact⟨i0,z,hi,aa,hz,ab,by omega⟩
section
variable {α:Type} {P:Program} {enc:α->List Value} {K:Nat} {ST T:TypeId} {w:World}
theorem bb (hT:SliceT P enc K ST T){ops:Array Oper}{rest:List Oper}{o:Oper}{a:Act}{Q:Exit->Act->World->Prop}(hgd:o.guard=none)(sl x:Operand)
  (ho:o.op=.call { callee:=.builtin .append,args:=#[sl,x],argTypes:=#[ST,ST] })
  (B:Nat) (v:Value) (l m:List α) (hs:a.eval sl=v) (hown:Own enc K w B T v l) (ad:Addr) (c:Nat) (hx:a.eval x=.slice (some ad) m.length c)
  (hnews:∀ j u,(flat enc m)[j]?=some u->w.cell? (ad.add j)=some u) (hm:0<m.length) (hsz:l.length+m.length<=1000000) (hB:B<=w.heap.size)
  (h:∀ v' w',Own enc K w' B T v' (l++m)->w.grownBy w' v.ownBlock->w.heap.size<=w'.heap.size->wpList P ops Q rest (a.put o.dst v') w'):wpList P ops Q (o :: rest) a w:=by
 obtain⟨i,z,hi,aa,ab,ac,hb⟩:=hT.info
 refine wpList_append_lies w hgd sl x ST ho B T i z K i.bytes hT.under hi aa ac rfl ab hT.pos v l.length (flat enc l) hs hown ad m.length c (flat enc m) hx (aV hT.fits m) hnews (bd hT.fits m) hm (by unfold maxLen;omega) (by
  have:(l.length+m.length)*i.bytes<=1000000*1000:=Nat.mul_le_mul hsz hb
  omega) hB _ rfl ?_
 intro g cap w' h1 h2 _ _
 refine h _ w' ?_ h2 h2.size
 unfold Own
 rw[bG,List.length_append]
 exact h1
theorem bT (hT:SliceT P enc K ST T){ops:Array Oper}{o:Oper}{a:Act}{G:Act->World->Prop}{Q:Exit->Act->World->Prop}{E:Prop}(hgd:o.guard=none)(sl x:Operand)
  (ho:o.op=.call { callee:=.builtin .append,args:=#[sl,x],argTypes:=#[ST,ST] })
  (B:Nat) (v:Value) (l m:List α) (hs:a.eval sl=v) (hown:Own enc K w B T v l) (ad:Addr) (c:Nat) (hx:a.eval x=.slice (some ad) m.length c)
  (hnews:∀ j u,(flat enc m)[j]?=some u->w.cell? (ad.add j)=some u) (hm:0<m.length) (hsz:l.length+m.length<=1000000) (hB:B<=w.heap.size)
  (h:∀ v' w',Own enc K w' B T v' (l++m)->w.grownBy w' v.ownBlock->w.heap.size<=w'.heap.size->G (a.put o.dst v') w'):if Region.wanted o (yielded ops a.tmps)=true then Oper.wp P o a w G Q else E:=by
 obtain⟨i,z,hi,aa,ab,ac,hb⟩:=hT.info
 refine step_append_lies w hgd sl x ST ho B T i z K i.bytes hT.under hi aa ac rfl ab hT.pos v l.length (flat enc l) hs hown ad m.length c (flat enc m) hx (aV hT.fits m) hnews (bd hT.fits m) hm (by unfold maxLen;omega) (by
  have:(l.length+m.length)*i.bytes<=1000000*1000:=Nat.mul_le_mul hsz hb
  omega) hB _ rfl ?_
 intro g cap w' h1 h2 _ _
 refine h _ w' ?_ h2 h2.size
 unfold Own
 rw[bG,List.length_append]
 exact h1
theorem aw (w:World)(T:TypeId)(m:List α)(cs:Array Value)(h:cs.toList=flat enc m):∀ j u,(flat enc m)[j]?=some u->(w.alloc (.cells cs T)).cell? ((⟨w.heap.size,0,none⟩:Addr).add j)=some u :=
 fun j u hu=>World.news_of_block (heap_alloc_new w _) j u (by rw[h];exact hu)
end
end Rg
section
open Go.RowKit Rs
attribute [local go_sem ↓] Go.wp_at_zero Go.wp_at_succ
abbrev Desc:=Option Addr × Nat × Nat
def encO (d:Desc):List Value:=[.slice d.1 d.2.1 d.2.2]
def encT (l:List UInt8):List Value:=[.string ⟨l.toArray⟩]
theorem fitsO:Rg.Fits encO 1:=⟨fun _=>rfl,fun x u hu=>by
 simp only[encO,List.mem_cons,List.not_mem_nil,or_false] at hu
 rcases hu with rfl;rfl⟩
theorem fitsT:Rg.Fits encT 1:=⟨fun _=>rfl,fun x u hu=>by
 simp only[encT,List.mem_cons,List.not_mem_nil,or_false] at hu
 rcases hu with rfl;rfl⟩
theorem sliceTx:Rg.SliceT Tryz.prog encT 1 40 9:=⟨fitsT,by decide,by kernel_rfl,Rg.bw (z:=.string ByteArray.empty) (b:=16) (by kernel_rfl) (by rfl) (by decide)⟩
theorem bq {α:Type}{enc:α->List Value}{K:Nat}{w w':World}{A:Option Addr}{l:List α}{row:Option Nat}(h:Rg.Row enc K w A l)(hg:w.grownBy w' row)(hne:0<l.length->∀ a,A=some a->row≠some a.block):Rg.Row enc K w' A l:=fun h0=>by
 obtain⟨a,e,hb,hc⟩:=h h0
 refine⟨a,e,Nat.lt_of_lt_of_le hb hg.size,fun i hi j v hv=>?_⟩
 have hn:some a.block≠row:=fun e2=>hne h0 a e e2.symm
 have hblk:(a.add (i*K)).block=a.block:=add_block _ _
 have hq:(if j=0 then a.add (i*K) else ⟨(a.add (i*K)).block,(a.add (i*K)).off+j,none⟩:Addr).block=a.block:=by split <;> exact hblk
 rw[hg.cell_far _ (by rw[hq];exact hb) (by rw[hq];exact hn)]
 exact hc i hi j v hv
theorem aF {α:Type}{l:List α}{x y:α}{i:Nat}(h:(l++[x])[i]?=some y):(i<l.length/\l[i]?=some y)\/(i=l.length/\y=x):=by
 by_cases hi:i<l.length
 ·rw[List.getElem?_append_left hi] at h;exact Or.inl ⟨hi,h⟩
 ·rw[List.getElem?_append_right (by omega)] at h
  by_cases h0:i-l.length=0
  ·rw[h0] at h;simp at h;exact Or.inr ⟨by omega,h.symm⟩
  ·obtain⟨k,hk⟩:∃ k,i-l.length=k+1:=⟨i-l.length-1,by omega⟩
   rw[hk] at h;simp at h
end
namespace Rg
open Go.RowKit Go.ChangeShapes Go.WideShapes
section
variable {α:Type} {P:Program} {enc:α->List Value} {K:Nat} {ST T:TypeId} {w:World}
theorem oo {B n cap:Nat}{A:Option Addr}{l:List α}(h:Own enc K w B T (.slice A n cap) l)(hl:0<l.length):∃ g,A=some ⟨g,0,none⟩/\B<=g/\g<w.heap.size/\(∀ j,w.frozen? ⟨g,j,none⟩=false):=by
 rcases h.2 with⟨_,h1⟩ | ⟨g,cp,cur,e,hb,hg,_⟩
 ·omega
 ·cases e
  refine⟨g,rfl,hb,(Array.getElem?_eq_some_iff.1 hg).1,fun j=>frozen_of_row w g j cur T hg⟩
end
end Rg
namespace Rg
section
variable {α:Type} {enc:α->List Value} {K:Nat} {w:World}
theorem wK {B B':Nat}{T:TypeId}{v:Value}{l:List α}(hB:B<=B')(h:Own enc K w B' T v l):Own enc K w B T v l:=by
 refine⟨h.1,?_⟩
 rcases h.2 with h2 | ⟨g,cap,cur,e,hb,h3⟩
 ·exact Or.inl h2
 ·exact Or.inr ⟨g,cap,cur,e,Nat.le_trans hB hb,h3⟩
end
end Rg
namespace Gr
open Go.RowKit Rs
section
variable {α:Type} (enc:α->List Value) (K:Nat)
def In (w:World) (ds:List Desc) (t:List (List α)):Prop:=ds.length=t.length/\∀ (i:Nat) (d:Desc) (l:List α),ds[i]?=some d->t[i]?=some l->d.2.1=l.length/\Rg.Row enc K w d.1 l
def Free (v:Value) (ds:List Desc) (t:List (List α)):Prop:=∀ (i:Nat) (d:Desc) (l:List α),ds[i]?=some d->t[i]?=some l->0<l.length->∀ a,d.1=some a->v.ownBlock≠some a.block
def Row (w:World) (A:Option Addr) (t:List (List α)):Prop:=∃ ds,Rg.Row encO 1 w A ds/\In enc K w ds t
variable {enc K}
theorem oq {w w':World}{ds:List Desc}{t:List (List α)}(h:In enc K w ds t)(hb:Below w.heap.size w w'):In enc K w' ds t:=⟨h.1,fun i d l h1 h2=>⟨(h.2 i d l h1 h2).1,Rg.ag (h.2 i d l h1 h2).2 hb⟩⟩
theorem ag {w w':World}{A:Option Addr}{t:List (List α)}(h:Row enc K w A t)(hb:Below w.heap.size w w'):Row enc K w' A t:=by
 obtain⟨ds,h1,h2⟩:=h;exact⟨ds,Rg.ag h1 hb,oq h2 hb⟩
end
end Gr
end Go.Proofs.YtgnaiidgjmicaaaGreatDoor
