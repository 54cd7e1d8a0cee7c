/- Part 4 of what the laws lean on. -/
import Derived.Test.YtpfkphmldalmmaaGreatDoorL90
import Derived.Test.YtpfkphmldalmmaaGreatDoorRows
import Derived.WalkSpells
import Derived.WalkLawsBesides
import Derived.Test.YtpfkphmldalmmaaGreatDoorL03
import Derived.BigQuiet
import Derived.Lib.BufferRead
import Derived.Deep.RegionHeld3
import Derived.Deep.DrawnRows
import Derived.Lib.SmallJoins
import Derived.Deep.AppendLies
import Derived.Deep.Upon
import Derived.Test.YtpfkphmldalmmaaGreatDoorL02
set_option maxRecDepth 100000
set_option maxHeartbeats 400000
namespace Go.Proofs.YtpfkphmldalmmaaGreatDoor
section
open Go.RowKit
theorem wC (c:UInt8):(c.toNat:Int)<256:=by have:=c.toNat_lt;omega
theorem byte_at (l:List UInt8)(i:Nat)(h:i<l.length):∃ c,({ data:=l.toArray }:ByteArray)[i]'(by rw[ByteArray.size_mk'];simpa using h)=c/\l[i]=c:=⟨l[i],rfl,rfl⟩
abbrev pan (n:Int):Ending:=.panicked [{ v:=.iface 36 (.int .i64 n),recovered:=false }]
def okOr (b:Bool) (n:Int):Ending:=if b then .returned (.tuple #[]) else pan n
theorem ml (b:Bool)(n:Int)(w:World) :
  Calls Tryz.prog 63 #[.bool b,.int .i64 n] w fun e w'=>e=okOr b n/\w=w':=by
 have aa:∀ (x:Bool) (w:World),(Op.unary .not (.bool x)).run Tryz.prog w=.ok (.bool (!x)) w:=fun _ _=>rfl
 cases b
 ·go_enter Tryz.func63,Tryz.ntmps63
  go_wp2
  exact⟨rfl,rfl,rfl⟩
 ·go_enter Tryz.func63,Tryz.ntmps63
  go_wp2
  go_end0
  exact⟨rfl,rfl⟩
theorem aj {n:Int}(w:World):Calls Tryz.prog 63 #[.bool true,.int .i64 n] w fun e w'=>e=.returned (.tuple #[])/\w=w':=ml true n w
theorem ao {n:Int}(w:World):Calls Tryz.prog 63 #[.bool false,.int .i64 n] w fun e w'=>e=pan n/\w=w':=ml false n w
theorem aei (p q:UInt8->Bool)(h:∀ n,n<256->p (UInt8.ofNat n)=q (UInt8.ofNat n))(c:UInt8):p c=q c:=by
 have:=h c.toNat c.toNat_lt
 simpa using this
theorem mK {a b l:List UInt8}(h:a++b=l):l.take a.length=a:=by subst h;simp
theorem sj {a b l:List UInt8}(h:a++b=l):l.drop a.length=b:=by subst h;simp
theorem po (p:UInt8->Bool):∀ (l:List UInt8) (k:Nat) (h:k<l.length),k<=(l.takeWhile p).length->(p l[k]=true↔k+1<=(l.takeWhile p).length)
 | [],k,h,_=>by simp at h
 | b :: l,k,h,hk=>by
  rw[List.takeWhile_cons] at hk ⊢
  cases hb:p b
  ·rw[hb] at hk
   have:k=0:=by simpa using hk
   subst this
   simp[hb]
  ·rw[hb] at hk
   cases k with
   | zero=>simp[hb]
   | succ k =>
    have ih:=po p l k (by simpa using h) (by simpa using hk)
    simpa using ih
theorem xB (p:UInt8->Bool)(l:List UInt8):(l.takeWhile p).length<=l.length:=by
 have h:l.takeWhile p++l.dropWhile p=l:=List.takeWhile_append_dropWhile
 have:=congrArg List.length h;rw[List.length_append] at this;omega
theorem lK (p:UInt8->Bool)(l:List UInt8):l.take (l.takeWhile p).length=l.takeWhile p:=mK List.takeWhile_append_dropWhile
theorem pq (p:UInt8->Bool)(l:List UInt8):l.drop (l.takeWhile p).length=l.dropWhile p:=sj List.takeWhile_append_dropWhile
theorem lL (l:List UInt8)(c:UInt8):Vm.has c l=true↔(Vm.fst c l).length<l.length:=by
 unfold Vm.has Vm.fst
 induction l with
 | nil=>simp
 | cons b l ih =>
  rw[List.takeWhile_cons]
  by_cases hb:b=c
  ·simp[hb]
  ·have:(b != c)=true:=by simp[hb]
   simp only[this,if_true,List.length_cons,List.contains_cons]
   have h2:(c==b)=false:=by simp;exact fun h=>hb h.symm
   rw[h2,Bool.false_or,ih];omega
theorem fb (l:List UInt8)(c:UInt8):(Vm.fst c l).length<=l.length:=xB _ l
def strLen:Value->Nat | .string s=>s.data.size | _=>0
theorem extract_from (m:List UInt8)(k:Nat):(⟨m.toArray⟩:ByteArray).extract k m.length=⟨(m.drop k).toArray⟩:=by
 rw[ByteArray.extract_mk,List.take_of_length_le (by simp)]
theorem jm (m:List UInt8)(k:Nat):(⟨m.toArray⟩:ByteArray).extract 0 k=⟨(m.take k).toArray⟩:=by
 rw[ByteArray.extract_mk,List.drop_zero,Nat.sub_zero]
theorem ez {o:Int}(w:World) :
  Calls Tryz.prog 47 #[.nilIface,.int .i64 o] w fun e w'=>e=.returned (.tuple #[.int .i64 0,.int .i64 0])/\w=w':=by
 go_enter Tryz.func47,Tryz.ntmps47
 go_wp2_with fail
 go_ret2
 exact⟨rfl,rfl⟩
theorem kp (n:Int){o:Int}(w:World) :
  Calls Tryz.prog 47 #[.iface 36 (.int .i64 n),.int .i64 o] w fun e w'=>e=.returned (.tuple #[.int .i64 0,.int .i64 n])/\w=w':=by
 have aa:∀ W:World,(Instr.typeAssert (.iface 36 (.int .i64 n)) 20 36 true).run Tryz.prog W=.ok (.tuple #[.int .i64 n,.bool true]) W:=fun _=>by kernel_rfl
 go_enter Tryz.func47,Tryz.ntmps47
 go_wp2_with fail
 go_ret2
 exact⟨rfl,rfl⟩
theorem cN {o:Int}(w:World) :
  Calls Tryz.prog 25 #[.nilIface,.int .i64 o] w fun e w'=>e=.returned (.int .i64 0)/\w=w':=by
 go_enter Tryz.func25,Tryz.ntmps25
 go_wp2_with fail
 refine (ez _).mono ?_
 rintro _ w' ⟨rfl,rfl⟩
 go_wp2_with fail
 go_ret
 exact⟨rfl,rfl⟩
theorem cO (n:Int){o:Int}(w:World) :
  Calls Tryz.prog 25 #[.iface 36 (.int .i64 n),.int .i64 o] w fun e w'=>e=.returned (.int .i64 n)/\w=w':=by
 go_enter Tryz.func25,Tryz.ntmps25
 go_wp2_with fail
 refine (kp n _).mono ?_
 rintro _ w' ⟨rfl,rfl⟩
 go_wp2_with fail
 go_ret
 exact⟨rfl,rfl⟩
def MaxOk (w:World):Prop:=∃ m:Int,w.cell? ⟨2,0,none⟩=some (.int .i64 m)
theorem abf {w:World}(h:MaxOk w):2<w.heap.size:=by
 obtain⟨m,h⟩:=h
 exact World.block_lt_of_cell? w _ h
theorem ah {w w':World}(h:MaxOk w)(hb:Below w.heap.size w w'):MaxOk w':=by
 have aa:=abf h
 obtain⟨m,h⟩:=h
 exact⟨m,(hb.cell aa).trans h⟩
theorem yT (l:List UInt8)(c:UInt8):Lib.index l [c]=if Vm.has c l then ((Vm.fst c l).length:Int) else -1:=by
 unfold Vm.has Vm.fst
 induction l with
 | nil=>rfl
 | cons b l ih =>
  unfold Lib.index
  rw[List.takeWhile_cons,List.contains_cons]
  by_cases hb:c=b
  ·subst hb;simp
  ·have h1:(c==b)=false:=by simp[hb]
   have h2:(b != c)=true:=by simp;exact fun h=>hb h.symm
   simp only[List.isPrefixOf,h1,Bool.false_and,Bool.false_eq_true,if_false,Bool.false_or,h2,if_true]
   rw[ih]
   cases hc:l.contains c
   ·simp
   ·simp only[if_true,List.length_cons]
    rw[if_neg (by simp)];omega
theorem pr (l:List UInt8)(c:UInt8):Lib.cut l [c]=if Vm.has c l then (Vm.fst c l,Vm.snd c l,true) else (l,[],false):=by
 unfold Lib.cut
 rw[yT]
 cases hc:Vm.has c l
 ·simp
 ·simp only[if_true]
  rw[if_pos (by omega)]
  have e1:((Vm.fst c l).length:Int).toNat=(Vm.fst c l).length:=by omega
  rw[e1]
  have h2:l.drop ((Vm.fst c l).length+[c].length)=Vm.snd c l:=by
   rw[<-List.drop_drop]
   unfold Vm.snd Vm.fst
   rw[pq];rfl
  rw[h2,show l.take (Vm.fst c l).length=Vm.fst c l from lK _ l]
theorem bw (w w1:World)(T:TypeId)(x:Value)(hb:Below (w.heap.size+1) (w.alloc (.cells #[x] T)) w1):w1.cell? ⟨w.heap.size,0,none⟩=some x/\w1.frozen? ⟨w.heap.size,0,none⟩=false:=by
 have h:w1.heap[w.heap.size]?=some (.cells #[x] T (0,0)):=(hb.block _ (Nat.lt_succ_self _)).trans (heap_alloc_new w _)
 exact⟨cell_of_one h,free_of_one h⟩
theorem bo {w w1:World}{o:Obj}(h:Below (w.heap.size+1) (w.alloc o) w1):Below w.heap.size w w1:=((Below.refl _ _).alloc (Nat.le_refl _) _).trans (h.mono (Nat.le_succ _))
theorem ai {w W1:World}{o:Obj}(h:w.alloc o=W1):Below w.heap.size w W1:=by rw[<-h];exact (Below.refl _ _).alloc (Nat.le_refl _) _
theorem cP {w W1 u:World}{a b:Value}{T:TypeId}(h1:w.alloc (.cells #[a,b] T)=W1)(hb:Below W1.heap.size W1 u) :
  u.cell? ⟨w.heap.size,0,none⟩=some a/\u.cell? ⟨w.heap.size,1,none⟩=some b/\u.frozen? ⟨w.heap.size,0,none⟩=false/\u.frozen? ⟨w.heap.size,1,none⟩=false:=by
 subst h1
 have h:u.heap[w.heap.size]?=some (.cells #[a,b] T (0,0)):=(hb.block _ (by simp)).trans (heap_alloc_new w _)
 refine⟨?_,?_,?_,?_⟩ <;> simp[World.cell?,World.frozen?,h]
attribute [local go_sem ↓] Go.wp_at_zero Go.wp_at_succ
theorem aV (v:List UInt8)(w:World)(hv:v.length<=281474976710656):Calls Tryz.prog 39 #[.string ⟨v.toArray⟩] w fun e w'=>e=.returned (.string ⟨v.toArray⟩)/\Below w.heap.size w w':=by
 go_enter Tryz.func39,Tryz.ntmps39
 go_wp2_with fail
 refine (Tryz.stringslite_Clone ⟨v.toArray⟩ _ (by show v.toArray.size<=_;simpa using hv)).mono ?_
 rintro _ w1 ⟨rfl,hb⟩
 have HB:=zh hb
 clear hb
 go_wp2_with fail
 go_ret
 exact⟨rfl,HB.out⟩
end
namespace Rs
open Go.RowKit Go.ChangeShapes Go.WideShapes Go.Joins
theorem add_block (a:Addr)(n:Nat):(a.add n).block=a.block:=by unfold Addr.add;split <;> rfl
theorem dv {w:World}{a:Addr}{v:Value}(h:w.cell? a=some v):a.block<w.heap.size:=by
 rcases Nat.lt_or_ge a.block w.heap.size with h1 | h1
 ·exact h1
 ·unfold World.cell? at h
  rw[Array.getElem?_eq_none h1] at h
  cases h
end Rs
namespace Rg
open Go.RowKit Go.ChangeShapes Go.WideShapes
section
variable {α:Type} (enc:α->List Value) (K:Nat)
def flat (l:List α):List Value:=l.flatMap enc
theorem eP (l m:List α):flat enc (l++m)=flat enc l++flat enc m:=List.flatMap_append
structure Fits:Prop where
 len:∀ x,(enc x).length=K
 one:∀ x,∀ u∈enc x,u.oneCell'=true
variable {enc K}
theorem dj (h:Fits enc K):∀ l:List α,(flat enc l).length=l.length*K
 | []=>by simp[flat]
 | s :: l=>by
  show (enc s++flat enc l).length=_
  rw[List.length_append,dj h l,h.len,List.length_cons,Nat.add_mul];omega
theorem flat_get (h:Fits enc K):∀ (l:List α) (i:Nat) (hi:i<l.length) (j:Nat),j<K->(flat enc l)[i*K+j]?=(enc l[i])[j]?
 | [],_,hi,_,_=>absurd hi (by simp)
 | s :: l,0,_,j,hj=>by
  show (enc s++flat enc l)[0*K+j]?=_
  rw[Nat.zero_mul,Nat.zero_add,List.getElem?_append_left (by rw[h.len];exact hj)];rfl
 | s :: l,i+1,hi,j,hj=>by
  show (enc s++flat enc l)[(i+1)*K+j]?=_
  rw[List.getElem?_append_right (by rw[h.len,Nat.add_mul];omega),h.len,show (i+1)*K+j-K=i*K+j from by rw[Nat.add_mul];omega]
  exact flat_get h l i (by simpa using hi) j hj
theorem cE (h:Fits enc K)(l:List α):∀ u∈flat enc l,u.oneCell'=true:=fun u hu=>by
 obtain⟨x,_,hx⟩:=List.mem_flatMap.1 hu
 exact h.one x u hx
variable (enc K)
def At (w:World) (p:Addr) (x:α):Prop:=∀ j v,(enc x)[j]?=some v->w.cell? (if j=0 then p else ⟨p.block,p.off+j,none⟩)=some v
def Row (w:World) (A:Option Addr) (l:List α):Prop:=0<l.length->∃ a,A=some a/\a.block<w.heap.size/\∀ (i:Nat) (h:i<l.length),At enc w (a.add (i*K)) l[i]
def Own (w:World) (B:Nat) (T:TypeId) (v:Value) (l:List α):Prop:=w.ownsRow B T K v l.length (flat enc l)
variable {enc K}
theorem add_zero (a:Addr):a.add 0=a:=by unfold Addr.add;rfl
theorem lM (a:Addr)(m j:Nat):a.add (m+j)=if j=0 then a.add m else ⟨(a.add m).block,(a.add m).off+j,none⟩:=by
 by_cases hj:j=0
 ·subst hj;simp
 ·rw[if_neg hj]
  unfold Addr.add
  rw[if_neg (by omega)]
  by_cases hm:m=0
  ·subst hm;simp
  ·rw[if_neg hm];show (⟨_,_,_⟩:Addr)=⟨_,_,_⟩;rw[Nat.add_assoc]
theorem abg {w w':World}{p:Addr}{x:α}(hp:p.block<w.heap.size)(h:At enc w p x)(hb:Below w.heap.size w w'):At enc w' p x:=fun j v hv=>by
 rw[hb.cell (by split <;> exact hp)];exact h j v hv
theorem ak {w w':World}{A:Option Addr}{l:List α}(h:Row enc K w A l)(hb:Below w.heap.size w w'):Row enc K w' A l:=fun h0=>by
 obtain⟨a,e,hl,hc⟩:=h h0
 exact⟨a,e,Nat.lt_of_lt_of_le hl hb.size,fun i hi=>abg (by rw[Rs.add_block];exact hl) (hc i hi) hb⟩
theorem wD (w:World)(A:Option Addr):Row enc K w A ([]:List α):=fun h=>absurd h (by simp)
theorem cW {w:World}{A:Option Addr}{l:List α}(h:Row enc K w A l)(k:Nat)(hk:k<l.length):∃ ad x,A=some ad/\l[k]=x/\ad.block<w.heap.size/\At enc w (ad.add (k*K)) x:=by
 obtain⟨ad,e,hl,hc⟩:=h (by omega)
 exact⟨ad,_,e,rfl,hl,hc k hk⟩
theorem aD (w:World)(B:Nat)(T:TypeId):Own enc K w B T (.slice none 0 0) ([]:List α):=World.ownsRow_nil w B T K
theorem aE (hf:Fits enc K){w:World}{B:Nat}{T:TypeId}{v:Value}{l:List α}(h:Own enc K w B T v l):∃ A c,v=.slice A l.length c/\Row enc K w A l/\l.length<=c/\c<=maxLen:=by
 have h0:=h
 rcases h.2 with⟨rfl,h1⟩ | ⟨g,cap,cur,rfl,hb,hg,hn,hm,hs,ht⟩
 ·refine⟨none,0,by rw[h1],fun h2=>by omega,by omega,by unfold maxLen;omega⟩
 ·refine⟨_,_,rfl,fun h2=>⟨_,rfl,?_,fun i hi j v hv=>?_⟩,hn,hm⟩
  ·exact (Array.getElem?_eq_some_iff.1 hg).1
  ·have hc:=World.ownsRow.cells h0 (g:=g) rfl
   have hj:j<K:=by rw[<-hf.len l[i]];exact (List.getElem?_eq_some_iff.1 hv).1
   rw[<-lM]
   exact hc _ _ (by rw[flat_get hf l i hi j hj];exact hv)
theorem own_below {w w':World}{B:Nat}{T:TypeId}{v:Value}{l:List α}(h:Own enc K w B T v l)(hb:Below w.heap.size w w'):Own enc K w' B T v l:=by
 obtain⟨h1,h2⟩:=h
 refine⟨h1,?_⟩
 rcases h2 with h2 | ⟨g,cap,cur,e1,e2,e3,e4⟩
 ·exact Or.inl h2
 ·refine Or.inr ⟨g,cap,cur,e1,e2,?_,e4⟩
  rw[hb.block g ((Array.getElem?_eq_some_iff.1 e3).1)];exact e3
theorem bD {w:World}{B:Nat}{T:TypeId}{v:Value}{l:List α}(h:Own enc K w B T v l):∀ k,v.ownBlock=some k->B<=k/\k<w.heap.size:=World.ownsRow.lt h
theorem aw {w w':World}{B:Nat}{T:TypeId}{v:Value}{l:List α}(h:Own enc K w B T v l)(hB:B<=w.heap.size)(hg:w.grownBy w' v.ownBlock):Below B w w' :=
 (Below.refl B w).grown hg hB (fun k hk=>(bD h k hk).1)
end
end Rg
namespace Rg
open Go.RowKit Go.ChangeShapes Go.WideShapes
structure SliceT {α:Type} (P:Program) (enc:α->List Value) (K:Nat) (ST T:TypeId):Prop where
 fits:Fits enc K
 pos:0<K
 under:P.underlying ST=some (.slice T)
 info:∃ i z,P.info? T=some i/\i.zero=some z/\z.cells.size=K/\i.size=K/\i.bytes<=1000
theorem bE {P:Program}{T:TypeId}{z:Value}{K b:Nat}(h:(P.info? T).map (fun i=>(i.zero,i.size,i.bytes))=some (some z,K,b))(hz:z.cells.size=K)(hb:b<=1000) :
  ∃ i z,P.info? T=some i/\i.zero=some z/\z.cells.size=K/\i.size=K/\i.bytes<=1000:=by
 obtain⟨i0,hi,aa,ab,ac⟩:=info_parts h
 exact⟨i0,z,hi,aa,hz,ab,by omega⟩
section
variable {α:Type} {P:Program} {enc:α->List Value} {K:Nat} {ST T:TypeId} {w:World}
theorem aO (hT:SliceT P enc K ST T){ops:Array Oper}{rest:List Oper}{o:Oper}{a:Act}{Q:Exit->Act->World->Prop}(hgd:o.guard=none)(sl x:Operand)
  (ho:o.op=.call { callee:=.builtin .append,args:=#[sl,x],argTypes:=#[ST,ST] })
  (B:Nat) (v:Value) (l m:List α) (hs:a.eval sl=v) (hown:Own enc K w B T v l) (ad:Addr) (c:Nat) (hx:a.eval x=.slice (some ad) m.length c)
  (hnews:∀ j u,(flat enc m)[j]?=some u->w.cell? (ad.add j)=some u) (hm:0<m.length) (hsz:l.length+m.length<=1000000) (hB:B<=w.heap.size)
  (h:∀ v' w',Own enc K w' B T v' (l++m)->w.grownBy w' v.ownBlock->w.heap.size<=w'.heap.size->wpList P ops Q rest (a.put o.dst v') w'):wpList P ops Q (o :: rest) a w:=by
 obtain⟨i,z,hi,aa,ab,ac,hb⟩:=hT.info
 refine wpList_append_lies w hgd sl x ST ho B T i z K i.bytes hT.under hi aa ac rfl ab hT.pos v l.length (flat enc l) hs hown ad m.length c (flat enc m) hx (dj hT.fits m) hnews (cE hT.fits m) hm (by unfold maxLen;omega) (by
  have:(l.length+m.length)*i.bytes<=1000000*1000:=Nat.mul_le_mul hsz hb
  omega) hB _ rfl ?_
 intro g cap w' h1 h2 _ _
 refine h _ w' ?_ h2 h2.size
 unfold Own
 rw[eP,List.length_append]
 exact h1
theorem bz (hT:SliceT P enc K ST T){ops:Array Oper}{o:Oper}{a:Act}{G:Act->World->Prop}{Q:Exit->Act->World->Prop}{E:Prop}(hgd:o.guard=none)(sl x:Operand)
  (ho:o.op=.call { callee:=.builtin .append,args:=#[sl,x],argTypes:=#[ST,ST] })
  (B:Nat) (v:Value) (l m:List α) (hs:a.eval sl=v) (hown:Own enc K w B T v l) (ad:Addr) (c:Nat) (hx:a.eval x=.slice (some ad) m.length c)
  (hnews:∀ j u,(flat enc m)[j]?=some u->w.cell? (ad.add j)=some u) (hm:0<m.length) (hsz:l.length+m.length<=1000000) (hB:B<=w.heap.size)
  (h:∀ v' w',Own enc K w' B T v' (l++m)->w.grownBy w' v.ownBlock->w.heap.size<=w'.heap.size->G (a.put o.dst v') w'):if Region.wanted o (yielded ops a.tmps)=true then Oper.wp P o a w G Q else E:=by
 obtain⟨i,z,hi,aa,ab,ac,hb⟩:=hT.info
 refine step_append_lies w hgd sl x ST ho B T i z K i.bytes hT.under hi aa ac rfl ab hT.pos v l.length (flat enc l) hs hown ad m.length c (flat enc m) hx (dj hT.fits m) hnews (cE hT.fits m) hm (by unfold maxLen;omega) (by
  have:(l.length+m.length)*i.bytes<=1000000*1000:=Nat.mul_le_mul hsz hb
  omega) hB _ rfl ?_
 intro g cap w' h1 h2 _ _
 refine h _ w' ?_ h2 h2.size
 unfold Own
 rw[eP,List.length_append]
 exact h1
theorem ay (w:World)(T:TypeId)(m:List α)(cs:Array Value)(h:cs.toList=flat enc m):∀ j u,(flat enc m)[j]?=some u->(w.alloc (.cells cs T)).cell? ((⟨w.heap.size,0,none⟩:Addr).add j)=some u :=
 fun j u hu=>World.news_of_block (heap_alloc_new w _) j u (by rw[h];exact hu)
end
end Rg
section
open Go.RowKit Rs
attribute [local go_sem ↓] Go.wp_at_zero Go.wp_at_succ
abbrev Desc:=Option Addr × Nat × Nat
def encO (d:Desc):List Value:=[.slice d.1 d.2.1 d.2.2]
def encT (l:List UInt8):List Value:=[.string ⟨l.toArray⟩]
theorem fitsO:Rg.Fits encO 1:=⟨fun _=>rfl,fun x u hu=>by
 simp only[encO,List.mem_cons,List.not_mem_nil,or_false] at hu
 rcases hu with rfl;rfl⟩
theorem fitsT:Rg.Fits encT 1:=⟨fun _=>rfl,fun x u hu=>by
 simp only[encT,List.mem_cons,List.not_mem_nil,or_false] at hu
 rcases hu with rfl;rfl⟩
theorem sliceTx:Rg.SliceT Tryz.prog encT 1 133 9:=⟨fitsT,by decide,by kernel_rfl,Rg.bE (z:=.string ByteArray.empty) (b:=16) (by kernel_rfl) (by rfl) (by decide)⟩
theorem dY {α:Type}{enc:α->List Value}{K:Nat}{w w':World}{A:Option Addr}{l:List α}{row:Option Nat}(h:Rg.Row enc K w A l)(hg:w.grownBy w' row)(hne:0<l.length->∀ a,A=some a->row≠some a.block):Rg.Row enc K w' A l:=fun h0=>by
 obtain⟨a,e,hb,hc⟩:=h h0
 refine⟨a,e,Nat.lt_of_lt_of_le hb hg.size,fun i hi j v hv=>?_⟩
 have hn:some a.block≠row:=fun e2=>hne h0 a e e2.symm
 have hblk:(a.add (i*K)).block=a.block:=add_block _ _
 have hq:(if j=0 then a.add (i*K) else ⟨(a.add (i*K)).block,(a.add (i*K)).off+j,none⟩:Addr).block=a.block:=by split <;> exact hblk
 rw[hg.cell_far _ (by rw[hq];exact hb) (by rw[hq];exact hn)]
 exact hc i hi j v hv
theorem aR {α:Type}{l:List α}{x y:α}{i:Nat}(h:(l++[x])[i]?=some y):(i<l.length/\l[i]?=some y)\/(i=l.length/\y=x):=by
 by_cases hi:i<l.length
 ·rw[List.getElem?_append_left hi] at h;exact Or.inl ⟨hi,h⟩
 ·rw[List.getElem?_append_right (by omega)] at h
  by_cases h0:i-l.length=0
  ·rw[h0] at h;simp at h;exact Or.inr ⟨by omega,h.symm⟩
  ·obtain⟨k,hk⟩:∃ k,i-l.length=k+1:=⟨i-l.length-1,by omega⟩
   rw[hk] at h;simp at h
end
namespace Gr
open Go.RowKit Rs
section
variable {α:Type} (enc:α->List Value) (K:Nat)
def In (w:World) (ds:List Desc) (t:List (List α)):Prop:=ds.length=t.length/\∀ (i:Nat) (d:Desc) (l:List α),ds[i]?=some d->t[i]?=some l->d.2.1=l.length/\Rg.Row enc K w d.1 l
def Free (v:Value) (ds:List Desc) (t:List (List α)):Prop:=∀ (i:Nat) (d:Desc) (l:List α),ds[i]?=some d->t[i]?=some l->0<l.length->∀ a,d.1=some a->v.ownBlock≠some a.block
def Row (w:World) (A:Option Addr) (t:List (List α)):Prop:=∃ ds,Rg.Row encO 1 w A ds/\In enc K w ds t
variable {enc K}
theorem abh {w w':World}{ds:List Desc}{t:List (List α)}(h:In enc K w ds t)(hb:Below w.heap.size w w'):In enc K w' ds t:=⟨h.1,fun i d l h1 h2=>⟨(h.2 i d l h1 h2).1,Rg.ak (h.2 i d l h1 h2).2 hb⟩⟩
end
end Gr
namespace Rs
open Go.RowKit Go.ChangeShapes Go.WideShapes Go.Joins
instance:Inhabited Sp:=⟨⟨[],[],false,false⟩⟩
def SpAt (w:World) (a:Addr) (s:Sp):Prop :=
 w.cell? (a.add 0)=some (.string ⟨s.lo.toArray⟩)/\w.cell? (a.add 1)=some (.string ⟨s.hi.toArray⟩)/\w.cell? (a.add 2)=some (.bool s.li)/\w.cell? (a.add 3)=some (.bool s.hn)
def SRow (w:World) (A:Option Addr) (l:List Sp):Prop:=0<l.length->∃ a,A=some a/\a.block<w.heap.size/\∀ (i:Nat) (h:i<l.length),SpAt w (a.add (i*4)) l[i]
theorem nG {α:Type}{cs:List α}{n:Nat}(hl:cs.length=4)(hn:n<4):(cs.drop n).take 1=[cs[n]'(by omega)]:=by
 rw[List.drop_eq_getElem_cons (by omega)];rfl
end Rs
namespace Rs
open Go.RowKit Go.ChangeShapes Go.WideShapes
def spC (s:Sp):List Value:=[.string ⟨s.lo.toArray⟩,.string ⟨s.hi.toArray⟩,.bool s.li,.bool s.hn]
def flat (l:List Sp):List Value:=l.flatMap spC
theorem qb (s:Sp)(l:List Sp):flat (s :: l)=spC s++flat l:=rfl
theorem flat_get:∀ (l:List Sp) (i:Nat) (h:i<l.length) (j:Nat),j<4->(flat l)[i*4+j]?=(spC l[i])[j]?
 | [],_,h,_,_=>absurd h (by simp)
 | s :: l,0,_,j,hj=>by
  rw[qb,List.getElem?_append_left (by show 0*4+j<4;omega),Nat.zero_mul,Nat.zero_add];rfl
 | s :: l,i+1,h,j,hj=>by
  rw[qb,List.getElem?_append_right (by show 4<=_;omega)]
  rw[show (i+1)*4+j-(spC s).length=i*4+j from by show (i+1)*4+j-4=_;omega]
  exact flat_get l i (by simpa using h) j hj
def SOwn (w:World) (B:Nat) (T:TypeId) (v:Value) (l:List Sp):Prop:=w.ownsRow B T 4 v l.length (flat l)
theorem so {w:World}{B:Nat}{T:TypeId}{v:Value}{l:List Sp}(h:SOwn w B T v l):∃ A c,v=.slice A l.length c/\SRow w A l:=by
 have h0:=h
 rcases h.2 with⟨rfl,h1⟩ | ⟨g,cap,cur,rfl,hb,hg,hn,hm,hs,ht⟩
 ·refine⟨none,0,by rw[h1],fun h2=>by omega⟩
 ·refine⟨_,_,rfl,fun h2=>⟨_,rfl,?_,fun i hi=>?_⟩⟩
  ·exact (Array.getElem?_eq_some_iff.1 hg).1
  ·have hc:=World.ownsRow.cells h0 (g:=g) rfl
   have key:∀ j u,j<4->(spC l[i])[j]?=some u->w.cell? (((⟨g,0,none⟩:Addr).add (i*4)).add j)=some u:=fun j u hj hu=>by
    rw[Go.Deep.add_add]
    exact hc _ _ (by rw[flat_get l i hi j hj];exact hu)
   exact⟨key 0 _ (by omega) rfl,key 1 _ (by omega) rfl,key 2 _ (by omega) rfl,key 3 _ (by omega) rfl⟩
theorem xC {w w':World}{a:Addr}{s:Sp}(h:SpAt w a s)(hb:Below w.heap.size w w'):SpAt w' a s:=by
 obtain⟨h0,h1,h2,h3⟩:=h
 exact⟨by rw[hb.cell (dv h0)];exact h0,by rw[hb.cell (dv h1)];exact h1,by rw[hb.cell (dv h2)];exact h2,by rw[hb.cell (dv h3)];exact h3⟩
theorem an {w w':World}{A:Option Addr}{l:List Sp}(h:SRow w A l)(hb:Below w.heap.size w w'):SRow w' A l:=fun h0=>by
 obtain⟨a,e,hl,hc⟩:=h h0
 exact⟨a,e,Nat.lt_of_lt_of_le hl hb.size,fun i hi=>xC (hc i hi) hb⟩
end Rs
end Go.Proofs.YtpfkphmldalmmaaGreatDoor
