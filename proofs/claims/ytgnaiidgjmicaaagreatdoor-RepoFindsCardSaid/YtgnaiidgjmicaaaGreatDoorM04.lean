/- Part 4 of what the laws lean on. -/
import Derived.Test.YtgnaiidgjmicaaaGreatDoorM90
import Derived.Test.YtgnaiidgjmicaaaGreatDoorRows
import Derived.WalkSpells
import Derived.WalkLawsBesides
import Derived.Test.YtgnaiidgjmicaaaGreatDoorM03
import Derived.BigQuiet
import Derived.Lib.BufferRead
import Derived.Deep.RegionHeld3
import Derived.Deep.DrawnRows
import Derived.Lib.SmallJoins
import Derived.Deep.AppendLies
import Derived.Deep.Upon
import Derived.Test.YtgnaiidgjmicaaaGreatDoorM02
set_option maxRecDepth 100000
set_option maxHeartbeats 800000
namespace Go.Proofs.YtgnaiidgjmicaaaGreatDoor
section
open Go.RowKit
theorem xn (c:UInt8):(c.toNat:Int)<256:=by have:=c.toNat_lt;omega
theorem byte_at (l:List UInt8)(i:Nat)(h:i<l.length):∃ c,({ data:=l.toArray }:ByteArray)[i]'(by rw[ByteArray.size_mk'];simpa using h)=c/\l[i]=c:=⟨l[i],rfl,rfl⟩
abbrev pan (n:Int):Ending:=.panicked [{ v:=.iface 77 (.int .i64 n),recovered:=false }]
def okOr (b:Bool) (n:Int):Ending:=if b then .returned (.tuple #[]) else pan n
theorem mb (b:Bool)(n:Int)(w:World) :
  Calls Tryz.prog 70 #[.bool b,.int .i64 n] w fun e w'=>e=okOr b n/\w=w':=by
 have aa:∀ (x:Bool) (w:World),(Op.unary .not (.bool x)).run Tryz.prog w=.ok (.bool (!x)) w:=fun _ _=>rfl
 cases b
 ·go_enter Tryz.func70,Tryz.ntmps70
  go_wp2
  exact⟨rfl,rfl,rfl⟩
 ·go_enter Tryz.func70,Tryz.ntmps70
  go_wp2
  go_end0
  exact⟨rfl,rfl⟩
theorem ak {n:Int}(w:World):Calls Tryz.prog 70 #[.bool true,.int .i64 n] w fun e w'=>e=.returned (.tuple #[])/\w=w':=mb true n w
theorem au {n:Int}(w:World):Calls Tryz.prog 70 #[.bool false,.int .i64 n] w fun e w'=>e=pan n/\w=w':=mb false n w
theorem afu (p q:UInt8->Bool)(h:∀ n,n<256->p (UInt8.ofNat n)=q (UInt8.ofNat n))(c:UInt8):p c=q c:=by
 have:=h c.toNat c.toNat_lt
 simpa using this
theorem mH {a b l:List UInt8}(h:a++b=l):l.take a.length=a:=by subst h;simp
theorem sN {a b l:List UInt8}(h:a++b=l):l.drop a.length=b:=by subst h;simp
theorem o8 (p:UInt8->Bool):∀ (l:List UInt8) (k:Nat) (h:k<l.length),k<=(l.takeWhile p).length->(p l[k]=true↔k+1<=(l.takeWhile p).length)
 | [],k,h,_=>by simp at h
 | b :: l,k,h,hk=>by
  rw[List.takeWhile_cons] at hk ⊢
  cases hb:p b
  ·rw[hb] at hk
   have:k=0:=by simpa using hk
   subst this
   simp[hb]
  ·rw[hb] at hk
   cases k with
   | zero=>simp[hb]
   | succ k =>
    have ih:=o8 p l k (by simpa using h) (by simpa using hk)
    simpa using ih
theorem yJ (p:UInt8->Bool)(l:List UInt8):(l.takeWhile p).length<=l.length:=by
 have h:l.takeWhile p++l.dropWhile p=l:=List.takeWhile_append_dropWhile
 have:=congrArg List.length h;rw[List.length_append] at this;omega
theorem lD (p:UInt8->Bool)(l:List UInt8):l.take (l.takeWhile p).length=l.takeWhile p:=mH List.takeWhile_append_dropWhile
theorem o9 (p:UInt8->Bool)(l:List UInt8):l.drop (l.takeWhile p).length=l.dropWhile p:=sN List.takeWhile_append_dropWhile
theorem lE (l:List UInt8)(c:UInt8):Vm.has c l=true↔(Vm.fst c l).length<l.length:=by
 unfold Vm.has Vm.fst
 induction l with
 | nil=>simp
 | cons b l ih =>
  rw[List.takeWhile_cons]
  by_cases hb:b=c
  ·simp[hb]
  ·have:(b != c)=true:=by simp[hb]
   simp only[this,if_true,List.length_cons,List.contains_cons]
   have h2:(c==b)=false:=by simp;exact fun h=>hb h.symm
   rw[h2,Bool.false_or,ih];omega
theorem fp (l:List UInt8)(c:UInt8):(Vm.fst c l).length<=l.length:=yJ _ l
def strLen:Value->Nat | .string s=>s.data.size | _=>0
theorem extract_from (m:List UInt8)(k:Nat):(⟨m.toArray⟩:ByteArray).extract k m.length=⟨(m.drop k).toArray⟩:=by
 rw[ByteArray.extract_mk,List.take_of_length_le (by simp)]
theorem jB (m:List UInt8)(k:Nat):(⟨m.toArray⟩:ByteArray).extract 0 k=⟨(m.take k).toArray⟩:=by
 rw[ByteArray.extract_mk,List.drop_zero,Nat.sub_zero]
theorem cJ {o:Int}(w:World) :
  Calls Tryz.prog 63 #[.nilIface,.int .i64 o] w fun e w'=>e=.returned (.tuple #[.int .i64 0,.int .i64 0])/\w=w':=by
 go_enter Tryz.func63,Tryz.ntmps63
 go_wp2_with fail
 go_ret2
 exact⟨rfl,rfl⟩
theorem eC (n:Int){o:Int}(w:World) :
  Calls Tryz.prog 63 #[.iface 77 (.int .i64 n),.int .i64 o] w fun e w'=>e=.returned (.tuple #[.int .i64 0,.int .i64 n])/\w=w':=by
 have aa:∀ W:World,(Instr.typeAssert (.iface 77 (.int .i64 n)) 20 77 true).run Tryz.prog W=.ok (.tuple #[.int .i64 n,.bool true]) W:=fun _=>by kernel_rfl
 go_enter Tryz.func63,Tryz.ntmps63
 go_wp2_with fail
 go_ret2
 exact⟨rfl,rfl⟩
theorem bT {o:Int}(w:World) :
  Calls Tryz.prog 66 #[.nilIface,.int .i64 o] w fun e w'=>e=.returned (.int .i64 0)/\w=w':=by
 go_enter Tryz.func66,Tryz.ntmps66
 go_wp2_with fail
 refine (cJ _).mono ?_
 rintro _ w' ⟨rfl,rfl⟩
 go_wp2_with fail
 go_ret
 exact⟨rfl,rfl⟩
theorem bU (n:Int){o:Int}(w:World) :
  Calls Tryz.prog 66 #[.iface 77 (.int .i64 n),.int .i64 o] w fun e w'=>e=.returned (.int .i64 n)/\w=w':=by
 go_enter Tryz.func66,Tryz.ntmps66
 go_wp2_with fail
 refine (eC n _).mono ?_
 rintro _ w' ⟨rfl,rfl⟩
 go_wp2_with fail
 go_ret
 exact⟨rfl,rfl⟩
def MaxOk (w:World):Prop:=∃ m:Int,w.cell? ⟨0,0,none⟩=some (.int .i64 m)
theorem acg {w:World}(h:MaxOk w):0<w.heap.size:=by
 obtain⟨m,h⟩:=h
 exact World.block_lt_of_cell? w _ h
theorem ag {w w':World}(h:MaxOk w)(hb:Below w.heap.size w w'):MaxOk w':=by
 have aa:=acg h
 obtain⟨m,h⟩:=h
 exact⟨m,(hb.cell aa).trans h⟩
theorem aae (l:List UInt8)(c:UInt8):Lib.index l [c]=if Vm.has c l then ((Vm.fst c l).length:Int) else -1:=by
 unfold Vm.has Vm.fst
 induction l with
 | nil=>rfl
 | cons b l ih =>
  unfold Lib.index
  rw[List.takeWhile_cons,List.contains_cons]
  by_cases hb:c=b
  ·subst hb;simp
  ·have h1:(c==b)=false:=by simp[hb]
   have h2:(b != c)=true:=by simp;exact fun h=>hb h.symm
   simp only[List.isPrefixOf,h1,Bool.false_and,Bool.false_eq_true,if_false,Bool.false_or,h2,if_true]
   rw[ih]
   cases hc:l.contains c
   ·simp
   ·simp only[if_true,List.length_cons]
    rw[if_neg (by simp)];omega
theorem pf (l:List UInt8)(c:UInt8):Lib.cut l [c]=if Vm.has c l then (Vm.fst c l,Vm.snd c l,true) else (l,[],false):=by
 unfold Lib.cut
 rw[aae]
 cases hc:Vm.has c l
 ·simp
 ·simp only[if_true]
  rw[if_pos (by omega)]
  have e1:((Vm.fst c l).length:Int).toNat=(Vm.fst c l).length:=by omega
  rw[e1]
  have h2:l.drop ((Vm.fst c l).length+[c].length)=Vm.snd c l:=by
   rw[<-List.drop_drop]
   unfold Vm.snd Vm.fst
   rw[o9];rfl
  rw[h2,show l.take (Vm.fst c l).length=Vm.fst c l from lD _ l]
theorem bj (w w1:World)(T:TypeId)(x:Value)(hb:Below (w.heap.size+1) (w.alloc (.cells #[x] T)) w1):w1.cell? ⟨w.heap.size,0,none⟩=some x/\w1.frozen? ⟨w.heap.size,0,none⟩=false:=by
 have h:w1.heap[w.heap.size]?=some (.cells #[x] T (0,0)):=(hb.block _ (Nat.lt_succ_self _)).trans (heap_alloc_new w _)
 exact⟨cell_of_one h,free_of_one h⟩
theorem bl {w w1:World}{o:Obj}(h:Below (w.heap.size+1) (w.alloc o) w1):Below w.heap.size w w1:=((Below.refl _ _).alloc (Nat.le_refl _) _).trans (h.mono (Nat.le_succ _))
theorem ai {w W1:World}{o:Obj}(h:w.alloc o=W1):Below w.heap.size w W1:=by rw[<-h];exact (Below.refl _ _).alloc (Nat.le_refl _) _
theorem cY {w W1 u:World}{a b:Value}{T:TypeId}(h1:w.alloc (.cells #[a,b] T)=W1)(hb:Below W1.heap.size W1 u) :
  u.cell? ⟨w.heap.size,0,none⟩=some a/\u.cell? ⟨w.heap.size,1,none⟩=some b/\u.frozen? ⟨w.heap.size,0,none⟩=false/\u.frozen? ⟨w.heap.size,1,none⟩=false:=by
 subst h1
 have h:u.heap[w.heap.size]?=some (.cells #[a,b] T (0,0)):=(hb.block _ (by simp)).trans (heap_alloc_new w _)
 refine⟨?_,?_,?_,?_⟩ <;> simp[World.cell?,World.frozen?,h]
attribute [local go_sem ↓] Go.wp_at_zero Go.wp_at_succ
theorem a6 (v:List UInt8)(w:World)(hv:v.length<=281474976710656):Calls Tryz.prog 49 #[.string ⟨v.toArray⟩] w fun e w'=>e=.returned (.string ⟨v.toArray⟩)/\Below w.heap.size w w':=by
 go_enter Tryz.func49,Tryz.ntmps49
 go_wp2_with fail
 refine (Tryz.stringslite_Clone ⟨v.toArray⟩ _ (by show v.toArray.size<=_;simpa using hv)).mono ?_
 rintro _ w1 ⟨rfl,hb⟩
 have HB:=zh hb
 clear hb
 go_wp2_with fail
 go_ret
 exact⟨rfl,HB.out⟩
end
namespace Rs
open Go.RowKit Go.ChangeShapes Go.WideShapes Go.Joins
theorem add_block (a:Addr)(n:Nat):(a.add n).block=a.block:=by unfold Addr.add;split <;> rfl
theorem cj {w:World}{a:Addr}{v:Value}(h:w.cell? a=some v):a.block<w.heap.size:=by
 rcases Nat.lt_or_ge a.block w.heap.size with h1 | h1
 ·exact h1
 ·unfold World.cell? at h
  rw[Array.getElem?_eq_none h1] at h
  cases h
end Rs
namespace Rg
open Go.RowKit Go.ChangeShapes Go.WideShapes
section
variable {α:Type} (enc:α->List Value) (K:Nat)
def flat (l:List α):List Value:=l.flatMap enc
theorem cG (l m:List α):flat enc (l++m)=flat enc l++flat enc m:=List.flatMap_append
theorem sO (x:α):flat enc [x]=enc x:=by simp[flat]
structure Fits:Prop where
 len:∀ x,(enc x).length=K
 one:∀ x,∀ u∈enc x,u.oneCell'=true
variable {enc K}
theorem bH (h:Fits enc K):∀ l:List α,(flat enc l).length=l.length*K
 | []=>by simp[flat]
 | s :: l=>by
  show (enc s++flat enc l).length=_
  rw[List.length_append,bH h l,h.len,List.length_cons,Nat.add_mul];omega
theorem flat_get (h:Fits enc K):∀ (l:List α) (i:Nat) (hi:i<l.length) (j:Nat),j<K->(flat enc l)[i*K+j]?=(enc l[i])[j]?
 | [],_,hi,_,_=>absurd hi (by simp)
 | s :: l,0,_,j,hj=>by
  show (enc s++flat enc l)[0*K+j]?=_
  rw[Nat.zero_mul,Nat.zero_add,List.getElem?_append_left (by rw[h.len];exact hj)];rfl
 | s :: l,i+1,hi,j,hj=>by
  show (enc s++flat enc l)[(i+1)*K+j]?=_
  rw[List.getElem?_append_right (by rw[h.len,Nat.add_mul];omega),h.len,show (i+1)*K+j-K=i*K+j from by rw[Nat.add_mul];omega]
  exact flat_get h l i (by simpa using hi) j hj
theorem bF (h:Fits enc K)(l:List α):∀ u∈flat enc l,u.oneCell'=true:=fun u hu=>by
 obtain⟨x,_,hx⟩:=List.mem_flatMap.1 hu
 exact h.one x u hx
variable (enc K)
def At (w:World) (p:Addr) (x:α):Prop:=∀ j v,(enc x)[j]?=some v->w.cell? (if j=0 then p else ⟨p.block,p.off+j,none⟩)=some v
def Row (w:World) (A:Option Addr) (l:List α):Prop:=0<l.length->∃ a,A=some a/\a.block<w.heap.size/\∀ (i:Nat) (h:i<l.length),At enc w (a.add (i*K)) l[i]
def Own (w:World) (B:Nat) (T:TypeId) (v:Value) (l:List α):Prop:=w.ownsRow B T K v l.length (flat enc l)
variable {enc K}
theorem add_zero (a:Addr):a.add 0=a:=by unfold Addr.add;rfl
theorem lF (a:Addr)(m j:Nat):a.add (m+j)=if j=0 then a.add m else ⟨(a.add m).block,(a.add m).off+j,none⟩:=by
 by_cases hj:j=0
 ·subst hj;simp
 ·rw[if_neg hj]
  unfold Addr.add
  rw[if_neg (by omega)]
  by_cases hm:m=0
  ·subst hm;simp
  ·rw[if_neg hm];show (⟨_,_,_⟩:Addr)=⟨_,_,_⟩;rw[Nat.add_assoc]
theorem ach {w w':World}{p:Addr}{x:α}(hp:p.block<w.heap.size)(h:At enc w p x)(hb:Below w.heap.size w w'):At enc w' p x:=fun j v hv=>by
 rw[hb.cell (by split <;> exact hp)];exact h j v hv
theorem aj {w w':World}{A:Option Addr}{l:List α}(h:Row enc K w A l)(hb:Below w.heap.size w w'):Row enc K w' A l:=fun h0=>by
 obtain⟨a,e,hl,hc⟩:=h h0
 exact⟨a,e,Nat.lt_of_lt_of_le hl hb.size,fun i hi=>ach (by rw[Rs.add_block];exact hl) (hc i hi) hb⟩
theorem xo (w:World)(A:Option Addr):Row enc K w A ([]:List α):=fun h=>absurd h (by simp)
theorem cK {w:World}{A:Option Addr}{l:List α}(h:Row enc K w A l)(k:Nat)(hk:k<l.length):∃ ad x,A=some ad/\l[k]=x/\ad.block<w.heap.size/\At enc w (ad.add (k*K)) x:=by
 obtain⟨ad,e,hl,hc⟩:=h (by omega)
 exact⟨ad,_,e,rfl,hl,hc k hk⟩
theorem aB (w:World)(B:Nat)(T:TypeId):Own enc K w B T (.slice none 0 0) ([]:List α):=World.ownsRow_nil w B T K
theorem aF (hf:Fits enc K){w:World}{B:Nat}{T:TypeId}{v:Value}{l:List α}(h:Own enc K w B T v l):∃ A c,v=.slice A l.length c/\Row enc K w A l/\l.length<=c/\c<=maxLen:=by
 have h0:=h
 rcases h.2 with⟨rfl,h1⟩ | ⟨g,cap,cur,rfl,hb,hg,hn,hm,hs,ht⟩
 ·refine⟨none,0,by rw[h1],fun h2=>by omega,by omega,by unfold maxLen;omega⟩
 ·refine⟨_,_,rfl,fun h2=>⟨_,rfl,?_,fun i hi j v hv=>?_⟩,hn,hm⟩
  ·exact (Array.getElem?_eq_some_iff.1 hg).1
  ·have hc:=World.ownsRow.cells h0 (g:=g) rfl
   have hj:j<K:=by rw[<-hf.len l[i]];exact (List.getElem?_eq_some_iff.1 hv).1
   rw[<-lF]
   exact hc _ _ (by rw[flat_get hf l i hi j hj];exact hv)
theorem own_below {w w':World}{B:Nat}{T:TypeId}{v:Value}{l:List α}(h:Own enc K w B T v l)(hb:Below w.heap.size w w'):Own enc K w' B T v l:=by
 obtain⟨h1,h2⟩:=h
 refine⟨h1,?_⟩
 rcases h2 with h2 | ⟨g,cap,cur,e1,e2,e3,e4⟩
 ·exact Or.inl h2
 ·refine Or.inr ⟨g,cap,cur,e1,e2,?_,e4⟩
  rw[hb.block g ((Array.getElem?_eq_some_iff.1 e3).1)];exact e3
theorem bw {w:World}{B:Nat}{T:TypeId}{v:Value}{l:List α}(h:Own enc K w B T v l):∀ k,v.ownBlock=some k->B<=k/\k<w.heap.size:=World.ownsRow.lt h
theorem aA {w w':World}{B:Nat}{T:TypeId}{v:Value}{l:List α}(h:Own enc K w B T v l)(hB:B<=w.heap.size)(hg:w.grownBy w' v.ownBlock):Below B w w' :=
 (Below.refl B w).grown hg hB (fun k hk=>(bw h k hk).1)
end
end Rg
namespace Rg
open Go.RowKit Go.ChangeShapes Go.WideShapes
structure SliceT {α:Type} (P:Program) (enc:α->List Value) (K:Nat) (ST T:TypeId):Prop where
 fits:Fits enc K
 pos:0<K
 under:P.underlying ST=some (.slice T)
 info:∃ i z,P.info? T=some i/\i.zero=some z/\z.cells.size=K/\i.size=K/\i.bytes<=1000
theorem b8 {P:Program}{T:TypeId}{z:Value}{K b:Nat}(h:(P.info? T).map (fun i=>(i.zero,i.size,i.bytes))=some (some z,K,b))(hz:z.cells.size=K)(hb:b<=1000) :
  ∃ i z,P.info? T=some i/\i.zero=some z/\z.cells.size=K/\i.size=K/\i.bytes<=1000:=by
 obtain⟨i0,hi,aa,ab,ac⟩:=info_parts h
 exact⟨i0,z,hi,aa,hz,ab,by omega⟩
section
variable {α:Type} {P:Program} {enc:α->List Value} {K:Nat} {ST T:TypeId} {w:World}
theorem aN (hT:SliceT P enc K ST T){ops:Array Oper}{rest:List Oper}{o:Oper}{a:Act}{Q:Exit->Act->World->Prop}(hgd:o.guard=none)(sl x:Operand)
  (ho:o.op=.call { callee:=.builtin .append,args:=#[sl,x],argTypes:=#[ST,ST] })
  (B:Nat) (v:Value) (l m:List α) (hs:a.eval sl=v) (hown:Own enc K w B T v l) (ad:Addr) (c:Nat) (hx:a.eval x=.slice (some ad) m.length c)
  (hnews:∀ j u,(flat enc m)[j]?=some u->w.cell? (ad.add j)=some u) (hm:0<m.length) (hsz:l.length+m.length<=1000000) (hB:B<=w.heap.size)
  (h:∀ v' w',Own enc K w' B T v' (l++m)->w.grownBy w' v.ownBlock->w.heap.size<=w'.heap.size->wpList P ops Q rest (a.put o.dst v') w'):wpList P ops Q (o :: rest) a w:=by
 obtain⟨i,z,hi,aa,ab,ac,hb⟩:=hT.info
 refine wpList_append_lies w hgd sl x ST ho B T i z K i.bytes hT.under hi aa ac rfl ab hT.pos v l.length (flat enc l) hs hown ad m.length c (flat enc m) hx (bH hT.fits m) hnews (bF hT.fits m) hm (by unfold maxLen;omega) (by
  have:(l.length+m.length)*i.bytes<=1000000*1000:=Nat.mul_le_mul hsz hb
  omega) hB _ rfl ?_
 intro g cap w' h1 h2 _ _
 refine h _ w' ?_ h2 h2.size
 unfold Own
 rw[cG,List.length_append]
 exact h1
theorem cH (hT:SliceT P enc K ST T){ops:Array Oper}{o:Oper}{a:Act}{G:Act->World->Prop}{Q:Exit->Act->World->Prop}{E:Prop}(hgd:o.guard=none)(sl x:Operand)
  (ho:o.op=.call { callee:=.builtin .append,args:=#[sl,x],argTypes:=#[ST,ST] })
  (B:Nat) (v:Value) (l m:List α) (hs:a.eval sl=v) (hown:Own enc K w B T v l) (ad:Addr) (c:Nat) (hx:a.eval x=.slice (some ad) m.length c)
  (hnews:∀ j u,(flat enc m)[j]?=some u->w.cell? (ad.add j)=some u) (hm:0<m.length) (hsz:l.length+m.length<=1000000) (hB:B<=w.heap.size)
  (h:∀ v' w',Own enc K w' B T v' (l++m)->w.grownBy w' v.ownBlock->w.heap.size<=w'.heap.size->G (a.put o.dst v') w'):if Region.wanted o (yielded ops a.tmps)=true then Oper.wp P o a w G Q else E:=by
 obtain⟨i,z,hi,aa,ab,ac,hb⟩:=hT.info
 refine step_append_lies w hgd sl x ST ho B T i z K i.bytes hT.under hi aa ac rfl ab hT.pos v l.length (flat enc l) hs hown ad m.length c (flat enc m) hx (bH hT.fits m) hnews (bF hT.fits m) hm (by unfold maxLen;omega) (by
  have:(l.length+m.length)*i.bytes<=1000000*1000:=Nat.mul_le_mul hsz hb
  omega) hB _ rfl ?_
 intro g cap w' h1 h2 _ _
 refine h _ w' ?_ h2 h2.size
 unfold Own
 rw[cG,List.length_append]
 exact h1
theorem az (w:World)(T:TypeId)(m:List α)(cs:Array Value)(h:cs.toList=flat enc m):∀ j u,(flat enc m)[j]?=some u->(w.alloc (.cells cs T)).cell? ((⟨w.heap.size,0,none⟩:Addr).add j)=some u :=
 fun j u hu=>World.news_of_block (heap_alloc_new w _) j u (by rw[h];exact hu)
end
end Rg
section
open Go.RowKit Rs
attribute [local go_sem ↓] Go.wp_at_zero Go.wp_at_succ
abbrev Desc:=Option Addr × Nat × Nat
def encO (d:Desc):List Value:=[.slice d.1 d.2.1 d.2.2]
def encT (l:List UInt8):List Value:=[.string ⟨l.toArray⟩]
theorem fitsO:Rg.Fits encO 1:=⟨fun _=>rfl,fun x u hu=>by
 simp only[encO,List.mem_cons,List.not_mem_nil,or_false] at hu
 rcases hu with rfl;rfl⟩
theorem fitsT:Rg.Fits encT 1:=⟨fun _=>rfl,fun x u hu=>by
 simp only[encT,List.mem_cons,List.not_mem_nil,or_false] at hu
 rcases hu with rfl;rfl⟩
theorem sliceTx:Rg.SliceT Tryz.prog encT 1 40 9:=⟨fitsT,by decide,by kernel_rfl,Rg.b8 (z:=.string ByteArray.empty) (b:=16) (by kernel_rfl) (by rfl) (by decide)⟩
theorem ee {α:Type}{enc:α->List Value}{K:Nat}{w w':World}{A:Option Addr}{l:List α}{row:Option Nat}(h:Rg.Row enc K w A l)(hg:w.grownBy w' row)(hne:0<l.length->∀ a,A=some a->row≠some a.block):Rg.Row enc K w' A l:=fun h0=>by
 obtain⟨a,e,hb,hc⟩:=h h0
 refine⟨a,e,Nat.lt_of_lt_of_le hb hg.size,fun i hi j v hv=>?_⟩
 have hn:some a.block≠row:=fun e2=>hne h0 a e e2.symm
 have hblk:(a.add (i*K)).block=a.block:=add_block _ _
 have hq:(if j=0 then a.add (i*K) else ⟨(a.add (i*K)).block,(a.add (i*K)).off+j,none⟩:Addr).block=a.block:=by split <;> exact hblk
 rw[hg.cell_far _ (by rw[hq];exact hb) (by rw[hq];exact hn)]
 exact hc i hi j v hv
theorem aU {α:Type}{l:List α}{x y:α}{i:Nat}(h:(l++[x])[i]?=some y):(i<l.length/\l[i]?=some y)\/(i=l.length/\y=x):=by
 by_cases hi:i<l.length
 ·rw[List.getElem?_append_left hi] at h;exact Or.inl ⟨hi,h⟩
 ·rw[List.getElem?_append_right (by omega)] at h
  by_cases h0:i-l.length=0
  ·rw[h0] at h;simp at h;exact Or.inr ⟨by omega,h.symm⟩
  ·obtain⟨k,hk⟩:∃ k,i-l.length=k+1:=⟨i-l.length-1,by omega⟩
   rw[hk] at h;simp at h
end
namespace Rg
open Go.RowKit Go.ChangeShapes Go.WideShapes
section
variable {α:Type} {P:Program} {enc:α->List Value} {K:Nat} {ST T:TypeId} {w:World}
theorem sP {B n cap:Nat}{A:Option Addr}{l:List α}(h:Own enc K w B T (.slice A n cap) l)(hl:0<l.length):∃ g,A=some ⟨g,0,none⟩/\B<=g/\g<w.heap.size/\(∀ j,w.frozen? ⟨g,j,none⟩=false):=by
 rcases h.2 with⟨_,h1⟩ | ⟨g,cp,cur,e,hb,hg,_⟩
 ·omega
 ·cases e
  refine⟨g,rfl,hb,(Array.getElem?_eq_some_iff.1 hg).1,fun j=>frozen_of_row w g j cur T hg⟩
end
end Rg
namespace Rg
section
variable {α:Type} {enc:α->List Value} {K:Nat} {w:World}
theorem mI {B B':Nat}{T:TypeId}{v:Value}{l:List α}(hB:B<=B')(h:Own enc K w B' T v l):Own enc K w B T v l:=by
 refine⟨h.1,?_⟩
 rcases h.2 with h2 | ⟨g,cap,cur,e,hb,h3⟩
 ·exact Or.inl h2
 ·exact Or.inr ⟨g,cap,cur,e,Nat.le_trans hB hb,h3⟩
end
end Rg
namespace Gr
open Go.RowKit Rs
section
variable {α:Type} (enc:α->List Value) (K:Nat)
def In (w:World) (ds:List Desc) (t:List (List α)):Prop:=ds.length=t.length/\∀ (i:Nat) (d:Desc) (l:List α),ds[i]?=some d->t[i]?=some l->d.2.1=l.length/\Rg.Row enc K w d.1 l
def Free (v:Value) (ds:List Desc) (t:List (List α)):Prop:=∀ (i:Nat) (d:Desc) (l:List α),ds[i]?=some d->t[i]?=some l->0<l.length->∀ a,d.1=some a->v.ownBlock≠some a.block
def Row (w:World) (A:Option Addr) (t:List (List α)):Prop:=∃ ds,Rg.Row encO 1 w A ds/\In enc K w ds t
variable {enc K}
theorem jC {w w':World}{ds:List Desc}{t:List (List α)}(h:In enc K w ds t)(hb:Below w.heap.size w w'):In enc K w' ds t:=⟨h.1,fun i d l h1 h2=>⟨(h.2 i d l h1 h2).1,Rg.aj (h.2 i d l h1 h2).2 hb⟩⟩
theorem aj {w w':World}{A:Option Addr}{t:List (List α)}(h:Row enc K w A t)(hb:Below w.heap.size w w'):Row enc K w' A t:=by
 obtain⟨ds,h1,h2⟩:=h;exact⟨ds,Rg.aj h1 hb,jC h2 hb⟩
end
end Gr
namespace Rs
open Go.RowKit Go.ChangeShapes Go.WideShapes Go.Joins
instance:Inhabited Sp:=⟨⟨[],[],false,false⟩⟩
def SpAt (w:World) (a:Addr) (s:Sp):Prop :=
 w.cell? (a.add 0)=some (.string ⟨s.lo.toArray⟩)/\w.cell? (a.add 1)=some (.string ⟨s.hi.toArray⟩)/\w.cell? (a.add 2)=some (.bool s.li)/\w.cell? (a.add 3)=some (.bool s.hn)
def SRow (w:World) (A:Option Addr) (l:List Sp):Prop:=0<l.length->∃ a,A=some a/\a.block<w.heap.size/\∀ (i:Nat) (h:i<l.length),SpAt w (a.add (i*4)) l[i]
theorem nD {α:Type}{cs:List α}{n:Nat}(hl:cs.length=4)(hn:n<4):(cs.drop n).take 1=[cs[n]'(by omega)]:=by
 rw[List.drop_eq_getElem_cons (by omega)];rfl
end Rs
namespace Rs
open Go.RowKit Go.ChangeShapes Go.WideShapes
def spC (s:Sp):List Value:=[.string ⟨s.lo.toArray⟩,.string ⟨s.hi.toArray⟩,.bool s.li,.bool s.hn]
def flat (l:List Sp):List Value:=l.flatMap spC
theorem ql (s:Sp)(l:List Sp):flat (s :: l)=spC s++flat l:=rfl
theorem flat_get:∀ (l:List Sp) (i:Nat) (h:i<l.length) (j:Nat),j<4->(flat l)[i*4+j]?=(spC l[i])[j]?
 | [],_,h,_,_=>absurd h (by simp)
 | s :: l,0,_,j,hj=>by
  rw[ql,List.getElem?_append_left (by show 0*4+j<4;omega),Nat.zero_mul,Nat.zero_add];rfl
 | s :: l,i+1,h,j,hj=>by
  rw[ql,List.getElem?_append_right (by show 4<=_;omega)]
  rw[show (i+1)*4+j-(spC s).length=i*4+j from by show (i+1)*4+j-4=_;omega]
  exact flat_get l i (by simpa using h) j hj
def SOwn (w:World) (B:Nat) (T:TypeId) (v:Value) (l:List Sp):Prop:=w.ownsRow B T 4 v l.length (flat l)
theorem aci {w:World}{B:Nat}{T:TypeId}{v:Value}{l:List Sp}(h:SOwn w B T v l):∃ A c,v=.slice A l.length c/\SRow w A l:=by
 have h0:=h
 rcases h.2 with⟨rfl,h1⟩ | ⟨g,cap,cur,rfl,hb,hg,hn,hm,hs,ht⟩
 ·refine⟨none,0,by rw[h1],fun h2=>by omega⟩
 ·refine⟨_,_,rfl,fun h2=>⟨_,rfl,?_,fun i hi=>?_⟩⟩
  ·exact (Array.getElem?_eq_some_iff.1 hg).1
  ·have hc:=World.ownsRow.cells h0 (g:=g) rfl
   have key:∀ j u,j<4->(spC l[i])[j]?=some u->w.cell? (((⟨g,0,none⟩:Addr).add (i*4)).add j)=some u:=fun j u hj hu=>by
    rw[Go.Deep.add_add]
    exact hc _ _ (by rw[flat_get l i hi j hj];exact hu)
   exact⟨key 0 _ (by omega) rfl,key 1 _ (by omega) rfl,key 2 _ (by omega) rfl,key 3 _ (by omega) rfl⟩
theorem yK {w w':World}{a:Addr}{s:Sp}(h:SpAt w a s)(hb:Below w.heap.size w w'):SpAt w' a s:=by
 obtain⟨h0,h1,h2,h3⟩:=h
 exact⟨by rw[hb.cell (cj h0)];exact h0,by rw[hb.cell (cj h1)];exact h1,by rw[hb.cell (cj h2)];exact h2,by rw[hb.cell (cj h3)];exact h3⟩
theorem ao {w w':World}{A:Option Addr}{l:List Sp}(h:SRow w A l)(hb:Below w.heap.size w w'):SRow w' A l:=fun h0=>by
 obtain⟨a,e,hl,hc⟩:=h h0
 exact⟨a,e,Nat.lt_of_lt_of_le hl hb.size,fun i hi=>yK (hc i hi) hb⟩
end Rs
section
open Go.RowKit
theorem beq46 (c:UInt8):((c.toNat:Int)==46)=(c.toNat==46):=by rw[Bool.eq_iff_iff];simp;omega
theorem beq43 (c:UInt8):((c.toNat:Int)==43)=(c.toNat==43):=by rw[Bool.eq_iff_iff];simp;omega
theorem beq126 (c:UInt8):((c.toNat:Int)==126)=(c.toNat==126):=by rw[Bool.eq_iff_iff];simp;omega
theorem fe (c:UInt8)(w:World) :
  Calls Tryz.prog 160 #[.int .u8 c.toNat] w fun e w'=>e=.returned (.bool (Vm.dig c))/\w=w':=by
 unfold Vm.dig
 by_cases h1:48<=c.toNat <;> by_cases h2:c.toNat<=57
 all_goals
  go_enter Tryz.func160,Tryz.ntmps160
  go_wp2
 all_goals
  go_ret
  exact⟨by first | (simp[h1,h2];done) | (simp[h1,h2];omega),rfl⟩
theorem bK (c:UInt8)(w:World) :
  Calls Tryz.prog 79 #[.int .u8 c.toNat] w fun e w'=>e=.returned (.bool (Vm.dig c))/\w=w':=by
 unfold Vm.dig
 by_cases h1:48<=c.toNat <;> by_cases h2:c.toNat<=57
 all_goals
  go_enter Tryz.func79,Tryz.ntmps79
  go_wp2
 all_goals
  go_ret
  exact⟨by first | (simp[h1,h2];done) | (simp[h1,h2];omega),rfl⟩
theorem kp (c:UInt8)(w:World) :
  Calls Tryz.prog 197 #[.int .u8 c.toNat] w fun e w'=>e=.returned (.bool (Vm.ltr c))/\w=w':=by
 unfold Vm.ltr
 by_cases h1:97<=c.toNat <;> by_cases h2:c.toNat<=122 <;> by_cases h3:65<=c.toNat <;> by_cases h4:c.toNat<=90
 all_goals
  go_enter Tryz.func197,Tryz.ntmps197
  go_wp2
 all_goals
  go_ret
  exact⟨by first | (simp[h1,h2,h3,h4];done) | (simp[h1,h2,h3,h4];omega),rfl⟩
theorem j6 (c:UInt8)(w:World) :
  Calls Tryz.prog 120 #[.int .u8 c.toNat] w fun e w'=>e=.returned (.bool (Vm.ltr c))/\w=w':=by
 unfold Vm.ltr
 by_cases h1:97<=c.toNat <;> by_cases h2:c.toNat<=122 <;> by_cases h3:65<=c.toNat <;> by_cases h4:c.toNat<=90
 all_goals
  go_enter Tryz.func120,Tryz.ntmps120
  go_wp2
 all_goals
  go_ret
  exact⟨by first | (simp[h1,h2,h3,h4];done) | (simp[h1,h2,h3,h4];omega),rfl⟩
theorem vV (c:UInt8)(w:World) :
  Calls Tryz.prog 161 #[.int .u8 c.toNat] w fun e w'=>e=.returned (.bool (Vm.oth c))/\w=w':=by
 go_enter Tryz.func161,Tryz.ntmps161
 go_wp2_with fail
 refine (kp c _).mono ?_
 rintro e w' ⟨rfl,rfl⟩
 cases hl:Vm.ltr c
 all_goals
  have HL:=zh hl
  clear hl
  go_wp2
 all_goals
  go_ret
  refine⟨?_,rfl⟩
  have hl:=HL.out
  clear HL
  unfold Vm.oth
  rw[hl]
  first | (simp[beq46,beq43,beq126];done) | (simp[beq46,beq43,beq126];omega) | (simp[beq46,beq43,beq126,Bool.or_assoc];done)
theorem qm (c:UInt8):wrap64 (c.toNat:Int)=c.toNat:=IntWalk.wrap64_in _ ⟨by omega,by have:=xn c;omega⟩
theorem sQ (c:UInt8):wrap64 (256+(c.toNat:Int))=256+c.toNat:=IntWalk.wrap64_in _ ⟨by omega,by have:=xn c;omega⟩
theorem sR (l:List UInt8)(i:Nat)(h:l.length<=i):Vm.mark l i=0:=by simp[Vm.mark,h]
theorem xp (l:List UInt8)(i:Nat)(h:i<l.length):Vm.mark l i=Vm.markB l[i]:=by
 unfold Vm.mark Vm.markB
 rw[if_neg (by omega)]
 simp[h]
theorem sS (l:List UInt8)(i:Nat)(w:World) :
  Calls Tryz.prog 200 #[.string ⟨l.toArray⟩,.int .i64 i] w fun e w'=>e=.returned (.int .i64 (Vm.mark l i))/\w=w':=by
 by_cases h:i<l.length
 ·obtain⟨c,hc,aa⟩:=byte_at l i h
  have H:=zh (xp l i h)
  rw[aa] at H
  clear aa
  by_cases h1:c.toNat=126
  ·have h2:((c.toNat:Int)==126)=true:=by simp[h1]
   have H1:=zh h1
   clear h1
   go_enter Tryz.func200,Tryz.ntmps200
   go_wp2_with fail
   go_ret
   exact⟨by rw[H.out];simp[Vm.markB,H1.out],rfl⟩
  ·have h2:((c.toNat:Int)==126)=false:=by simp;omega
   go_enter Tryz.func200,Tryz.ntmps200
   go_wp2_with fail
   refine (kp c _).mono ?_
   rintro e w' ⟨rfl,rfl⟩
   cases hl:Vm.ltr c
   all_goals
    have HL:=zh hl
    clear hl
    go_wp2
   all_goals
    go_ret
    exact⟨by rw[H.out];simp[Vm.markB,HL.out,h1,qm,sQ],rfl⟩
 ·have H:=zh (sR l i (by omega))
  go_enter Tryz.func200,Tryz.ntmps200
  go_wp2_with fail
  go_ret
  exact⟨by rw[H.out];rfl,rfl⟩
end
section
open Go.RowKit
theorem dZ (l:List UInt8)(p:UInt8->Bool)(k:Nat)(h:k<l.length):(l.take (k+1)).all p=((l.take k).all p&&p l[k]):=by
 rw[List.take_succ_eq_append_getElem h,List.all_append];simp only[List.all_cons,List.all_nil,Bool.and_true]
theorem eD (l:List UInt8)(p:UInt8->Bool)(k:Nat)(h:k<l.length)(hp:p l[k]=false):l.all p=false:=by
 rw[Bool.eq_false_iff];intro ha;rw[List.all_eq_true] at ha;have:=ha _ (List.getElem_mem h);simp[hp] at this
theorem iO (l:List UInt8)(h:0<l.length):Vm.partOk l=(Vm.dig l[0]&&(Vm.dig (l[l.length-1]'(by omega))&&l.all Vm.ok1)):=by
 have hl:l.length-1<l.length:=by omega
 have he:l.isEmpty=false:=by cases l <;> simp at *
 simp[Vm.partOk,h,he,hl]
theorem gY (l:List UInt8)(w:World)(hm:l.length<=100) :
  Calls Tryz.prog 124 #[.string ⟨l.toArray⟩] w fun e w'=>e=okOr (Vm.partOk l) 5/\w=w':=by
 by_cases h0:l=[]
 ·subst h0
  go_enter Tryz.func124,Tryz.ntmps124
  go_wp2_with fail
  refine (au _).mono ?_
  rintro e w' ⟨rfl,rfl⟩
  go_wp2_with fail
  exact⟨rfl,rfl,rfl⟩
 ·have ac:0<l.length:=List.length_pos_iff.2 h0
  have ad:l.length-1<l.length:=by omega
  have he:l.isEmpty=false:=by cases l <;> simp at *
  obtain⟨c0,ao,ae⟩:=byte_at l 0 ac
  obtain⟨cn,ap,af⟩:=byte_at l (l.length-1) ad
  have H:=zh (iO l ac)
  rw[ae,af] at H
  clear ae af h0
  cases hd:Vm.dig c0
  all_goals
   have HD:=zh hd
   clear hd
   go_enter Tryz.func124,Tryz.ntmps124
   go_wp2_with fail
   refine (fe c0 _).mono ?_
   rintro e w' ⟨rfl,rfl⟩
   rw[HD.out]
   go_wp2_with fail
  ·refine (au _).mono ?_
   rintro e w' ⟨rfl,rfl⟩
   go_wp2_with fail
   refine⟨rfl,?_,rfl⟩
   rw[H.out,HD.out];rfl
  ·refine (fe cn _).mono ?_
   rintro e w' ⟨rfl,rfl⟩
   cases ag:Vm.dig cn
   ·have ah:=zh ag
    clear ag
    go_wp2_with fail
    refine (au _).mono ?_
    rintro e w' ⟨rfl,rfl⟩
    go_wp2_with fail
    refine⟨rfl,?_,rfl⟩
    rw[H.out,HD.out,ah.out];rfl
   ·have ah:=zh ag
    clear ag
    go_wp2_with fail
    refine (ak _).mono ?_
    rintro e w' ⟨rfl,rfl⟩
    go_wp2_with fail
    have HE:Hid (Vm.partOk l=l.all Vm.ok1):=by
     show Vm.partOk l=l.all Vm.ok1
     rw[H.out,HD.out,ah.out];rfl
    clear ao ap H HD ah
    go_loop [21] (fun i=>∃ k:Nat,k<=l.length/\i=.int .i64 k/\Hid ((l.take k).all Vm.ok1=true)) (fun i=>l.length-(intOf i).toNat)
    case atStart=>exact⟨0,Nat.zero_le _,rfl,rfl⟩
    case round =>
     obtain⟨k,hk,rfl,aa⟩:=hrel
     by_cases al:k<l.length
     ·obtain⟨c,hc,am⟩:=byte_at l k al
      have HS:=zh (dZ l Vm.ok1 k al)
      rw[am] at HS
      have HF:Vm.ok1 c=false->l.all Vm.ok1=false:=fun h=>eD l _ k al (by rw[am];exact h)
      have an:=zh HF
      clear am HF
      go_wp2_with fail
      refine (fe c _).mono ?_
      rintro e w' ⟨rfl,rfl⟩
      cases ai:Vm.dig c
      ·have aj:=zh ai
       clear ai
       go_wp2_with fail
       refine (vV c _).mono ?_
       rintro e w' ⟨rfl,rfl⟩
       cases ho:Vm.oth c
       ·have HO:=zh ho
        clear ho
        go_wp2_with fail
        refine (au _).mono ?_
        rintro e w' ⟨rfl,rfl⟩
        go_wp2_with fail
        refine⟨rfl,?_,rfl⟩
        rw[HE.out,an.out (by rw[Vm.ok1,aj.out,HO.out];rfl)];rfl
       ·have HO:=zh ho
        clear ho
        go_wp2_with fail
        refine (ak _).mono ?_
        rintro e w' ⟨rfl,rfl⟩
        go_wp2_with fail
        go_round
        case rel=>exact⟨k+1,by omega,by go_num,by show _=_;rw[HS.out,aa.out,Vm.ok1,aj.out,HO.out];rfl⟩
        case measure=>simp[intOf];omega
      ·have aj:=zh ai
       clear ai
       go_wp2_with fail
       refine (ak _).mono ?_
       rintro e w' ⟨rfl,rfl⟩
       go_wp2_with fail
       go_round
       case rel=>exact⟨k+1,by omega,by go_num,by show _=_;rw[HS.out,aa.out,Vm.ok1,aj.out];rfl⟩
       case measure=>simp[intOf];omega
     ·obtain rfl:k=l.length:=by omega
      have ab:l.all Vm.ok1=true:=by have:=aa.out;rwa [List.take_length] at this
      have HA:=zh ab
      clear aa ab
      go_wp2_with fail
      go_end0
      exact⟨by rw[HE.out,HA.out];rfl,rfl⟩
end
section
open Go.RowKit
def cs10:List UInt8:=[48,49,50,51,52,53,54,55,56,57]
theorem sU (c:UInt8):cs10.contains c=Vm.dig c:=afu (fun c=>cs10.contains c) Vm.dig (by decide +kernel) c
theorem vW (l:List UInt8):Lib.trimLeftS l cs10=Vm.undigs l:=by
 unfold Lib.trimLeftS Vm.undigs
 congr 1;funext c;exact sU c
theorem aaf (l:List UInt8):l.take (l.length-(Vm.undigs l).length)=Vm.digs l:=by
 have h:Vm.digs l++Vm.undigs l=l:=List.takeWhile_append_dropWhile
 have h2:l.length-(Vm.undigs l).length=(Vm.digs l).length:=by
  have:=congrArg List.length h;rw[List.length_append] at this;omega
 rw[h2]
 exact mH h
theorem cO (l:List UInt8):(Vm.undigs l).length<=l.length:=by
 have h:Vm.digs l++Vm.undigs l=l:=List.takeWhile_append_dropWhile
 have:=congrArg List.length h;rw[List.length_append] at this;omega
theorem kq (l:List UInt8):(Vm.unoths l).length<=l.length:=by
 have h:Vm.oths l++Vm.unoths l=l:=List.takeWhile_append_dropWhile
 have:=congrArg List.length h;rw[List.length_append] at this;omega
theorem iZ (l:List UInt8):(Vm.oths l).length<=l.length:=by
 have h:Vm.oths l++Vm.unoths l=l:=List.takeWhile_append_dropWhile
 have:=congrArg List.length h;rw[List.length_append] at this;omega
theorem pj (l:List UInt8):(Vm.digs l).length<=l.length:=by
 have h:Vm.digs l++Vm.undigs l=l:=List.takeWhile_append_dropWhile
 have:=congrArg List.length h;rw[List.length_append] at this;omega
theorem aag (l:List UInt8):l.take (Vm.oths l).length=Vm.oths l:=by
 have h:Vm.oths l++Vm.unoths l=l:=List.takeWhile_append_dropWhile
 exact mH h
theorem vX (l:List UInt8):l.drop (Vm.oths l).length=Vm.unoths l:=by
 have h:Vm.oths l++Vm.unoths l=l:=List.takeWhile_append_dropWhile
 exact sN h
theorem nE:∀ l:List UInt8,(Lib.indexAny l cs10 = -1/\Vm.oths l=l)\/Lib.indexAny l cs10=(Vm.oths l).length
 | []=>Or.inl ⟨rfl,rfl⟩
 | b :: l=>by
  have ih:=nE l
  have hg:=Lib.indexAny_ge cs10 l
  unfold Lib.indexAny Vm.oths
  rw[sU,List.takeWhile_cons]
  cases hb:Vm.dig b
  ·simp only[Bool.false_eq_true,if_false,Bool.not_false,if_true]
   rcases ih with⟨h1,h2⟩ | h1
   ·left
    rw[h1]
    refine⟨rfl,?_⟩
    show b :: Vm.oths l=b :: l
    rw[h2]
   ·right
    rw[h1,if_neg (by simp)]
    show _=(((b :: Vm.oths l).length:Nat):Int)
    simp
  ·right;simp
def ascii (l:List UInt8):Prop:=∀ (j:Nat) b,l[j]?=some b->b.toNat<128
theorem nF:ascii cs10:=by
 intro j b h
 have:=List.mem_of_getElem? h
 simp[cs10] at this
 rcases this with rfl | rfl | rfl | rfl | rfl | rfl | rfl | rfl | rfl | rfl <;> decide
theorem i6 (l:List UInt8)(w:World) :
  Calls Tryz.prog 198 #[.string ⟨l.toArray⟩,.string ⟨#[48,49,50,51,52,53,54,55,56,57]⟩] w fun e w'=>e=.returned (.string ⟨(Vm.undigs l).toArray⟩)/\Below w.heap.size w w' :=
 (Tryz.strings_TrimLeft_laid ⟨l.toArray⟩ ⟨cs10.toArray⟩ w (by decide) nF).mono fun _ _ h=>⟨by rw[h.1,<-vW],h.2⟩
theorem rA (l:List UInt8)(w:World) :
  Calls Tryz.prog 198 #[.string ⟨l.toArray⟩,.string ⟨#[48]⟩] w fun e w'=>e=.returned (.string ⟨(l.dropWhile (. == 48)).toArray⟩)/\w=w' :=
 (Tryz.strings_TrimLeft_one ⟨l.toArray⟩ 48 (by decide) w).mono fun _ _ h=>⟨h.1,h.2.symm⟩
theorem nG (l:List UInt8)(w:World)(hl:l.length<=1000)(ha:ascii l) :
  Calls Tryz.prog 199 #[.string ⟨l.toArray⟩,.string ⟨#[48,49,50,51,52,53,54,55,56,57]⟩] w fun e w'=>e=.returned (.int .i64 (Lib.indexAny l cs10))/\Below w.heap.size w w' :=
 Tryz.strings_IndexAny_laid ⟨l.toArray⟩ ⟨cs10.toArray⟩ w (by show l.toArray.size<_;simp;omega) (by decide) ha nF
theorem jD (l:List UInt8)(w:World) :
  Calls Tryz.prog 162 #[.string ⟨l.toArray⟩] w fun e w'=>e=.returned (.string ⟨(Vm.bare l).toArray⟩)/\w=w':=by
 have H:Hid (Vm.bare l=if (l.dropWhile (. == 48)).isEmpty then [48] else l.dropWhile (. == 48)):=rfl
 go_enter Tryz.func162,Tryz.ntmps162
 go_wp2_with fail
 refine (rA l _).mono ?_
 rintro e w' ⟨rfl,rfl⟩
 generalize l.dropWhile (. == 48)=r at *
 cases hz:r.isEmpty
 all_goals
  go_wp2_with fail
 ·go_ret
  exact⟨by rw[H.out,hz];rfl,rfl⟩
 ·go_ret
  exact⟨by rw[H.out,hz];rfl,rfl⟩
theorem fH (l:List UInt8)(w:World)(hl:l.length<=1000) :
  Calls Tryz.prog 163 #[.string ⟨l.toArray⟩] w fun e w'=>e=.returned (.tuple #[.string ⟨(Vm.digs l).toArray⟩,.string ⟨(Vm.undigs l).toArray⟩])/\Below w.heap.size w w':=by
 have H:=zh (aaf l)
 have hle:=cO l
 go_enter Tryz.func163,Tryz.ntmps163
 go_wp2_with fail
 refine (i6 l _).mono ?_
 rintro e w' ⟨rfl,hb⟩
 obtain⟨r,hr⟩:=ex (Vm.undigs l)
 rw[hr] at H hle
 rw[hr]
 have HR:=zh hr
 clear hr
 go_wp2_with fail
 go_ret2
 refine⟨?_,hb⟩
 show Ending.returned (.tuple #[.string (ByteArray.extract ⟨l.toArray⟩ 0 (l.length-r.length)),.string ⟨r.toArray⟩])=_
 rw[ByteArray.extract_mk,List.drop_zero,Nat.sub_zero,H.out,HR.out]
theorem fI (l:List UInt8)(w:World)(hl:l.length<=1000)(ha:ascii l) :
  Calls Tryz.prog 164 #[.string ⟨l.toArray⟩] w fun e w'=>e=.returned (.tuple #[.string ⟨(Vm.oths l).toArray⟩,.string ⟨(Vm.unoths l).toArray⟩])/\Below w.heap.size w w':=by
 have HT:=zh (aag l)
 have HD:=zh (vX l)
 have hle:=iZ l
 have hA:=zh ha
 clear ha
 go_enter Tryz.func164,Tryz.ntmps164
 go_wp2_with fail
 refine (nG l _ hl hA.out).mono ?_
 rintro e w' ⟨rfl,hb⟩
 rcases nE l with⟨h1,h2⟩ | h1
 ·rw[h1]
  have H2:=zh h2
  clear h1 h2
  go_wp2_with fail
  go_quiet (fail)
  go_wp2_with fail
  go_ret2
  refine⟨?_,below_drewN hb _⟩
  have e1:Vm.unoths l=[]:=by rw[<-HD.out,H2.out,List.drop_length]
  show Ending.returned (.tuple #[.string (ByteArray.extract ⟨l.toArray⟩ 0 l.length),.string ⟨([]:List UInt8).toArray⟩])=_
  rw[ByteArray.extract_mk,List.drop_zero,Nat.sub_zero,List.take_length,e1,H2.out]
 ·rw[h1]
  clear h1
  go_wp2_with fail
  go_quiet (fail)
  go_wp2_with fail
  go_ret2
  refine⟨?_,below_drewN hb _⟩
  show Ending.returned (.tuple #[.string (ByteArray.extract ⟨l.toArray⟩ 0 (Vm.oths l).length),.string (ByteArray.extract ⟨l.toArray⟩ (Vm.oths l).length l.length)])=_
  rw[ByteArray.extract_mk,ByteArray.extract_mk,List.drop_zero,Nat.sub_zero,HT.out,HD.out,List.take_of_length_le (by rw[<-HD.out,List.length_drop];exact Nat.le_refl _)]
end
section
open Go.RowKit
theorem kr (l:List UInt8)(h:0<l.length):Vm.epOk l=(decide (l.length<=6)&&l.all Vm.dig):=by
 have he:l.isEmpty=false:=by cases l <;> simp at *
 simp[Vm.epOk,he]
theorem gD (l:List UInt8)(w:World)(hm:l.length<=100) :
  Calls Tryz.prog 123 #[.string ⟨l.toArray⟩] w fun e w'=>e=okOr (Vm.epOk l) 5/\w=w':=by
 by_cases h0:l=[]
 ·subst h0
  go_enter Tryz.func123,Tryz.ntmps123
  go_wp2_with fail
  refine (au _).mono ?_
  rintro e w' ⟨rfl,rfl⟩
  go_wp2_with fail
  exact⟨rfl,rfl,rfl⟩
 ·have ad:0<l.length:=List.length_pos_iff.2 h0
  have he:l.isEmpty=false:=by cases l <;> simp at *
  have H:=zh (kr l ad)
  clear h0
  by_cases h6:l.length<=6
  ·have HE:Hid (Vm.epOk l=l.all Vm.dig):=by show _=_;rw[H.out];simp[h6]
   clear H
   go_enter Tryz.func123,Tryz.ntmps123
   go_wp2_with fail
   rw[show decide ((l.length:Int)<=6)=true from by simp;omega]
   refine (ak _).mono ?_
   rintro e w' ⟨rfl,rfl⟩
   go_wp2_with fail
   go_loop [13] (fun i=>∃ k:Nat,k<=l.length/\i=.int .i64 k/\Hid ((l.take k).all Vm.dig=true)) (fun i=>l.length-(intOf i).toNat)
   case atStart=>exact⟨0,Nat.zero_le _,rfl,rfl⟩
   case round =>
    obtain⟨k,hk,rfl,ab⟩:=hrel
    by_cases ae:k<l.length
    ·obtain⟨c,hc,ag⟩:=byte_at l k ae
     have HS:=zh (dZ l Vm.dig k ae)
     rw[ag] at HS
     have HF:Vm.dig c=false->l.all Vm.dig=false:=fun h=>eD l _ k ae (by rw[ag];exact h)
     have ah:=zh HF
     clear ag HF
     go_wp2_with fail
     refine (fe c _).mono ?_
     rintro e w' ⟨rfl,rfl⟩
     cases ac:Vm.dig c
     ·have af:=zh ac
      clear ac
      go_wp2_with fail
      refine (au _).mono ?_
      rintro e w' ⟨rfl,rfl⟩
      go_wp2_with fail
      refine⟨rfl,?_,rfl⟩
      rw[HE.out,ah.out af.out];rfl
     ·have af:=zh ac
      clear ac
      go_wp2_with fail
      refine (ak _).mono ?_
      rintro e w' ⟨rfl,rfl⟩
      go_wp2_with fail
      go_round
      case rel=>exact⟨k+1,by omega,by go_num,by show _=_;rw[HS.out,ab.out,af.out];rfl⟩
      case measure=>simp[intOf];omega
    ·obtain rfl:k=l.length:=by omega
     have aa:l.all Vm.dig=true:=by have:=ab.out;rwa [List.take_length] at this
     have HA:=zh aa
     clear ab aa
     go_wp2_with fail
     go_end0
     exact⟨by rw[HE.out,HA.out];rfl,rfl⟩
  ·go_enter Tryz.func123,Tryz.ntmps123
   go_wp2_with fail
   rw[show decide ((l.length:Int)<=6)=false from by simp;omega]
   refine (au _).mono ?_
   rintro e w' ⟨rfl,rfl⟩
   go_wp2_with fail
   refine⟨rfl,?_,rfl⟩
   rw[H.out];simp[h6,okOr]
def place (l:List UInt8) (c:UInt8):Int:=if Vm.has c l then ((Vm.fst c l).length:Int) else -1
theorem qn (l:List UInt8)(c:UInt8)(w:World)(hm:l.length<=4000) :
  Calls Tryz.prog 78 #[.string ⟨l.toArray⟩,.int .u8 c.toNat] w fun e w'=>e=.returned (.int .i64 (place l c))/\w=w':=by
 go_enter Tryz.func78,Tryz.ntmps78
 go_wp2_with fail
 go_loop [5] (fun i=>∃ k:Nat,k<=(Vm.fst c l).length/\i=.int .i64 k) (fun i=>l.length-(intOf i).toNat)
 case atStart=>exact⟨0,Nat.zero_le _,rfl⟩
 case round =>
  obtain⟨k,hk,rfl⟩:=hrel
  have hle:=fp l c
  by_cases ab:k<l.length
  ·obtain⟨b,hc,ac⟩:=byte_at l k ab
   have HS:=zh (o8 (. != c) l k ab hk)
   rw[ac] at HS
   clear ac
   by_cases aa:b=c
   ·subst aa
    go_wp2_with fail
    go_ret
    refine⟨?_,rfl⟩
    have h1:¬ (k+1<=(Vm.fst b l).length):=fun h=>by have:=HS.out.2 h;simp at this
    have h2:k=(Vm.fst b l).length:=by omega
    show Ending.returned (.int .i64 (k:Int))=_
    rw[place,if_pos ((lE l b).2 (by omega)),<-h2]
   ·have ad:((b.toNat:Int)==(c.toNat:Int))=false:=by
     rw[beq_eq_false_iff_ne];intro h;exact aa (UInt8.toNat.inj (by omega))
    have h1:k+1<=(Vm.fst c l).length:=HS.out.1 (by simp[aa])
    go_wp2_with fail
    go_round
    case rel=>exact⟨k+1,h1,by go_num⟩
    case measure=>simp[intOf];omega
  ·go_wp2_with fail
   go_ret
   refine⟨?_,rfl⟩
   have:¬ Vm.has c l=true:=fun h=>by have:=(lE l c).1 h;omega
   show Ending.returned (.int .i64 (-1))=_
   rw[place,if_neg this]
end
section
open Go.RowKit
theorem di (l:List UInt8)(w:World)(hm:l.length<=100) :
  Calls Tryz.prog 80 #[.string ⟨l.toArray⟩] w fun e w'=>e=.returned (.bool (Vm.partOk l))/\w=w':=by
 have am:∀ (x:Bool) (w:World),(Op.unary .not (.bool x)).run Tryz.prog w=.ok (.bool (!x)) w:=fun _ _=>rfl
 by_cases h0:l=[]
 ·subst h0
  go_enter Tryz.func80,Tryz.ntmps80
  go_wp2_with fail
  go_ret
  exact⟨rfl,rfl⟩
 ·have ac:0<l.length:=List.length_pos_iff.2 h0
  have ad:l.length-1<l.length:=by omega
  have he:l.isEmpty=false:=by cases l <;> simp at *
  obtain⟨c0,ao,ae⟩:=byte_at l 0 ac
  obtain⟨cn,ap,af⟩:=byte_at l (l.length-1) ad
  have H:=zh (iO l ac)
  rw[ae,af] at H
  clear ae af h0
  cases hd:Vm.dig c0
  all_goals
   have HD:=zh hd
   clear hd
   go_enter Tryz.func80,Tryz.ntmps80
   go_wp2_with fail
   refine (bK c0 _).mono ?_
   rintro e w' ⟨rfl,rfl⟩
   rw[HD.out]
   go_wp2_with fail
  ·go_ret
   exact⟨by rw[H.out,HD.out];rfl,rfl⟩
  ·refine (bK cn _).mono ?_
   rintro e w' ⟨rfl,rfl⟩
   cases ag:Vm.dig cn
   ·have ah:=zh ag
    clear ag
    go_wp2_with fail
    go_ret
    exact⟨by rw[H.out,HD.out,ah.out];rfl,rfl⟩
   ·have ah:=zh ag
    clear ag
    go_wp2_with fail
    have HE:Hid (Vm.partOk l=l.all Vm.ok1):=by
     show Vm.partOk l=l.all Vm.ok1
     rw[H.out,HD.out,ah.out];rfl
    clear ao ap H HD ah
    go_loop [3] (fun i=>∃ k:Nat,k<=l.length/\i=.int .i64 k/\Hid ((l.take k).all Vm.ok1=true)) (fun i=>l.length-(intOf i).toNat)
    case atStart=>exact⟨0,Nat.zero_le _,rfl,rfl⟩
    case round =>
     obtain⟨k,hk,rfl,aa⟩:=hrel
     by_cases ak:k<l.length
     ·obtain⟨c,hc,al⟩:=byte_at l k ak
      have HS:=zh (dZ l Vm.ok1 k ak)
      rw[al] at HS
      have HF:Vm.ok1 c=false->l.all Vm.ok1=false:=fun h=>eD l _ k ak (by rw[al];exact h)
      have an:=zh HF
      clear al HF
      go_wp2_with fail
      refine (bK c _).mono ?_
      rintro e w' ⟨rfl,rfl⟩
      cases ai:Vm.dig c
      ·have aj:=zh ai
       clear ai
       go_wp2_with fail
       refine (j6 c _).mono ?_
       rintro e w' ⟨rfl,rfl⟩
       cases ho:Vm.ltr c
       ·have HO:=zh ho
        clear ho
        by_cases b1:c.toNat=46
        ·have n1:((c.toNat:Int) != 46)=false:=by simp[b1]
         have HB:Hid (Vm.ok1 c=true):=by show _=_;simp[Vm.ok1,Vm.oth,b1]
         clear b1
         go_wp2_with fail
         go_round
         case rel=>exact⟨k+1,by omega,by go_num,by show _=_;rw[HS.out,aa.out,HB.out];rfl⟩
         case measure=>simp[intOf];omega
        ·by_cases b2:c.toNat=43
         ·have n1:((c.toNat:Int) != 46)=true:=by simp;omega
          have n2:((c.toNat:Int) != 43)=false:=by simp[b2]
          have HB:Hid (Vm.ok1 c=true):=by show _=_;simp[Vm.ok1,Vm.oth,b2]
          clear b1 b2
          go_wp2_with fail
          go_round
          case rel=>exact⟨k+1,by omega,by go_num,by show _=_;rw[HS.out,aa.out,HB.out];rfl⟩
          case measure=>simp[intOf];omega
         ·by_cases b3:c.toNat=126
          ·have n1:((c.toNat:Int) != 46)=true:=by simp;omega
           have n2:((c.toNat:Int) != 43)=true:=by simp;omega
           have n3:((c.toNat:Int) != 126)=false:=by simp[b3]
           have HB:Hid (Vm.ok1 c=true):=by show _=_;simp[Vm.ok1,Vm.oth,b3]
           clear b1 b2 b3
           go_wp2_with fail
           go_round
           case rel=>exact⟨k+1,by omega,by go_num,by show _=_;rw[HS.out,aa.out,HB.out];rfl⟩
           case measure=>simp[intOf];omega
          ·have n1:((c.toNat:Int) != 46)=true:=by simp;omega
           have n2:((c.toNat:Int) != 43)=true:=by simp;omega
           have n3:((c.toNat:Int) != 126)=true:=by simp;omega
           have HB:Hid (Vm.ok1 c=false):=by show _=_;simp[Vm.ok1,Vm.oth,b1,b2,b3,aj.out,HO.out]
           clear b1 b2 b3
           go_wp2_with fail
           go_ret
           exact⟨by rw[HE.out,an.out HB.out];rfl,rfl⟩
       ·have HO:=zh ho
        clear ho
        go_wp2_with fail
        go_round
        case rel=>exact⟨k+1,by omega,by go_num,by show _=_;rw[HS.out,aa.out,Vm.ok1,Vm.oth,aj.out,HO.out];rfl⟩
        case measure=>simp[intOf];omega
      ·have aj:=zh ai
       clear ai
       go_wp2_with fail
       go_round
       case rel=>exact⟨k+1,by omega,by go_num,by show _=_;rw[HS.out,aa.out,Vm.ok1,aj.out];rfl⟩
       case measure=>simp[intOf];omega
     ·obtain rfl:k=l.length:=by omega
      have ab:l.all Vm.ok1=true:=by have:=aa.out;rwa [List.take_length] at this
      have HA:=zh ab
      clear aa ab
      go_wp2_with fail
      go_ret
      exact⟨by rw[HE.out,HA.out];rfl,rfl⟩
def bareR:List UInt8->List UInt8
 | []=>[]
 | b :: r=>if r.isEmpty then b :: r else if b==48 then bareR r else b :: r
theorem jE:∀ l:List UInt8,l≠[]->bareR l=Vm.bare l
 | [],h=>absurd rfl h
 | [b],_=>by
  by_cases hb:b=48
  ·subst hb;rfl
  ·have:(b==48)=false:=by simp[hb]
   simp[bareR,Vm.bare,this]
 | b :: c :: r,_=>by
  have ih:=jE (c :: r) (by simp)
  rw[bareR]
  simp only[List.isEmpty_cons,Bool.false_eq_true,if_false]
  by_cases hb:b=48
  ·subst hb
   simp only[beq_self_eq_true,if_true]
   rw[ih];simp[Vm.bare]
  ·have:(b==48)=false:=by simp[hb]
   rw[this];simp[Vm.bare,this]
theorem yL (l:List UInt8)(h:1<l.length):bareR l=if (l[0]'(by omega)).toNat==48 then bareR (l.drop 1) else l:=by
 match l,h with
 | b :: c :: r,_ =>
  rw[bareR]
  have e:(b==48)=(b.toNat==48):=by
   rw[Bool.eq_iff_iff,beq_iff_eq,beq_iff_eq];exact⟨fun h=>by rw[h];rfl,fun h=>UInt8.toNat.inj (by rw[h];rfl)⟩
  simp[e]
theorem vY (l:List UInt8)(h:¬ 1<l.length):bareR l=l:=by
 match l,h with
 | [],_=>rfl
 | [b],_=>rfl
 | b :: c :: r,h=>simp at h
theorem bp (l:List UInt8)(w:World)(hm:l.length<=1000) :
  Calls Tryz.prog 158 #[.string ⟨l.toArray⟩] w fun e w'=>e=.returned (.string ⟨(bareR l).toArray⟩)/\w=w':=by
 go_enter Tryz.func158,Tryz.ntmps158
 go_wp2_with fail
 go_loop [0] (fun s=>∃ m:List UInt8,m.length<=1000/\s=.string ⟨m.toArray⟩/\Hid (bareR l=bareR m)) (fun s=>strLen s)
 case atStart=>exact⟨l,hm,rfl,rfl⟩
 case round =>
  obtain⟨m,ac,rfl,HE⟩:=hrel
  by_cases h1:1<m.length
  ·obtain⟨c,hc,ab⟩:=byte_at m 0 (by omega)
   have HS:=zh (yL m h1)
   rw[ab] at HS
   clear ab
   by_cases aa:c.toNat=48
   ·have n1:((c.toNat:Int)==48)=true:=by simp[aa]
    have HB:Hid (bareR m=bareR (m.drop 1)):=by show _=_;rw[HS.out];simp[aa]
    clear aa HS
    go_wp2_with fail
    go_round
    case rel=>exact⟨m.drop 1,by simp;omega,by rw[extract_from],by show _=_;rw[HE.out,HB.out]⟩
    case measure=>rw[extract_from];simp[strLen];omega
   ·have n1:((c.toNat:Int)==48)=false:=by simp;omega
    have HB:Hid (bareR m=m):=by show _=_;rw[HS.out];simp[aa]
    clear aa HS
    go_wp2_with fail
    go_ret
    exact⟨by rw[HE.out,HB.out];rfl,rfl⟩
  ·have HB:=zh (vY m h1)
   go_wp2_with fail
   go_ret
   exact⟨by rw[HE.out,HB.out];rfl,rfl⟩
theorem sV (l:List UInt8):l.takeWhile (fun c=>Vm.dig c==true)=Vm.digs l/\l.dropWhile (fun c=>Vm.dig c==true)=Vm.undigs l:=by
 have:(fun c=>Vm.dig c==true)=Vm.dig:=by funext c;cases Vm.dig c <;> rfl
 rw[this];exact⟨rfl,rfl⟩
theorem qo (l:List UInt8):l.takeWhile (fun c=>Vm.dig c==false)=Vm.oths l/\l.dropWhile (fun c=>Vm.dig c==false)=Vm.unoths l:=by
 have:(fun c=>Vm.dig c==false)=fun c => !Vm.dig c:=by funext c;cases Vm.dig c <;> rfl
 rw[this];exact⟨rfl,rfl⟩
theorem xq (l:List UInt8)(b:Bool)(w:World)(hm:l.length<=1000) :
  Calls Tryz.prog 128 #[.string ⟨l.toArray⟩,.bool b] w fun e w'=>e=.returned (.tuple #[.string ⟨(l.takeWhile (fun c=>Vm.dig c==b)).toArray⟩,.string ⟨(l.dropWhile (fun c=>Vm.dig c==b)).toArray⟩])/\Below w.heap.size w w':=by
 have hle:=yJ (fun c=>Vm.dig c==b) l
 have HT:=zh (lD (fun c=>Vm.dig c==b) l)
 have HD:=zh (o9 (fun c=>Vm.dig c==b) l)
 have HS:=zh (o8 (fun c=>Vm.dig c==b) l)
 obtain⟨n,hn⟩:=ex ((l.takeWhile (fun c=>Vm.dig c==b)).length)
 have aa:Hid (l.take n=l.takeWhile (fun c=>Vm.dig c==b)):=by have:=HT.out;rwa [hn] at this
 have ab:Hid (l.drop n=l.dropWhile (fun c=>Vm.dig c==b)):=by have:=HD.out;rwa [hn] at this
 have ae:Hid (∀ (k:Nat) (h:k<l.length),k<=n->((Vm.dig l[k]==b)=true↔k+1<=n)):=by have:=HS.out;rwa [hn] at this
 rw[hn] at hle
 clear hn HT HD HS
 go_enter Tryz.func128,Tryz.ntmps128
 go_wp2_with fail
 go_loop [6] (fun i=>∃ k:Nat,k<=n/\i=.int .i64 k) (fun i=>l.length-(intOf i).toNat)
 case atStart=>exact⟨0,Nat.zero_le _,rfl⟩
 case round =>
  obtain⟨k,hk,rfl⟩:=hrel
  by_cases ac:k<l.length
  ·obtain⟨c,hc,ad⟩:=byte_at l k ac
   have HK:=zh (ae.out k ac hk)
   rw[ad] at HK
   clear ad
   cases hd:Vm.dig c==b
   ·have hz:¬ (k+1<=n):=fun h=>by have:=HK.out.2 h;rw[hd] at this;cases this
    obtain rfl:n=k:=by omega
    go_wp2_with fail
    refine (bK c _).mono ?_
    rintro e w' ⟨rfl,rfl⟩
    go_wp2_with fail
    go_quiet (fail)
    go_wp2_with fail
    go_ret2
    refine⟨?_,below_drewN (Below.refl _ _) _⟩
    show Ending.returned (.tuple #[.string (ByteArray.extract ⟨l.toArray⟩ 0 n),.string (ByteArray.extract ⟨l.toArray⟩ n l.length)])=_
    rw[extract_from,jB,aa.out,ab.out]
   ·have hz:k+1<=n:=HK.out.1 hd
    go_wp2_with fail
    refine (bK c _).mono ?_
    rintro e w' ⟨rfl,rfl⟩
    go_wp2_with fail
    go_round
    case rel=>exact⟨k+1,hz,by go_num⟩
    case measure=>simp[intOf];omega
  ·obtain rfl:n=l.length:=by omega
   obtain rfl:k=l.length:=by omega
   go_wp2_with fail
   go_quiet (fail)
   go_wp2_with fail
   go_ret2
   refine⟨?_,below_drewN (Below.refl _ _) _⟩
   show Ending.returned (.tuple #[.string (ByteArray.extract ⟨l.toArray⟩ 0 l.length),.string ⟨([]:List UInt8).toArray⟩])=_
   rw[jB,aa.out,<-ab.out,List.drop_length]
end
end Go.Proofs.YtgnaiidgjmicaaaGreatDoor
