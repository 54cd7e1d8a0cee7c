/- Part 3 of what the laws lean on. -/
import Derived.Test.YtkoaljpfoekgkaaGreatDoorM02
import Derived.Lib.SmallJoins
import Derived.Deep.AppendLies
import Derived.Deep.Upon
set_option maxHeartbeats 800000
namespace Go.Proofs.YtkoaljpfoekgkaaGreatDoor
namespace Rs
open Go.RowKit Go.ChangeShapes Go.WideShapes Go.Joins
theorem add_block (a:Addr)(n:Nat):(a.add n).block=a.block:=by unfold Addr.add;split <;> rfl
theorem da {w:World}{a:Addr}{v:Value}(h:w.cell? a=some v):a.block<w.heap.size:=by
 rcases Nat.lt_or_ge a.block w.heap.size with h1 | h1
 ·exact h1
 ·unfold World.cell? at h
  rw[Array.getElem?_eq_none h1] at h
  cases h
end Rs
namespace Rg
open Go.RowKit Go.ChangeShapes Go.WideShapes
section
variable {α:Type} (enc:α->List Value) (K:Nat)
def flat (l:List α):List Value:=l.flatMap enc
theorem cj (l m:List α):flat enc (l++m)=flat enc l++flat enc m:=List.flatMap_append
theorem qf (x:α):flat enc [x]=enc x:=by simp[flat]
structure Fits:Prop where
 len:∀ x,(enc x).length=K
 one:∀ x,∀ u∈enc x,u.oneCell'=true
variable {enc K}
theorem bM (h:Fits enc K):∀ l:List α,(flat enc l).length=l.length*K
 | []=>by simp[flat]
 | s :: l=>by
  show (enc s++flat enc l).length=_
  rw[List.length_append,bM h l,h.len,List.length_cons,Nat.add_mul];omega
theorem flat_get (h:Fits enc K):∀ (l:List α) (i:Nat) (hi:i<l.length) (j:Nat),j<K->(flat enc l)[i*K+j]?=(enc l[i])[j]?
 | [],_,hi,_,_=>absurd hi (by simp)
 | s :: l,0,_,j,hj=>by
  show (enc s++flat enc l)[0*K+j]?=_
  rw[Nat.zero_mul,Nat.zero_add,List.getElem?_append_left (by rw[h.len];exact hj)];rfl
 | s :: l,i+1,hi,j,hj=>by
  show (enc s++flat enc l)[(i+1)*K+j]?=_
  rw[List.getElem?_append_right (by rw[h.len,Nat.add_mul];omega),h.len,show (i+1)*K+j-K=i*K+j from by rw[Nat.add_mul];omega]
  exact flat_get h l i (by simpa using hi) j hj
theorem bJ (h:Fits enc K)(l:List α):∀ u∈flat enc l,u.oneCell'=true:=fun u hu=>by
 obtain⟨x,_,hx⟩:=List.mem_flatMap.1 hu
 exact h.one x u hx
variable (enc K)
def At (w:World) (p:Addr) (x:α):Prop:=∀ j v,(enc x)[j]?=some v->w.cell? (if j=0 then p else ⟨p.block,p.off+j,none⟩)=some v
def Row (w:World) (A:Option Addr) (l:List α):Prop:=0<l.length->∃ a,A=some a/\a.block<w.heap.size/\∀ (i:Nat) (h:i<l.length),At enc w (a.add (i*K)) l[i]
def Own (w:World) (B:Nat) (T:TypeId) (v:Value) (l:List α):Prop:=w.ownsRow B T K v l.length (flat enc l)
variable {enc K}
theorem add_zero (a:Addr):a.add 0=a:=by unfold Addr.add;rfl
theorem jK (a:Addr)(m j:Nat):a.add (m+j)=if j=0 then a.add m else ⟨(a.add m).block,(a.add m).off+j,none⟩:=by
 by_cases hj:j=0
 ·subst hj;simp
 ·rw[if_neg hj]
  unfold Addr.add
  rw[if_neg (by omega)]
  by_cases hm:m=0
  ·subst hm;simp
  ·rw[if_neg hm];show (⟨_,_,_⟩:Addr)=⟨_,_,_⟩;rw[Nat.add_assoc]
theorem zE {w w':World}{p:Addr}{x:α}(hp:p.block<w.heap.size)(h:At enc w p x)(hb:Below w.heap.size w w'):At enc w' p x:=fun j v hv=>by
 rw[hb.cell (by split <;> exact hp)];exact h j v hv
theorem ah {w w':World}{A:Option Addr}{l:List α}(h:Row enc K w A l)(hb:Below w.heap.size w w'):Row enc K w' A l:=fun h0=>by
 obtain⟨a,e,hl,hc⟩:=h h0
 exact⟨a,e,Nat.lt_of_lt_of_le hl hb.size,fun i hi=>zE (by rw[Rs.add_block];exact hl) (hc i hi) hb⟩
theorem uy (w:World)(A:Option Addr):Row enc K w A ([]:List α):=fun h=>absurd h (by simp)
theorem bO {w:World}{A:Option Addr}{l:List α}(h:Row enc K w A l)(k:Nat)(hk:k<l.length):∃ ad x,A=some ad/\l[k]=x/\ad.block<w.heap.size/\At enc w (ad.add (k*K)) x:=by
 obtain⟨ad,e,hl,hc⟩:=h (by omega)
 exact⟨ad,_,e,rfl,hl,hc k hk⟩
theorem aw (w:World)(B:Nat)(T:TypeId):Own enc K w B T (.slice none 0 0) ([]:List α):=World.ownsRow_nil w B T K
theorem aA (hf:Fits enc K){w:World}{B:Nat}{T:TypeId}{v:Value}{l:List α}(h:Own enc K w B T v l):∃ A c,v=.slice A l.length c/\Row enc K w A l/\l.length<=c/\c<=maxLen:=by
 have h0:=h
 rcases h.2 with⟨rfl,h1⟩ | ⟨g,cap,cur,rfl,hb,hg,hn,hm,hs,ht⟩
 ·refine⟨none,0,by rw[h1],fun h2=>by omega,by omega,by unfold maxLen;omega⟩
 ·refine⟨_,_,rfl,fun h2=>⟨_,rfl,?_,fun i hi j v hv=>?_⟩,hn,hm⟩
  ·exact (Array.getElem?_eq_some_iff.1 hg).1
  ·have hc:=World.ownsRow.cells h0 (g:=g) rfl
   have hj:j<K:=by rw[<-hf.len l[i]];exact (List.getElem?_eq_some_iff.1 hv).1
   rw[<-jK]
   exact hc _ _ (by rw[flat_get hf l i hi j hj];exact hv)
theorem own_below {w w':World}{B:Nat}{T:TypeId}{v:Value}{l:List α}(h:Own enc K w B T v l)(hb:Below w.heap.size w w'):Own enc K w' B T v l:=by
 obtain⟨h1,h2⟩:=h
 refine⟨h1,?_⟩
 rcases h2 with h2 | ⟨g,cap,cur,e1,e2,e3,e4⟩
 ·exact Or.inl h2
 ·refine Or.inr ⟨g,cap,cur,e1,e2,?_,e4⟩
  rw[hb.block g ((Array.getElem?_eq_some_iff.1 e3).1)];exact e3
theorem bC {w:World}{B:Nat}{T:TypeId}{v:Value}{l:List α}(h:Own enc K w B T v l):∀ k,v.ownBlock=some k->B<=k/\k<w.heap.size:=World.ownsRow.lt h
theorem au {w w':World}{B:Nat}{T:TypeId}{v:Value}{l:List α}(h:Own enc K w B T v l)(hB:B<=w.heap.size)(hg:w.grownBy w' v.ownBlock):Below B w w' :=
 (Below.refl B w).grown hg hB (fun k hk=>(bC h k hk).1)
end
end Rg
namespace Rg
open Go.RowKit Go.ChangeShapes Go.WideShapes
structure SliceT {α:Type} (P:Program) (enc:α->List Value) (K:Nat) (ST T:TypeId):Prop where
 fits:Fits enc K
 pos:0<K
 under:P.underlying ST=some (.slice T)
 info:∃ i z,P.info? T=some i/\i.zero=some z/\z.cells.size=K/\i.size=K/\i.bytes<=1000
theorem bL {P:Program}{T:TypeId}{z:Value}{K b:Nat}(h:(P.info? T).map (fun i=>(i.zero,i.size,i.bytes))=some (some z,K,b))(hz:z.cells.size=K)(hb:b<=1000) :
  ∃ i z,P.info? T=some i/\i.zero=some z/\z.cells.size=K/\i.size=K/\i.bytes<=1000:=by
 obtain⟨i0,hi,aa,ab,ac⟩:=info_parts h
 exact⟨i0,z,hi,aa,hz,ab,by omega⟩
section
variable {α:Type} {P:Program} {enc:α->List Value} {K:Nat} {ST T:TypeId} {w:World}
theorem aO (hT:SliceT P enc K ST T){ops:Array Oper}{rest:List Oper}{o:Oper}{a:Act}{Q:Exit->Act->World->Prop}(hgd:o.guard=none)(sl x:Operand)
  (ho:o.op=.call { callee:=.builtin .append,args:=#[sl,x],argTypes:=#[ST,ST] })
  (B:Nat) (v:Value) (l m:List α) (hs:a.eval sl=v) (hown:Own enc K w B T v l) (ad:Addr) (c:Nat) (hx:a.eval x=.slice (some ad) m.length c)
  (hnews:∀ j u,(flat enc m)[j]?=some u->w.cell? (ad.add j)=some u) (hm:0<m.length) (hsz:l.length+m.length<=1000000) (hB:B<=w.heap.size)
  (h:∀ v' w',Own enc K w' B T v' (l++m)->w.grownBy w' v.ownBlock->w.heap.size<=w'.heap.size->wpList P ops Q rest (a.put o.dst v') w'):wpList P ops Q (o :: rest) a w:=by
 obtain⟨i,z,hi,aa,ab,ac,hb⟩:=hT.info
 refine wpList_append_lies w hgd sl x ST ho B T i z K i.bytes hT.under hi aa ac rfl ab hT.pos v l.length (flat enc l) hs hown ad m.length c (flat enc m) hx (bM hT.fits m) hnews (bJ hT.fits m) hm (by unfold maxLen;omega) (by
  have:(l.length+m.length)*i.bytes<=1000000*1000:=Nat.mul_le_mul hsz hb
  omega) hB _ rfl ?_
 intro g cap w' h1 h2 _ _
 refine h _ w' ?_ h2 h2.size
 unfold Own
 rw[cj,List.length_append]
 exact h1
theorem c6 (hT:SliceT P enc K ST T){ops:Array Oper}{o:Oper}{a:Act}{G:Act->World->Prop}{Q:Exit->Act->World->Prop}{E:Prop}(hgd:o.guard=none)(sl x:Operand)
  (ho:o.op=.call { callee:=.builtin .append,args:=#[sl,x],argTypes:=#[ST,ST] })
  (B:Nat) (v:Value) (l m:List α) (hs:a.eval sl=v) (hown:Own enc K w B T v l) (ad:Addr) (c:Nat) (hx:a.eval x=.slice (some ad) m.length c)
  (hnews:∀ j u,(flat enc m)[j]?=some u->w.cell? (ad.add j)=some u) (hm:0<m.length) (hsz:l.length+m.length<=1000000) (hB:B<=w.heap.size)
  (h:∀ v' w',Own enc K w' B T v' (l++m)->w.grownBy w' v.ownBlock->w.heap.size<=w'.heap.size->G (a.put o.dst v') w'):if Region.wanted o (yielded ops a.tmps)=true then Oper.wp P o a w G Q else E:=by
 obtain⟨i,z,hi,aa,ab,ac,hb⟩:=hT.info
 refine step_append_lies w hgd sl x ST ho B T i z K i.bytes hT.under hi aa ac rfl ab hT.pos v l.length (flat enc l) hs hown ad m.length c (flat enc m) hx (bM hT.fits m) hnews (bJ hT.fits m) hm (by unfold maxLen;omega) (by
  have:(l.length+m.length)*i.bytes<=1000000*1000:=Nat.mul_le_mul hsz hb
  omega) hB _ rfl ?_
 intro g cap w' h1 h2 _ _
 refine h _ w' ?_ h2 h2.size
 unfold Own
 rw[cj,List.length_append]
 exact h1
theorem ay (w:World)(T:TypeId)(m:List α)(cs:Array Value)(h:cs.toList=flat enc m):∀ j u,(flat enc m)[j]?=some u->(w.alloc (.cells cs T)).cell? ((⟨w.heap.size,0,none⟩:Addr).add j)=some u :=
 fun j u hu=>World.news_of_block (heap_alloc_new w _) j u (by rw[h];exact hu)
end
end Rg
section
open Go.RowKit Rs
attribute [local go_sem ↓] Go.wp_at_zero Go.wp_at_succ
abbrev Desc:=Option Addr × Nat × Nat
def encO (d:Desc):List Value:=[.slice d.1 d.2.1 d.2.2]
def encT (l:List UInt8):List Value:=[.string ⟨l.toArray⟩]
theorem fitsO:Rg.Fits encO 1:=⟨fun _=>rfl,fun x u hu=>by
 simp only[encO,List.mem_cons,List.not_mem_nil,or_false] at hu
 rcases hu with rfl;rfl⟩
theorem fitsT:Rg.Fits encT 1:=⟨fun _=>rfl,fun x u hu=>by
 simp only[encT,List.mem_cons,List.not_mem_nil,or_false] at hu
 rcases hu with rfl;rfl⟩
theorem sliceTx:Rg.SliceT Tryz.prog encT 1 46 9:=⟨fitsT,by decide,by kernel_rfl,Rg.bL (z:=.string ByteArray.empty) (b:=16) (by kernel_rfl) (by rfl) (by decide)⟩
theorem db {α:Type}{enc:α->List Value}{K:Nat}{w w':World}{A:Option Addr}{l:List α}{row:Option Nat}(h:Rg.Row enc K w A l)(hg:w.grownBy w' row)(hne:0<l.length->∀ a,A=some a->row≠some a.block):Rg.Row enc K w' A l:=fun h0=>by
 obtain⟨a,e,hb,hc⟩:=h h0
 refine⟨a,e,Nat.lt_of_lt_of_le hb hg.size,fun i hi j v hv=>?_⟩
 have hn:some a.block≠row:=fun e2=>hne h0 a e e2.symm
 have hblk:(a.add (i*K)).block=a.block:=add_block _ _
 have hq:(if j=0 then a.add (i*K) else ⟨(a.add (i*K)).block,(a.add (i*K)).off+j,none⟩:Addr).block=a.block:=by split <;> exact hblk
 rw[hg.cell_far _ (by rw[hq];exact hb) (by rw[hq];exact hn)]
 exact hc i hi j v hv
theorem aI {α:Type}{l:List α}{x y:α}{i:Nat}(h:(l++[x])[i]?=some y):(i<l.length/\l[i]?=some y)\/(i=l.length/\y=x):=by
 by_cases hi:i<l.length
 ·rw[List.getElem?_append_left hi] at h;exact Or.inl ⟨hi,h⟩
 ·rw[List.getElem?_append_right (by omega)] at h
  by_cases h0:i-l.length=0
  ·rw[h0] at h;simp at h;exact Or.inr ⟨by omega,h.symm⟩
  ·obtain⟨k,hk⟩:∃ k,i-l.length=k+1:=⟨i-l.length-1,by omega⟩
   rw[hk] at h;simp at h
end
namespace Rg
open Go.RowKit Go.ChangeShapes Go.WideShapes
section
variable {α:Type} {P:Program} {enc:α->List Value} {K:Nat} {ST T:TypeId} {w:World}
theorem qh {B n cap:Nat}{A:Option Addr}{l:List α}(h:Own enc K w B T (.slice A n cap) l)(hl:0<l.length):∃ g,A=some ⟨g,0,none⟩/\B<=g/\g<w.heap.size/\(∀ j,w.frozen? ⟨g,j,none⟩=false):=by
 rcases h.2 with⟨_,h1⟩ | ⟨g,cp,cur,e,hb,hg,_⟩
 ·omega
 ·cases e
  refine⟨g,rfl,hb,(Array.getElem?_eq_some_iff.1 hg).1,fun j=>frozen_of_row w g j cur T hg⟩
end
end Rg
namespace Rg
section
variable {α:Type} {enc:α->List Value} {K:Nat} {w:World}
theorem qi {B B':Nat}{T:TypeId}{v:Value}{l:List α}(hB:B<=B')(h:Own enc K w B' T v l):Own enc K w B T v l:=by
 refine⟨h.1,?_⟩
 rcases h.2 with h2 | ⟨g,cap,cur,e,hb,h3⟩
 ·exact Or.inl h2
 ·exact Or.inr ⟨g,cap,cur,e,Nat.le_trans hB hb,h3⟩
end
end Rg
namespace Gr
open Go.RowKit Rs
section
variable {α:Type} (enc:α->List Value) (K:Nat)
def In (w:World) (ds:List Desc) (t:List (List α)):Prop:=ds.length=t.length/\∀ (i:Nat) (d:Desc) (l:List α),ds[i]?=some d->t[i]?=some l->d.2.1=l.length/\Rg.Row enc K w d.1 l
def Free (v:Value) (ds:List Desc) (t:List (List α)):Prop:=∀ (i:Nat) (d:Desc) (l:List α),ds[i]?=some d->t[i]?=some l->0<l.length->∀ a,d.1=some a->v.ownBlock≠some a.block
def Row (w:World) (A:Option Addr) (t:List (List α)):Prop:=∃ ds,Rg.Row encO 1 w A ds/\In enc K w ds t
variable {enc K}
theorem g8 {w w':World}{ds:List Desc}{t:List (List α)}(h:In enc K w ds t)(hb:Below w.heap.size w w'):In enc K w' ds t:=⟨h.1,fun i d l h1 h2=>⟨(h.2 i d l h1 h2).1,Rg.ah (h.2 i d l h1 h2).2 hb⟩⟩
theorem ah {w w':World}{A:Option Addr}{t:List (List α)}(h:Row enc K w A t)(hb:Below w.heap.size w w'):Row enc K w' A t:=by
 obtain⟨ds,h1,h2⟩:=h;exact⟨ds,Rg.ah h1 hb,g8 h2 hb⟩
end
end Gr
namespace Rs
open Go.RowKit Go.ChangeShapes Go.WideShapes Go.Joins
instance:Inhabited Sp:=⟨⟨[],[],false,false⟩⟩
def SpAt (w:World) (a:Addr) (s:Sp):Prop :=
 w.cell? (a.add 0)=some (.string ⟨s.lo.toArray⟩)/\w.cell? (a.add 1)=some (.string ⟨s.hi.toArray⟩)/\w.cell? (a.add 2)=some (.bool s.li)/\w.cell? (a.add 3)=some (.bool s.hn)
def SRow (w:World) (A:Option Addr) (l:List Sp):Prop:=0<l.length->∃ a,A=some a/\a.block<w.heap.size/\∀ (i:Nat) (h:i<l.length),SpAt w (a.add (i*4)) l[i]
end Rs
namespace Rs
open Go.RowKit Go.ChangeShapes Go.WideShapes
def spC (s:Sp):List Value:=[.string ⟨s.lo.toArray⟩,.string ⟨s.hi.toArray⟩,.bool s.li,.bool s.hn]
def flat (l:List Sp):List Value:=l.flatMap spC
theorem nF (s:Sp)(l:List Sp):flat (s :: l)=spC s++flat l:=rfl
theorem flat_get:∀ (l:List Sp) (i:Nat) (h:i<l.length) (j:Nat),j<4->(flat l)[i*4+j]?=(spC l[i])[j]?
 | [],_,h,_,_=>absurd h (by simp)
 | s :: l,0,_,j,hj=>by
  rw[nF,List.getElem?_append_left (by show 0*4+j<4;omega),Nat.zero_mul,Nat.zero_add];rfl
 | s :: l,i+1,h,j,hj=>by
  rw[nF,List.getElem?_append_right (by show 4<=_;omega)]
  rw[show (i+1)*4+j-(spC s).length=i*4+j from by show (i+1)*4+j-4=_;omega]
  exact flat_get l i (by simpa using h) j hj
def SOwn (w:World) (B:Nat) (T:TypeId) (v:Value) (l:List Sp):Prop:=w.ownsRow B T 4 v l.length (flat l)
theorem zF {w:World}{B:Nat}{T:TypeId}{v:Value}{l:List Sp}(h:SOwn w B T v l):∃ A c,v=.slice A l.length c/\SRow w A l:=by
 have h0:=h
 rcases h.2 with⟨rfl,h1⟩ | ⟨g,cap,cur,rfl,hb,hg,hn,hm,hs,ht⟩
 ·refine⟨none,0,by rw[h1],fun h2=>by omega⟩
 ·refine⟨_,_,rfl,fun h2=>⟨_,rfl,?_,fun i hi=>?_⟩⟩
  ·exact (Array.getElem?_eq_some_iff.1 hg).1
  ·have hc:=World.ownsRow.cells h0 (g:=g) rfl
   have key:∀ j u,j<4->(spC l[i])[j]?=some u->w.cell? (((⟨g,0,none⟩:Addr).add (i*4)).add j)=some u:=fun j u hj hu=>by
    rw[Go.Deep.add_add]
    exact hc _ _ (by rw[flat_get l i hi j hj];exact hu)
   exact⟨key 0 _ (by omega) rfl,key 1 _ (by omega) rfl,key 2 _ (by omega) rfl,key 3 _ (by omega) rfl⟩
theorem vz {w w':World}{a:Addr}{s:Sp}(h:SpAt w a s)(hb:Below w.heap.size w w'):SpAt w' a s:=by
 obtain⟨h0,h1,h2,h3⟩:=h
 exact⟨by rw[hb.cell (da h0)];exact h0,by rw[hb.cell (da h1)];exact h1,by rw[hb.cell (da h2)];exact h2,by rw[hb.cell (da h3)];exact h3⟩
theorem aj {w w':World}{A:Option Addr}{l:List Sp}(h:SRow w A l)(hb:Below w.heap.size w w'):SRow w' A l:=fun h0=>by
 obtain⟨a,e,hl,hc⟩:=h h0
 exact⟨a,e,Nat.lt_of_lt_of_le hl hb.size,fun i hi=>vz (hc i hi) hb⟩
end Rs
section
open Go.RowKit
theorem beq46 (c:UInt8):((c.toNat:Int)==46)=(c.toNat==46):=by rw[Bool.eq_iff_iff];simp;omega
theorem beq43 (c:UInt8):((c.toNat:Int)==43)=(c.toNat==43):=by rw[Bool.eq_iff_iff];simp;omega
theorem beq126 (c:UInt8):((c.toNat:Int)==126)=(c.toNat==126):=by rw[Bool.eq_iff_iff];simp;omega
theorem dU (c:UInt8)(w:World) :
  Calls Tryz.prog 122 #[.int .u8 c.toNat] w fun e w'=>e=.returned (.bool (Vm.dig c))/\w=w':=by
 unfold Vm.dig
 by_cases h1:48<=c.toNat <;> by_cases h2:c.toNat<=57
 all_goals
  go_enter Tryz.func122,Tryz.ntmps122
  go_wp2
 all_goals
  go_ret
  exact⟨by first | (simp[h1,h2];done) | (simp[h1,h2];omega),rfl⟩
theorem iX (c:UInt8)(w:World) :
  Calls Tryz.prog 159 #[.int .u8 c.toNat] w fun e w'=>e=.returned (.bool (Vm.ltr c))/\w=w':=by
 unfold Vm.ltr
 by_cases h1:97<=c.toNat <;> by_cases h2:c.toNat<=122 <;> by_cases h3:65<=c.toNat <;> by_cases h4:c.toNat<=90
 all_goals
  go_enter Tryz.func159,Tryz.ntmps159
  go_wp2
 all_goals
  go_ret
  exact⟨by first | (simp[h1,h2,h3,h4];done) | (simp[h1,h2,h3,h4];omega),rfl⟩
theorem sP (c:UInt8)(w:World) :
  Calls Tryz.prog 123 #[.int .u8 c.toNat] w fun e w'=>e=.returned (.bool (Vm.oth c))/\w=w':=by
 go_enter Tryz.func123,Tryz.ntmps123
 go_wp2_with fail
 refine (iX c _).mono ?_
 rintro e w' ⟨rfl,rfl⟩
 cases hl:Vm.ltr c
 all_goals
  have HL:=zh hl
  clear hl
  go_wp2
 all_goals
  go_ret
  refine⟨?_,rfl⟩
  have hl:=HL.out
  clear HL
  unfold Vm.oth
  rw[hl]
  first | (simp[beq46,beq43,beq126];done) | (simp[beq46,beq43,beq126];omega) | (simp[beq46,beq43,beq126,Bool.or_assoc];done)
theorem xi (c:UInt8):wrap64 (c.toNat:Int)=c.toNat:=IntWalk.wrap64_in _ ⟨by omega,by have:=ux c;omega⟩
theorem zG (c:UInt8):wrap64 (256+(c.toNat:Int))=256+c.toNat:=IntWalk.wrap64_in _ ⟨by omega,by have:=ux c;omega⟩
theorem zH (l:List UInt8)(i:Nat)(h:l.length<=i):Vm.mark l i=0:=by simp[Vm.mark,h]
theorem abS (l:List UInt8)(i:Nat)(h:i<l.length):Vm.mark l i=Vm.markB l[i]:=by
 unfold Vm.mark Vm.markB
 rw[if_neg (by omega)]
 simp[h]
theorem qj (l:List UInt8)(i:Nat)(w:World) :
  Calls Tryz.prog 162 #[.string ⟨l.toArray⟩,.int .i64 i] w fun e w'=>e=.returned (.int .i64 (Vm.mark l i))/\w=w':=by
 by_cases h:i<l.length
 ·obtain⟨c,hc,aa⟩:=byte_at l i h
  have H:=zh (abS l i h)
  rw[aa] at H
  clear aa
  by_cases h1:c.toNat=126
  ·have h2:((c.toNat:Int)==126)=true:=by simp[h1]
   have H1:=zh h1
   clear h1
   go_enter Tryz.func162,Tryz.ntmps162
   go_wp2_with fail
   go_ret
   exact⟨by rw[H.out];simp[Vm.markB,H1.out],rfl⟩
  ·have h2:((c.toNat:Int)==126)=false:=by simp;omega
   go_enter Tryz.func162,Tryz.ntmps162
   go_wp2_with fail
   refine (iX c _).mono ?_
   rintro e w' ⟨rfl,rfl⟩
   cases hl:Vm.ltr c
   all_goals
    have HL:=zh hl
    clear hl
    go_wp2
   all_goals
    go_ret
    exact⟨by rw[H.out];simp[Vm.markB,HL.out,h1,xi,zG],rfl⟩
 ·have H:=zh (zH l i (by omega))
  go_enter Tryz.func162,Tryz.ntmps162
  go_wp2_with fail
  go_ret
  exact⟨by rw[H.out];rfl,rfl⟩
end
section
open Go.RowKit
theorem g9 (l:List UInt8)(p:UInt8->Bool)(k:Nat)(h:k<l.length):(l.take (k+1)).all p=((l.take k).all p&&p l[k]):=by
 rw[List.take_succ_eq_append_getElem h,List.all_append];simp only[List.all_cons,List.all_nil,Bool.and_true]
theorem iY (l:List UInt8)(p:UInt8->Bool)(k:Nat)(h:k<l.length)(hp:p l[k]=false):l.all p=false:=by
 rw[Bool.eq_false_iff];intro ha;rw[List.all_eq_true] at ha;have:=ha _ (List.getElem_mem h);simp[hp] at this
theorem sQ (l:List UInt8)(h:0<l.length):Vm.partOk l=(Vm.dig l[0]&&(Vm.dig (l[l.length-1]'(by omega))&&l.all Vm.ok1)):=by
 have hl:l.length-1<l.length:=by omega
 have he:l.isEmpty=false:=by cases l <;> simp at *
 simp[Vm.partOk,h,he,hl]
theorem fy (l:List UInt8)(w:World)(hm:l.length<=100) :
  Calls Tryz.prog 91 #[.string ⟨l.toArray⟩] w fun e w'=>e=okOr (Vm.partOk l) 5/\w=w':=by
 by_cases h0:l=[]
 ·subst h0
  go_enter Tryz.func91,Tryz.ntmps91
  go_wp2_with fail
  refine (ai _).mono ?_
  rintro e w' ⟨rfl,rfl⟩
  go_wp2_with fail
  exact⟨rfl,rfl,rfl⟩
 ·have ac:0<l.length:=List.length_pos_iff.2 h0
  have ad:l.length-1<l.length:=by omega
  have he:l.isEmpty=false:=by cases l <;> simp at *
  obtain⟨c0,ap,ae⟩:=byte_at l 0 ac
  obtain⟨cn,aq,af⟩:=byte_at l (l.length-1) ad
  have H:=zh (sQ l ac)
  rw[ae,af] at H
  clear ae af h0
  cases hd:Vm.dig c0
  all_goals
   have HD:=zh hd
   clear hd
   go_enter Tryz.func91,Tryz.ntmps91
   go_wp2_with fail
   refine (dU c0 _).mono ?_
   rintro e w' ⟨rfl,rfl⟩
   rw[HD.out]
   go_wp2_with fail
  ·refine (ai _).mono ?_
   rintro e w' ⟨rfl,rfl⟩
   go_wp2_with fail
   refine⟨rfl,?_,rfl⟩
   rw[H.out,HD.out];rfl
  ·refine (dU cn _).mono ?_
   rintro e w' ⟨rfl,rfl⟩
   cases ah:Vm.dig cn
   ·have aj:=zh ah
    clear ah
    go_wp2_with fail
    refine (ai _).mono ?_
    rintro e w' ⟨rfl,rfl⟩
    go_wp2_with fail
    refine⟨rfl,?_,rfl⟩
    rw[H.out,HD.out,aj.out];rfl
   ·have aj:=zh ah
    clear ah
    go_wp2_with fail
    refine (ag _).mono ?_
    rintro e w' ⟨rfl,rfl⟩
    go_wp2_with fail
    have HE:Hid (Vm.partOk l=l.all Vm.ok1):=by
     show Vm.partOk l=l.all Vm.ok1
     rw[H.out,HD.out,aj.out];rfl
    clear ap aq H HD aj
    go_loop [21] (fun i=>∃ k:Nat,k<=l.length/\i=.int .i64 k/\Hid ((l.take k).all Vm.ok1=true)) (fun i=>l.length-(intOf i).toNat)
    case atStart=>exact⟨0,Nat.zero_le _,rfl,rfl⟩
    case round =>
     obtain⟨k,hk,rfl,aa⟩:=hrel
     by_cases am:k<l.length
     ·obtain⟨c,hc,an⟩:=byte_at l k am
      have HS:=zh (g9 l Vm.ok1 k am)
      rw[an] at HS
      have HF:Vm.ok1 c=false->l.all Vm.ok1=false:=fun h=>iY l _ k am (by rw[an];exact h)
      have ao:=zh HF
      clear an HF
      go_wp2_with fail
      refine (dU c _).mono ?_
      rintro e w' ⟨rfl,rfl⟩
      cases ak:Vm.dig c
      ·have al:=zh ak
       clear ak
       go_wp2_with fail
       refine (sP c _).mono ?_
       rintro e w' ⟨rfl,rfl⟩
       cases ho:Vm.oth c
       ·have HO:=zh ho
        clear ho
        go_wp2_with fail
        refine (ai _).mono ?_
        rintro e w' ⟨rfl,rfl⟩
        go_wp2_with fail
        refine⟨rfl,?_,rfl⟩
        rw[HE.out,ao.out (by rw[Vm.ok1,al.out,HO.out];rfl)];rfl
       ·have HO:=zh ho
        clear ho
        go_wp2_with fail
        refine (ag _).mono ?_
        rintro e w' ⟨rfl,rfl⟩
        go_wp2_with fail
        go_round
        case rel=>exact⟨k+1,by omega,by go_num,by show _=_;rw[HS.out,aa.out,Vm.ok1,al.out,HO.out];rfl⟩
        case measure=>simp[intOf];omega
      ·have al:=zh ak
       clear ak
       go_wp2_with fail
       refine (ag _).mono ?_
       rintro e w' ⟨rfl,rfl⟩
       go_wp2_with fail
       go_round
       case rel=>exact⟨k+1,by omega,by go_num,by show _=_;rw[HS.out,aa.out,Vm.ok1,al.out];rfl⟩
       case measure=>simp[intOf];omega
     ·obtain rfl:k=l.length:=by omega
      have ab:l.all Vm.ok1=true:=by have:=aa.out;rwa [List.take_length] at this
      have HA:=zh ab
      clear aa ab
      go_wp2_with fail
      go_end0
      exact⟨by rw[HE.out,HA.out];rfl,rfl⟩
end
section
open Go.RowKit
def cs10:List UInt8:=[48,49,50,51,52,53,54,55,56,57]
theorem qk (c:UInt8):cs10.contains c=Vm.dig c:=ac1 (fun c=>cs10.contains c) Vm.dig (by decide +kernel) c
theorem sR (l:List UInt8):Lib.trimLeftS l cs10=Vm.undigs l:=by
 unfold Lib.trimLeftS Vm.undigs
 congr 1;funext c;exact qk c
theorem xj (l:List UInt8):l.take (l.length-(Vm.undigs l).length)=Vm.digs l:=by
 have h:Vm.digs l++Vm.undigs l=l:=List.takeWhile_append_dropWhile
 have h2:l.length-(Vm.undigs l).length=(Vm.digs l).length:=by
  have:=congrArg List.length h;rw[List.length_append] at this;omega
 rw[h2]
 exact kz h
theorem de (l:List UInt8):(Vm.undigs l).length<=l.length:=by
 have h:Vm.digs l++Vm.undigs l=l:=List.takeWhile_append_dropWhile
 have:=congrArg List.length h;rw[List.length_append] at this;omega
theorem iZ (l:List UInt8):(Vm.unoths l).length<=l.length:=by
 have h:Vm.oths l++Vm.unoths l=l:=List.takeWhile_append_dropWhile
 have:=congrArg List.length h;rw[List.length_append] at this;omega
theorem mP (l:List UInt8):(Vm.oths l).length<=l.length:=by
 have h:Vm.oths l++Vm.unoths l=l:=List.takeWhile_append_dropWhile
 have:=congrArg List.length h;rw[List.length_append] at this;omega
theorem xk (l:List UInt8):l.take (Vm.oths l).length=Vm.oths l:=by
 have h:Vm.oths l++Vm.unoths l=l:=List.takeWhile_append_dropWhile
 exact kz h
theorem sS (l:List UInt8):l.drop (Vm.oths l).length=Vm.unoths l:=by
 have h:Vm.oths l++Vm.unoths l=l:=List.takeWhile_append_dropWhile
 exact p9 h
theorem lz:∀ l:List UInt8,(Lib.indexAny l cs10 = -1/\Vm.oths l=l)\/Lib.indexAny l cs10=(Vm.oths l).length
 | []=>Or.inl ⟨rfl,rfl⟩
 | b :: l=>by
  have ih:=lz l
  have hg:=Lib.indexAny_ge cs10 l
  unfold Lib.indexAny Vm.oths
  rw[qk,List.takeWhile_cons]
  cases hb:Vm.dig b
  ·simp only[Bool.false_eq_true,if_false,Bool.not_false,if_true]
   rcases ih with⟨h1,h2⟩ | h1
   ·left
    rw[h1]
    refine⟨rfl,?_⟩
    show b :: Vm.oths l=b :: l
    rw[h2]
   ·right
    rw[h1,if_neg (by simp)]
    show _=(((b :: Vm.oths l).length:Nat):Int)
    simp
  ·right;simp
def ascii (l:List UInt8):Prop:=∀ (j:Nat) b,l[j]?=some b->b.toNat<128
theorem lA:ascii cs10:=by
 intro j b h
 have:=List.mem_of_getElem? h
 simp[cs10] at this
 rcases this with rfl | rfl | rfl | rfl | rfl | rfl | rfl | rfl | rfl | rfl <;> decide
theorem gB (l:List UInt8)(w:World) :
  Calls Tryz.prog 160 #[.string ⟨l.toArray⟩,.string ⟨#[48,49,50,51,52,53,54,55,56,57]⟩] w fun e w'=>e=.returned (.string ⟨(Vm.undigs l).toArray⟩)/\Below w.heap.size w w' :=
 (Tryz.strings_TrimLeft_laid ⟨l.toArray⟩ ⟨cs10.toArray⟩ w (by decide) lA).mono fun _ _ h=>⟨by rw[h.1,<-sR],h.2⟩
theorem oL (l:List UInt8)(w:World) :
  Calls Tryz.prog 160 #[.string ⟨l.toArray⟩,.string ⟨#[48]⟩] w fun e w'=>e=.returned (.string ⟨(l.dropWhile (. == 48)).toArray⟩)/\w=w' :=
 (Tryz.strings_TrimLeft_one ⟨l.toArray⟩ 48 (by decide) w).mono fun _ _ h=>⟨h.1,h.2.symm⟩
theorem lB (l:List UInt8)(w:World)(hl:l.length<=1000)(ha:ascii l) :
  Calls Tryz.prog 161 #[.string ⟨l.toArray⟩,.string ⟨#[48,49,50,51,52,53,54,55,56,57]⟩] w fun e w'=>e=.returned (.int .i64 (Lib.indexAny l cs10))/\Below w.heap.size w w' :=
 Tryz.strings_IndexAny_laid ⟨l.toArray⟩ ⟨cs10.toArray⟩ w (by show l.toArray.size<_;simp;omega) (by decide) ha lA
theorem hJ (l:List UInt8)(w:World) :
  Calls Tryz.prog 124 #[.string ⟨l.toArray⟩] w fun e w'=>e=.returned (.string ⟨(Vm.bare l).toArray⟩)/\w=w':=by
 have H:Hid (Vm.bare l=if (l.dropWhile (. == 48)).isEmpty then [48] else l.dropWhile (. == 48)):=rfl
 go_enter Tryz.func124,Tryz.ntmps124
 go_wp2_with fail
 refine (oL l _).mono ?_
 rintro e w' ⟨rfl,rfl⟩
 generalize l.dropWhile (. == 48)=r at *
 cases hz:r.isEmpty
 all_goals
  go_wp2_with fail
 ·go_ret
  exact⟨by rw[H.out,hz];rfl,rfl⟩
 ·go_ret
  exact⟨by rw[H.out,hz];rfl,rfl⟩
theorem ej (l:List UInt8)(w:World)(hl:l.length<=1000) :
  Calls Tryz.prog 125 #[.string ⟨l.toArray⟩] w fun e w'=>e=.returned (.tuple #[.string ⟨(Vm.digs l).toArray⟩,.string ⟨(Vm.undigs l).toArray⟩])/\Below w.heap.size w w':=by
 have H:=zh (xj l)
 have hle:=de l
 go_enter Tryz.func125,Tryz.ntmps125
 go_wp2_with fail
 refine (gB l _).mono ?_
 rintro e w' ⟨rfl,hb⟩
 obtain⟨r,hr⟩:=ex (Vm.undigs l)
 rw[hr] at H hle
 rw[hr]
 have HR:=zh hr
 clear hr
 go_wp2_with fail
 go_ret2
 refine⟨?_,hb⟩
 show Ending.returned (.tuple #[.string (ByteArray.extract ⟨l.toArray⟩ 0 (l.length-r.length)),.string ⟨r.toArray⟩])=_
 rw[ByteArray.extract_mk,List.drop_zero,Nat.sub_zero,H.out,HR.out]
theorem el (l:List UInt8)(w:World)(hl:l.length<=1000)(ha:ascii l) :
  Calls Tryz.prog 126 #[.string ⟨l.toArray⟩] w fun e w'=>e=.returned (.tuple #[.string ⟨(Vm.oths l).toArray⟩,.string ⟨(Vm.unoths l).toArray⟩])/\Below w.heap.size w w':=by
 have HT:=zh (xk l)
 have HD:=zh (sS l)
 have hle:=mP l
 have hA:=zh ha
 clear ha
 go_enter Tryz.func126,Tryz.ntmps126
 go_wp2_with fail
 refine (lB l _ hl hA.out).mono ?_
 rintro e w' ⟨rfl,hb⟩
 rcases lz l with⟨h1,h2⟩ | h1
 ·rw[h1]
  have H2:=zh h2
  clear h1 h2
  go_wp2_with fail
  go_quiet (fail)
  go_wp2_with fail
  go_ret2
  refine⟨?_,below_drewN hb _⟩
  have e1:Vm.unoths l=[]:=by rw[<-HD.out,H2.out,List.drop_length]
  show Ending.returned (.tuple #[.string (ByteArray.extract ⟨l.toArray⟩ 0 l.length),.string ⟨([]:List UInt8).toArray⟩])=_
  rw[ByteArray.extract_mk,List.drop_zero,Nat.sub_zero,List.take_length,e1,H2.out]
 ·rw[h1]
  clear h1
  go_wp2_with fail
  go_quiet (fail)
  go_wp2_with fail
  go_ret2
  refine⟨?_,below_drewN hb _⟩
  show Ending.returned (.tuple #[.string (ByteArray.extract ⟨l.toArray⟩ 0 (Vm.oths l).length),.string (ByteArray.extract ⟨l.toArray⟩ (Vm.oths l).length l.length)])=_
  rw[ByteArray.extract_mk,ByteArray.extract_mk,List.drop_zero,Nat.sub_zero,HT.out,HD.out,List.take_of_length_le (by rw[<-HD.out,List.length_drop];exact Nat.le_refl _)]
end
section
open Go.RowKit
theorem xl (l:List UInt8)(h:0<l.length):Vm.epOk l=(decide (l.length<=6)&&l.all Vm.dig):=by
 have he:l.isEmpty=false:=by cases l <;> simp at *
 simp[Vm.epOk,he]
theorem eW (l:List UInt8)(w:World)(hm:l.length<=100) :
  Calls Tryz.prog 90 #[.string ⟨l.toArray⟩] w fun e w'=>e=okOr (Vm.epOk l) 5/\w=w':=by
 by_cases h0:l=[]
 ·subst h0
  go_enter Tryz.func90,Tryz.ntmps90
  go_wp2_with fail
  refine (ai _).mono ?_
  rintro e w' ⟨rfl,rfl⟩
  go_wp2_with fail
  exact⟨rfl,rfl,rfl⟩
 ·have ad:0<l.length:=List.length_pos_iff.2 h0
  have he:l.isEmpty=false:=by cases l <;> simp at *
  have H:=zh (xl l ad)
  clear h0
  by_cases h6:l.length<=6
  ·have HE:Hid (Vm.epOk l=l.all Vm.dig):=by show _=_;rw[H.out];simp[h6]
   clear H
   go_enter Tryz.func90,Tryz.ntmps90
   go_wp2_with fail
   rw[show decide ((l.length:Int)<=6)=true from by simp;omega]
   refine (ag _).mono ?_
   rintro e w' ⟨rfl,rfl⟩
   go_wp2_with fail
   go_loop [13] (fun i=>∃ k:Nat,k<=l.length/\i=.int .i64 k/\Hid ((l.take k).all Vm.dig=true)) (fun i=>l.length-(intOf i).toNat)
   case atStart=>exact⟨0,Nat.zero_le _,rfl,rfl⟩
   case round =>
    obtain⟨k,hk,rfl,ab⟩:=hrel
    by_cases ae:k<l.length
    ·obtain⟨c,hc,ah⟩:=byte_at l k ae
     have HS:=zh (g9 l Vm.dig k ae)
     rw[ah] at HS
     have HF:Vm.dig c=false->l.all Vm.dig=false:=fun h=>iY l _ k ae (by rw[ah];exact h)
     have aj:=zh HF
     clear ah HF
     go_wp2_with fail
     refine (dU c _).mono ?_
     rintro e w' ⟨rfl,rfl⟩
     cases ac:Vm.dig c
     ·have af:=zh ac
      clear ac
      go_wp2_with fail
      refine (ai _).mono ?_
      rintro e w' ⟨rfl,rfl⟩
      go_wp2_with fail
      refine⟨rfl,?_,rfl⟩
      rw[HE.out,aj.out af.out];rfl
     ·have af:=zh ac
      clear ac
      go_wp2_with fail
      refine (ag _).mono ?_
      rintro e w' ⟨rfl,rfl⟩
      go_wp2_with fail
      go_round
      case rel=>exact⟨k+1,by omega,by go_num,by show _=_;rw[HS.out,ab.out,af.out];rfl⟩
      case measure=>simp[intOf];omega
    ·obtain rfl:k=l.length:=by omega
     have aa:l.all Vm.dig=true:=by have:=ab.out;rwa [List.take_length] at this
     have HA:=zh aa
     clear ab aa
     go_wp2_with fail
     go_end0
     exact⟨by rw[HE.out,HA.out];rfl,rfl⟩
  ·go_enter Tryz.func90,Tryz.ntmps90
   go_wp2_with fail
   rw[show decide ((l.length:Int)<=6)=false from by simp;omega]
   refine (ai _).mono ?_
   rintro e w' ⟨rfl,rfl⟩
   go_wp2_with fail
   refine⟨rfl,?_,rfl⟩
   rw[H.out];simp[h6,okOr]
end
end Go.Proofs.YtkoaljpfoekgkaaGreatDoor
