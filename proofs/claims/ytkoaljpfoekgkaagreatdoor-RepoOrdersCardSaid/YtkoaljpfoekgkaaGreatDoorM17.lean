/- Part 17 of what the laws lean on. -/
import Derived.Test.YtkoaljpfoekgkaaGreatDoorM16
set_option maxRecDepth 100000
set_option maxHeartbeats 3200000
namespace Go.Proofs.YtkoaljpfoekgkaaGreatDoor
namespace Sz
open Go.RowKit Go.Maps
theorem b6 (w:World)(a:Addr)(v:Value):w.grownBy (w.setCell a v) (some a.block):=⟨rfl,rfl,rfl,by simp[World.setCell],fun k _ hk=>Below.heap_setCell _ _ _ _ (fun e=>hk (by simp[e]))⟩
section
variable {α:Type} {enc:α->List Value} {K:Nat}
theorem bw {w w':World}{B:Nat}{T:TypeId}{v:Value}{l:List α}{row:Option Nat}(h:Rg.Own enc K w B T v l)(hg:w.grownBy w' row)(hne:v.ownBlock=none\/v.ownBlock≠row):Rg.Own enc K w' B T v l:=World.ownsRow.kept h hg hne
theorem bP {w:World}{B:Nat}{T:TypeId}{v:Value}{l:List α}{g:Nat}(h:Rg.Own enc K w B T v l)(hg:v.ownBlock=some g):∃ cs fr,w.heap[g]?=some (.cells cs T fr):=by
 rcases h.2 with⟨rfl,_⟩ | ⟨g',cap,cur,rfl,_,hgg,_⟩
 ·cases hg
 ·cases hg;exact⟨_,_,hgg⟩
theorem aH {w:World}{B:Nat}{T T2:TypeId}{v:Value}{l:List α}{b:Nat}{cs:Array Value}{fr:Nat × Nat}(h:Rg.Own enc K w B T v l)(hb:w.heap[b]?=some (.cells cs T2 fr))(hT:T2≠T):v.ownBlock≠some b:=fun e=>by
 obtain⟨cs2,fr2,hc⟩:=bP h e
 rw[hb] at hc
 exact hT (Obj.cells.inj (Option.some.inj hc)).2.1
theorem dK {w w':World}{ds:List Desc}{t:List (List α)}{b:Nat}(h:Gr.In enc K w ds t)(hg:w.grownBy w' (some b))(hf:Gr.Free (.slice (some ⟨b,0,none⟩) 0 0) ds t):Gr.In enc K w' ds t :=
 ⟨h.1,fun i d l h1 h2=>⟨(h.2 i d l h1 h2).1,db (h.2 i d l h1 h2).2 hg (fun h0 a ha=>by
  have:=hf i d l h1 h2 h0 a ha
  exact this)⟩⟩
theorem og {w w':World}{ds:List Desc}{t:List (List α)}{v:Value}(h:Gr.In enc K w ds t)(hg:w.grownBy w' v.ownBlock)(hf:Gr.Free v ds t):Gr.In enc K w' ds t :=
 ⟨h.1,fun i d l h1 h2=>⟨(h.2 i d l h1 h2).1,db (h.2 i d l h1 h2).2 hg (fun h0 a ha=>hf i d l h1 h2 h0 a ha)⟩⟩
theorem in_lt {w:World}{ds:List Desc}{t:List (List α)}(h:Gr.In enc K w ds t):∀ (i:Nat) (d:Desc) (l:List α),ds[i]?=some d->t[i]?=some l->0<l.length->∀ a,d.1=some a->a.block<w.heap.size:=fun i d l h1 h2 h0 a ha=>by
 obtain⟨a2,e,hlt,_⟩:=(h.2 i d l h1 h2).2 h0
 rw[ha] at e;cases e;exact hlt
end
def Keeps (B d:Nat) (w w':World):Prop:=Below 0 w w'/\∀ k,k<B->k≠d->w'.heap[k]?=w.heap[k]?
theorem bb {B d:Nat}{w w':World}(h:Below B w w'):Keeps B d w w':=⟨h.mono (Nat.zero_le _),fun k hk _=>h.block k hk⟩
theorem aM {B d:Nat}{w u w':World}(h:Keeps B d w u)(k:Keeps B d u w'):Keeps B d w w':=⟨h.1.trans k.1,fun i hi hd=>(k.2 i hi hd).trans (h.2 i hi hd)⟩
theorem eg {B d j:Nat}{w u:World}(h:Keeps B d w u)(x:Value):Keeps B d w (u.setCell ⟨d,j,none⟩ x):=⟨h.1.setCell (Nat.zero_le _) _,fun i hi hd=>(Below.heap_setCell _ _ _ _ (fun e=>hd (by simp[e]))).trans (h.2 i hi hd)⟩
theorem dk {B d:Nat}{w u:World}(h:Keeps B d w u)(hd:d<=B):Below d w u:=⟨h.1.os,h.1.tape,h.1.output,h.1.size,fun k hk=>h.2 k (Nat.lt_of_lt_of_le hk hd) (Nat.ne_of_lt hk)⟩
def DrO (w:World) (B d:Nat) (v0 v1 v2:Value) (ds:List Desc) (acc:List (List Fld)) (last:List Fld):Prop :=
 (∀ x∈ds,x.2.1<=x.2.2)/\w.heap[d]?=some (.cells #[v0,v1,v2] 173 (0,0))/\Rg.Own encO 1 w B 103 v0 ds/\Gr.In encF 3 w ds acc/\Gr.Free v0 ds acc /\
 Rg.Own encF 3 w B 108 v1 last/\Gr.Free v1 ds acc/\Gr.Free (.slice (some ⟨d,0,none⟩) 0 0) ds acc
theorem uO {w:World}{B:Nat}:DrO (w.alloc (.cells #[.slice none 0 0,.slice none 0 0,.map none] 173)) B w.heap.size (.slice none 0 0) (.slice none 0 0) (.map none) [] [] [] :=
 ⟨fun x hx=>(by cases hx),heap_alloc_new _ _,Rg.aw _ _ _,⟨rfl,fun i d l h=>by simp at h⟩,fun i d l h=>by simp at h,Rg.aw _ _ _,fun i d l h=>by simp at h,fun i d l h=>by simp at h⟩
theorem fm {w:World}{B d:Nat}{v0 v1 v2:Value}{ds:List Desc}{acc:List (List Fld)}{last:List Fld}(h:DrO w B d v0 v1 v2 ds acc last):d<w.heap.size:=(Array.getElem?_eq_some_iff.1 h.2.1).1
theorem aR {w:World}{B d:Nat}{v0 v1 v2:Value}{ds:List Desc}{acc:List (List Fld)}{last:List Fld}(h:DrO w B d v0 v1 v2 ds acc last) :
  w.cell? ⟨d,0,none⟩=some v0/\w.cell? ⟨d,1,none⟩=some v1/\w.cell? ⟨d,2,none⟩=some v2/\w.frozen? ⟨d,0,none⟩=false/\w.frozen? ⟨d,1,none⟩=false/\w.frozen? ⟨d,2,none⟩=false:=by
 have hb:=h.2.1
 refine⟨?_,?_,?_,?_,?_,?_⟩ <;> simp[World.cell?,World.frozen?,hb]
theorem aW {w w':World}{B d:Nat}{v0 v1 v2:Value}{ds:List Desc}{acc:List (List Fld)}{last:List Fld}(h:DrO w B d v0 v1 v2 ds acc last)(hb:Below w.heap.size w w'):DrO w' B d v0 v1 v2 ds acc last:=by
 have aa:=fm h
 obtain⟨h0,h1,h2,h3,h4,h5,h6,h7⟩:=h
 exact⟨h0,(hb.block d aa).trans h1,Rg.own_below h2 hb,Gr.g8 h3 hb,h4,Rg.own_below h5 hb,h6,h7⟩
theorem neS:173≠103:=by decide
theorem neF:173≠108:=by decide
theorem neSF:103≠108:=by decide
theorem acq {w:World}{B d:Nat}{v0 v1 v2:Value}{ds:List Desc}{acc:List (List Fld)}{last:List Fld}(h:DrO w B d v0 v1 v2 ds acc last)(j:Nat)(x:Value){u0 u1 u2:Value}(hj:(#[v0,v1,v2]:Array Value).setIfInBounds j x=#[u0,u1,u2]) :
  (w.setCell ⟨d,j,none⟩ x).heap[d]?=some (.cells #[u0,u1,u2] 173 (0,0))/\Rg.Own encO 1 (w.setCell ⟨d,j,none⟩ x) B 103 v0 ds/\Gr.In encF 3 (w.setCell ⟨d,j,none⟩ x) ds acc/\Rg.Own encF 3 (w.setCell ⟨d,j,none⟩ x) B 108 v1 last:=by
 obtain⟨h0,h1,h2,h3,h4,h5,h6,h7⟩:=h
 have hg:=b6 w ⟨d,j,none⟩ x
 refine⟨?_,bw h2 hg (Or.inr (aH h2 h1 neS)),dK h3 hg h7,bw h5 hg (Or.inr (aH h5 h1 neF))⟩
 simp[World.setCell,Array.getElem?_modify,h1,hj]
theorem aaK {w:World}{B d:Nat}{v0 v1 v2:Value}{ds:List Desc}{acc:List (List Fld)}{last:List Fld}(h:DrO w B d v0 v1 v2 ds acc last)(x:Value):DrO (w.setCell ⟨d,2,none⟩ x) B d v0 v1 x ds acc last:=by
 obtain⟨g1,g2,g3,g4⟩:=acq h 2 x rfl
 exact⟨h.1,g1,g2,g3,h.2.2.2.2.1,g4,h.2.2.2.2.2.2.1,h.2.2.2.2.2.2.2⟩
theorem uP {w w':World}{B d m:Nat}{v0 v1 v2:Value}{ds:List Desc}{acc:List (List Fld)}{last:List Fld}{ks:List (List UInt8)}(h:DrO w B d v0 v1 v2 ds acc last)(hk:KSet w m ks)(ht:w.mapTurned w' m):DrO w' B d v0 v1 v2 ds acc last:=by
 obtain⟨n,D,⟨es,clock,hm,_⟩,_⟩:=hk
 obtain⟨h0,h1,h2,h3,h4,h5,h6,h7⟩:=h
 have hg:=ht.grown
 have ab:d≠m:=fun e=>by subst e;rw[hm] at h1;cases h1
 have n0:v0.ownBlock≠some m:=fun e=>by
  obtain⟨cs,fr,hc⟩:=bP h2 e
  rw[hm] at hc;cases hc
 have n1:v1.ownBlock≠some m:=fun e=>by
  obtain⟨cs,fr,hc⟩:=bP h5 e
  rw[hm] at hc;cases hc
 have hf:Gr.Free (.slice (some ⟨m,0,none⟩) 0 0) ds acc:=fun i dd l e1 e2 hl a ha hb=>by
  have ac:m=a.block:=Option.some.inj hb
  obtain⟨a2,e,_,hc⟩:=(h3.2 i dd l e1 e2).2 hl
  rw[ha] at e;cases e
  have:=hc 0 hl 0 _ rfl
  rw[if_pos rfl] at this
  have aa:(a.add (0*3)).block=m:=by rw[Rs.add_block];exact ac.symm
  obtain⟨q,hq⟩:=ex (a.add (0*3))
  rw[hq] at this aa
  unfold World.cell? at this
  rw[aa,hm] at this
  cases this
 exact⟨h0,by rw[<-h1];exact hg.block d (fm ⟨h0,h1,h2,h3,h4,h5,h6,h7⟩) (fun e=>ab (Option.some.inj e)),bw h2 hg (Or.inr n0),dK h3 hg hf,h4,bw h5 hg (Or.inr n1),h6,h7⟩
theorem uQ {w w':World}{B d g n cap:Nat}{v0 v1 v2:Value}{ds:List Desc}{acc:List (List Fld)}{last:List Fld}{f:Fld}(h:DrO w B d v0 v1 v2 ds acc last)(ho:Rg.Own encF 3 w' B 108 (.slice (some ⟨g,0,none⟩) n cap) (last++[f]))(hg:w.grownBy w' v1.ownBlock)(hl:v1.ownBlock=some g\/w.heap.size<=g) :
  DrO (w'.setCell ⟨d,1,none⟩ (.slice (some ⟨g,0,none⟩) n cap)) B d v0 (.slice (some ⟨g,0,none⟩) n cap) v2 ds acc (last++[f]):=by
 have ad:=fm h
 obtain⟨h0,h1,h2,h3,h4,h5,h6,h7⟩:=h
 have ae:v1.ownBlock≠some d:=aH h5 h1 neF
 have aa:w'.heap[d]?=some (.cells #[v0,v1,v2] 173 (0,0)):=(hg.block d ad (fun e=>ae e.symm)).trans h1
 have af:v0.ownBlock=none\/v0.ownBlock≠v1.ownBlock:=by
  cases e0:v0.ownBlock with
  | none=>exact Or.inl rfl
  | some b0 =>
   refine Or.inr fun e=>?_
   obtain⟨cs,fr,hc⟩:=bP h2 e0
   exact aH h5 hc neSF e.symm
 have ab:Rg.Own encO 1 w' B 103 v0 ds:=bw h2 hg af
 have ag:=og h3 hg h6
 have hs:=b6 w' ⟨d,1,none⟩ (.slice (some ⟨g,0,none⟩) n cap)
 refine⟨h0,?_,bw ab hs (Or.inr (aH ab aa neS)),dK ag hs h7,h4,bw ho hs (Or.inr (aH ho aa neF)),?_,h7⟩
 ·simp[World.setCell,Array.getElem?_modify,aa]
 ·intro i dd l e1 e2 ac a ha hb
  have ah:g=a.block:=Option.some.inj hb
  have ai:=in_lt h3 i dd l e1 e2 ac a ha
  rcases hl with hl | hl
  ·exact h6 i dd l e1 e2 ac a ha (by rw[hl,ah])
  ·omega
theorem acr {w w':World}{B d g n cap nl cl:Nat}{A:Option Addr}{v0 v2:Value}{ds:List Desc}{acc:List (List Fld)}{last:List Fld}(h:DrO w B d v0 (.slice A nl cl) v2 ds acc last)(hn:last.length=nl)
  (ho:Rg.Own encO 1 w' B 103 (.slice (some ⟨g,0,none⟩) n cap) (ds++[(A,nl,cl)])) (hg:w.grownBy w' v0.ownBlock) (hl:v0.ownBlock=some g\/w.heap.size<=g) :
  DrO ((w'.setCell ⟨d,0,none⟩ (.slice (some ⟨g,0,none⟩) n cap)).setCell ⟨d,1,none⟩ (.slice none 0 0)) B d (.slice (some ⟨g,0,none⟩) n cap) (.slice none 0 0) v2 (ds++[(A,nl,cl)]) (acc++[last]) []:=by
 have am:=fm h
 obtain⟨h0,h1,h2,h3,h4,h5,h6,h7⟩:=h
 have an:v0.ownBlock≠some d:=aH h2 h1 neS
 have ai:w'.heap[d]?=some (.cells #[v0,.slice A nl cl,v2] 173 (0,0)):=(hg.block d am (fun e=>an e.symm)).trans h1
 obtain⟨A2,c2,hv,ah,ae,_⟩:=Rg.aA fitsF h5
 rw[hn] at hv ae
 cases hv
 have ao:∀ x∈ds++[(A,nl,cl)],x.2.1<=x.2.2:=fun x hx=>by
  rcases List.mem_append.1 hx with hx | hx
  ·exact h0 x hx
  ·rw[List.mem_singleton.1 hx];exact ae
 have hA:∀ a,A=some a->0<last.length->(∃ cs fr,w.heap[a.block]?=some (.cells cs 108 fr))/\a.block<w.heap.size:=fun a ha hl0=>by
  obtain⟨cs,fr,hc⟩:=bP (g:=a.block) h5 (by rw[ha];rfl)
  exact⟨⟨cs,fr,hc⟩,(Array.getElem?_eq_some_iff.1 hc).1⟩
 have ab:=og h3 hg h4
 have ac:Rg.Row encF 3 w' A last:=db ah hg (fun hl0 a ha e=>by
  obtain⟨⟨cs,fr,hc⟩,_⟩:=hA a ha hl0
  exact aH h2 hc (fun e=>neSF e.symm) e)
 have ap:Gr.In encF 3 w' (ds++[(A,nl,cl)]) (acc++[last]):=by
  refine⟨by rw[List.length_append,List.length_append,ab.1];rfl,fun i dd l e1 e2=>?_⟩
  rcases aI e1 with⟨q1,q2⟩ | ⟨q1,q2⟩
  ·rcases aI e2 with⟨_,p2⟩ | ⟨p1,_⟩
   ·exact ab.2 i dd l q2 p2
   ·have:=ab.1;omega
  ·rcases aI e2 with⟨p1,_⟩ | ⟨_,p2⟩
   ·have:=ab.1;omega
   ·subst q2 p2;exact⟨hn.symm,ac⟩
 have aa:∀ b,Gr.Free (.slice (some ⟨b,0,none⟩) 0 0) ds acc->(∀ a,A=some a->0<last.length->b≠a.block)->Gr.Free (.slice (some ⟨b,0,none⟩) 0 0) (ds++[(A,nl,cl)]) (acc++[last]):=fun b hf hb i dd l e1 e2 hl0 a ha=>by
  rcases aI e1 with⟨q1,q2⟩ | ⟨q1,q2⟩
  ·rcases aI e2 with⟨_,p2⟩ | ⟨p1,_⟩
   ·exact hf i dd l q2 p2 hl0 a ha
   ·have:=ab.1;omega
  ·rcases aI e2 with⟨p1,_⟩ | ⟨_,p2⟩
   ·have:=ab.1;omega
   ·subst q2 p2;exact fun e=>hb a ha hl0 (Option.some.inj e)
 have af:=aa d h7 (fun a ha hl0 e=>by
  obtain⟨⟨cs,fr,hc⟩,_⟩:=hA a ha hl0
  rw[<-e,h1] at hc
  exact neF (Obj.cells.inj (Option.some.inj hc)).2.1)
 have aq:=aa g (fun i dd l e1 e2 hl0 a ha e=>by
  have au:=in_lt h3 i dd l e1 e2 hl0 a ha
  have e3:g=a.block:=Option.some.inj e
  rcases hl with hl | hl
  ·exact h4 i dd l e1 e2 hl0 a ha (by rw[hl,e3])
  ·omega) (fun a ha hl0 e=>by
  obtain⟨⟨cs,fr,hc⟩,ar⟩:=hA a ha hl0
  rcases hl with hl | hl
  ·rw[<-e] at hc
   exact aH h2 hc (fun e=>neSF e.symm) hl
  ·omega)
 have aj:=b6 w' ⟨d,0,none⟩ (.slice (some ⟨g,0,none⟩) n cap)
 have ad:(w'.setCell ⟨d,0,none⟩ (.slice (some ⟨g,0,none⟩) n cap)).heap[d]?=some (.cells #[.slice (some ⟨g,0,none⟩) n cap,.slice A nl cl,v2] 173 (0,0)):=by simp[World.setCell,Array.getElem?_modify,ai]
 have ak:=bw ho aj (Or.inr (aH ho ai neS))
 have ag:=dK ap aj af
 have al:=b6 (w'.setCell ⟨d,0,none⟩ (.slice (some ⟨g,0,none⟩) n cap)) ⟨d,1,none⟩ (.slice none 0 0)
 refine⟨ao,?_,bw ak al (Or.inr (aH ak ad neS)),dK ag al af,?_,Rg.aw _ _ _,fun i dd l e1 e2 hl0 a ha e=>(by cases e),af⟩
 ·have e:∀ (x:World),x.heap[d]?=some (.cells #[.slice (some ⟨g,0,none⟩) n cap,.slice A nl cl,v2] 173 (0,0))->(x.setCell ⟨d,1,none⟩ (.slice none 0 0)).heap[d]?=some (.cells #[.slice (some ⟨g,0,none⟩) n cap,.slice none 0 0,v2] 173 (0,0)):=fun x hx=>by simp[World.setCell,Array.getElem?_modify,hx]
  exact e _ ad
 ·exact fun i dd l e1 e2 hl0 a ha e=>aq i dd l e1 e2 hl0 a ha e
end Sz
section
open Go.RowKit Go.Maps Sz
attribute [local go_sem ↓] Go.wp_at_zero Go.wp_at_succ
section
variable {α:Type} {P:Program} {enc:α->List Value} {K:Nat} {ST T:TypeId} {w:World}
theorem Rg.gm (hf:Rg.Fits enc K)(hT:Rg.SliceT P enc K ST T){ops:Array Oper}{o:Oper}{a:Act}{G:Act->World->Prop}{Q:Exit->Act->World->Prop}{E:Prop}(hgd:o.guard=none)(sl x:Operand)
  (ho:o.op=.call { callee:=.builtin .append,args:=#[sl,x],argTypes:=#[ST,ST] })
  (B:Nat) (v:Value) (l m:List α) (hs:a.eval sl=v) (hown:Rg.Own enc K w B T v l) (ad:Addr) (c:Nat) (hx:a.eval x=.slice (some ad) m.length c)
  (hnews:∀ j u,(Rg.flat enc m)[j]?=some u->w.cell? (ad.add j)=some u) (hm:0<m.length) (hsz:l.length+m.length<=1000000) (hB:B<=w.heap.size)
  (h:∀ g cap w',Rg.Own enc K w' B T (.slice (some ⟨g,0,none⟩) (l.length+m.length) cap) (l++m)->w.grownBy w' v.ownBlock->(v.ownBlock=some g\/g=w.heap.size)->G (a.put o.dst (.slice (some ⟨g,0,none⟩) (l.length+m.length) cap)) w') :
  if Region.wanted o (yielded ops a.tmps)=true then Oper.wp P o a w G Q else E:=by
 obtain⟨i,z,hi,aa,ab,ac,hb⟩:=hT.info
 refine step_append_lies w hgd sl x ST ho B T i z K i.bytes hT.under hi aa ac rfl ab hT.pos v l.length (Rg.flat enc l) hs hown ad m.length c (Rg.flat enc m) hx (Rg.bM hf m) hnews (Rg.bJ hf m) hm (by unfold maxLen;omega) (by
  have:(l.length+m.length)*i.bytes<=1000000*1000:=Nat.mul_le_mul hsz hb
  omega) hB _ rfl ?_
 intro g cap w' h1 h2 h3 _
 refine h g cap w' ?_ h2 h3
 unfold Rg.Own
 rw[Rg.cj,List.length_append]
 exact h1
end
theorem Sz.nd {w u W:World}{B d:Nat}{v0 v1 v2:Value}{ds:List Desc}{acc:List (List Fld)}{last:List Fld}{row:Option Nat}(h:DrO w B d v0 v1 v2 ds acc last)(hb:Below w.heap.size w u)(hg:u.grownBy W row)(hne:row≠some d) :
  W.cell? ⟨d,0,none⟩=some v0/\W.cell? ⟨d,1,none⟩=some v1/\W.cell? ⟨d,2,none⟩=some v2/\W.frozen? ⟨d,0,none⟩=false/\W.frozen? ⟨d,1,none⟩=false/\W.frozen? ⟨d,2,none⟩=false:=by
 have aa:=fm h
 have ab:W.heap[d]?=some (.cells #[v0,v1,v2] 173 (0,0)):=(hg.block d (Nat.lt_of_lt_of_le aa hb.size) (fun e=>hne e.symm)).trans ((hb.block d aa).trans h.2.1)
 refine⟨?_,?_,?_,?_,?_,?_⟩ <;> simp[World.cell?,World.frozen?,ab]
theorem Sz.kP {α:Type}{enc:α->List Value}{K:Nat}{w u W:World}{B:Nat}{T:TypeId}{v:Value}{l:List α}(ho:Rg.Own enc K w B T v l)(hB:B<=w.heap.size)(hb:Below w.heap.size w u)(hg:u.grownBy W v.ownBlock):Below B w W:=by
 exact (hb.mono hB).trans (Rg.au (Rg.own_below ho hb) (Nat.le_trans hB hb.size) hg)
theorem Sz.grown_of {w u W:World}{row:Option Nat}(hb:Below w.heap.size w u)(hg:u.grownBy W row):w.grownBy W row:=by
 have aa:=hb
 have ab:=hg
 obtain⟨b1,b2,b3,b4,b5⟩:=aa
 obtain⟨g1,g2,g3,g4,g5⟩:=ab
 refine⟨?_,?_,?_,Nat.le_trans b4 g4,fun k hk hne=>(g5 k (Nat.lt_of_lt_of_le hk b4) hne).trans (b5 k hk)⟩
 ·first | exact g1.trans b1 | exact b1.trans g1
 ·first | exact g2.trans b2 | exact b2.trans g2
 ·first | exact g3.trans b3 | exact b3.trans g3
def Sz.EndRet (w:World) (B d:Nat) (v2:Value) (acc:List (List Fld)) (last:List Fld) (e:Ending) (w':World):Prop :=
 e=.returned (.tuple #[])/\Keeps B d w w'/\w.heap.size<=w'.heap.size/\∃ u0 u1 ds,DrO w' B d u0 u1 v2 ds (if last=[] then acc else acc++[last]) []
theorem dw {w:World}{B d:Nat}{v0 v1 v2:Value}{ds:List Desc}{acc:List (List Fld)}{last:List Fld}(h:DrO w B d v0 v1 v2 ds acc last)(hsz:ds.length+1<=1000000)(hB:B<=w.heap.size) :
  Calls Tryz.prog 114 #[.pointer (some ⟨d,0,none⟩)] w (Sz.EndRet w B d v2 acc last):=by
 obtain⟨A,c,hv,ad,_,_⟩:=Rg.aA fitsF h.2.2.2.2.2.1
 obtain⟨n,hn⟩:=ex last.length
 rw[hn] at hv
 subst hv
 have H:=zh h
 have HN:=zh hn
 have ak:=zh hsz
 have af:=zh hB
 obtain⟨d0,d1,d2,f0,f1,f2⟩:=aR h
 clear h hn hsz ad hB
 by_cases h0:n=0
 ·subst h0
  have hl:Hid (last=[]):=List.length_eq_zero_iff.1 HN.out
  go_enter Tryz.func114,Tryz.ntmps114
  go_wp2_with fail
  exact bodyPost_ret (v:=.tuple #[]) (by simp[results,Tryz.results114,go_sem]) rfl ⟨rfl,bb (Below.refl _ _),Nat.le_refl _,v0,_,ds,by rw[if_pos hl.out,<-hl.out];exact H.out⟩
 ·have al:(0:Int)<(n:Int):=by omega
  have hl:Hid (last≠[]):=fun e=>h0 (by rw[<-HN.out,e];rfl)
  clear h0
  go_enter Tryz.func114,Tryz.ntmps114
  go_wp2_with fail
  have ag:Below w.heap.size w (w.alloc (.cells #[.slice A n c] 103)):=(Below.refl _ _).alloc (Nat.le_refl _) _
  have a0:=(aR (aW H.out ag)).1
  clear ag
  have am:Hid (v0.ownBlock≠some d):=aH H.out.2.2.1 H.out.2.1 neS
  go_region_law (refine Rg.gm fitsO sliceE (by rfl) (.tmp 12) (.tmp 17) (by rfl) B v0 ds [(A,n,c)] (by rfl) (Rg.own_below H.out.2.2.1 ((Below.refl _ _).drew.alloc (Nat.le_refl _) _)) _ _ (by rfl) (Rg.ay _ _ [(A,n,c)] _ (by rfl)) (Nat.zero_lt_succ _) ak.out (Nat.le_trans af.out (by simp)) ?_;intro g cap W5 ai ae aj;have an:=zh ai;have aa:=zh ae;have ao:=zh aj;obtain⟨e0,e1,e2,k0,k1,k2⟩:=nd H.out ((Below.refl _ _).drew.alloc (Nat.le_refl _) _) ae am.out;clear ai ae aj)
  all_goals (
   have ah:=kP H.out.2.2.1 af.out ((Below.refl _ _).drew.alloc (Nat.le_refl _) _) aa.out
   have ab:Hid (w.heap.size<=W5.heap.size):=Nat.le_trans (by simp) aa.out.size
   have ac:=zh ah
   have HD:=zh (acr (w:=w) (g:=g) (n:=ds.length+1) (cap:=cap) H.out HN.out an.out (grown_of ((Below.refl _ _).drew.alloc (Nat.le_refl _) _) aa.out) (ao.out.imp id (fun h=>by rw[h];simp)))
   clear ah
   go_wp2_with fail
   exact bodyPost_ret (v:=.tuple #[]) (by simp[results,Tryz.results114,go_sem]) rfl ⟨rfl,eg (eg (bb ac.out) _) _,by simpa using ab.out,_,_,_,by rw[if_neg hl.out];exact HD.out⟩)
end
section
open Go.RowKit Go.Maps Sz
attribute [local go_sem ↓] Go.wp_at_zero Go.wp_at_succ
def Sz.AddRet (w:World) (B d:Nat) (v0:Value) (ds:List Desc) (acc:List (List Fld)) (last:List Fld) (f:Fld) (e:Ending) (w':World):Prop :=
 Keeps B d w w'/\w.heap.size<=w'.heap.size/\if (last.map Fld.key).contains f.key then e=panAt f.line 6 else
  e=.returned (.tuple #[])/\∃ u1 m,B<=m/\DrO w' B d v0 u1 (.map (some m)) ds acc (last++[f])/\KSet w' m ((last++[f]).map Fld.key)
def Sz.FB (b:Nat) (f:Fld) (u:World):Prop:=u.cell? ⟨b,0,none⟩=some (.string ⟨f.key.toArray⟩)/\u.cell? ⟨b,1,none⟩=some (.string ⟨f.val.toArray⟩)/\u.cell? ⟨b,2,none⟩=some (.int .i64 f.line)/\u.heap[b]?=some (.cells #[.string ⟨f.key.toArray⟩,.string ⟨f.val.toArray⟩,.int .i64 f.line] 108 (0,0))
theorem Sz.eE {b:Nat}{f:Fld}{u:World}(h:u.heap[b]?=some (.cells #[.string ⟨f.key.toArray⟩,.string ⟨f.val.toArray⟩,.int .i64 f.line] 108 (0,0))):FB b f u:=by
 refine⟨?_,?_,?_,h⟩ <;> simp[World.cell?,h]
theorem Sz.js {u W:World}{B m:Nat}(hg:u.grownBy W (some m))(hm:B<=m)(hB:B<=u.heap.size):Below B u W:=by
 obtain⟨g1,g2,g3,g4,g5⟩:=hg
 refine⟨?_,?_,?_,g4,fun k hk=>g5 k (Nat.lt_of_lt_of_le hk hB) (fun e=>by have:=Option.some.inj e;omega)⟩
 ·first | exact g1 | exact g1.symm
 ·first | exact g2 | exact g2.symm
 ·first | exact g3 | exact g3.symm
theorem Sz.rn {w W:World}{B d m:Nat}{v0 v1 v2:Value}{ds:List Desc}{acc:List (List Fld)}{last:List Fld}{ks:List (List UInt8)}(h:DrO w B d v0 v1 v2 ds acc last)(hk:KSet w m ks)(hg:w.grownBy W v1.ownBlock)(x:Value):KSet (W.setCell ⟨d,1,none⟩ x) m ks:=by
 have ab:=hk
 obtain⟨n,D,⟨es,clock,hm,_⟩,_⟩:=hk
 have aa:m<w.heap.size:=(Array.getElem?_eq_some_iff.1 hm).1
 have ac:d≠m:=fun e=>by
  have h1:=h.2.1
  rw[e,hm] at h1;cases h1
 have n1:v1.ownBlock≠some m:=fun e=>by
  obtain⟨cs,fr,hc⟩:=bP h.2.2.2.2.2.1 e
  rw[hm] at hc;cases hc
 exact fS ab (((b6 W ⟨d,1,none⟩ x).block m (Nat.lt_of_lt_of_le aa hg.size) (fun e=>ac (Option.some.inj e).symm)).trans (hg.block m aa (fun e=>n1 e.symm)))
theorem iO {w:World}{B d:Nat}{v0 v1 v2:Value}{ds:List Desc}{acc:List (List Fld)}{last:List Fld}(f:Fld)(h:DrO w B d v0 v1 v2 ds acc last)(hsz:last.length+1<=1000000)(hk:f.key.length<=1000000)(hB:B<=w.heap.size)
  (hl:last≠[]) (hm:∃ m,v2=.map (some m)/\B<=m/\KSet w m (last.map Fld.key)) :
  Calls Tryz.prog 115 #[.pointer (some ⟨d,0,none⟩),.agg #[.string ⟨f.key.toArray⟩,.string ⟨f.val.toArray⟩,.int .i64 f.line]] w (Sz.AddRet w B d v0 ds acc last f):=by
 obtain⟨W1,ak⟩:=ex (w.alloc (.cells #[.string ⟨f.key.toArray⟩,.string ⟨f.val.toArray⟩,.int .i64 f.line] 108))
 have ag:Hid (Below w.heap.size w W1):=ab ak
 have az:Hid (FB w.heap.size f W1):=eE (by rw[<-ak];exact heap_alloc_new w _)
 have aQ:W1.heap.size=w.heap.size+1:=by rw[<-ak];simp
 have aB:Hid (w.heap.size<W1.heap.size):=by show _<_;omega
 have H1:=zh (aW h ag.out)
 have ah:Hid (B<=w.heap.size/\d<w.heap.size):=⟨hB,fm h⟩
 have HK:=zh hk
 have aC:=zh hsz
 obtain⟨A,c,hv,ar,_,_⟩:=Rg.aA fitsF h.2.2.2.2.2.1
 obtain⟨n,hn⟩:=ex last.length
 rw[hn] at hv
 subst hv
 have HN:=zh hn
 obtain⟨d0,d1,d2,f0,f1,f2⟩:=aR H1.out
 obtain⟨m,rfl,ae,au⟩:=hm
 have aD:m<w.heap.size:=by
  obtain⟨_,_,⟨_,_,hh,_⟩,_⟩:=au
  exact (Array.getElem?_eq_some_iff.1 hh).1
 have HM:Hid (B<=m/\m<W1.heap.size/\w.heap.size≠m):=⟨ae,by omega,by omega⟩
 have ai:Hid (KSet W1 m (last.map Fld.key)):=bG au ag.out aD
 have aS:((n:Int)==0)=false:=by
  have:last.length≠0:=fun e=>hl (List.length_eq_zero_iff.1 e)
  rw[hn] at this
  simp;omega
 clear h hn hsz hk hB ar hl ae au aQ aD
 go_enter Tryz.func115,Tryz.ntmps115
 go_wp2_with fail
 clear ak aS
 have aj:Hid (Keeps B d w W1/\w.heap.size<=W1.heap.size):=⟨bb <| ag.out.mono ah.out.1,ag.out.size⟩
 have HX:=H1
 have aE:=az
 have aF:=aB
 clear H1 az aB
 generalize W1=WX at *
 obtain⟨b0,b1,b2,_⟩:=aE.out
 obtain⟨tw,av⟩:=ex ((last.map Fld.key).contains f.key)
 have aG:=zh av
 have l0:=fR (bG ai.out (Below.refl WX.heap.size WX).drew (HM.out.2.1)) HK.out
 have l1:=fR (w:=(WX.alloc (.cells #[] 199)).drew) (bG ai.out ((Below.refl WX.heap.size WX).alloc (Nat.le_refl _) (.cells #[] 199)).drew (HM.out.2.1)) HK.out
 rw[av] at l0 l1
 clear av
 go_region_held3 (fun w'=>w'.cell? ⟨d,2,none⟩=some (.map (some m))/\w'.cell? ⟨w.heap.size,0,none⟩=some (.string ⟨f.key.toArray⟩)) (go_keep) (fail)
 clear l0 l1
 all_goals (
  have ad:Hid (Below WX.heap.size WX ((WX.alloc (.cells #[] 199)).drew)):=((Below.refl WX.heap.size WX).alloc (Nat.le_refl _) (.cells #[] 199)).drew
  generalize (WX.alloc (.cells #[] 199)).drew=W3 at *
  have H3:=zh (aW HX.out ad.out)
  have aI:Hid (FB w.heap.size f W3):=eE ((ad.out.block _ aF.out).trans aE.out.2.2.2)
  have aT:Hid (KSet W3 m (last.map Fld.key)):=bG ai.out ad.out (HM.out.2.1)
  have aa:Hid (Keeps B d w W3/\w.heap.size<=W3.heap.size):=⟨aM aj.out.1 <| bb (ad.out.mono (Nat.le_trans ah.out.1 aj.out.2)),Nat.le_trans aj.out.2 ad.out.size⟩
  clear d0 d1 d2 f0 f1 f2 b0 b1 b2 aj ai
  obtain⟨d0,d1,d2,f0,f1,f2⟩:=aR H3.out
  obtain⟨b0,b1,b2,_⟩:=aI.out
  cases tw
  case true =>
   go_wp2_with fail
   refine (an _).mono ?_
   rintro _ z ⟨rfl,rfl⟩
   go_wp2_with fail
   exact⟨rfl,by show AddRet w B d v0 ds acc last f _ _;exact⟨aa.out.1,aa.out.2,by rw[if_pos aG.out]⟩⟩
  case false =>
   go_wp2_with fail
   refine (ax _).mono ?_
   rintro _ z ⟨rfl,rfl⟩
   have ac:KSet W3.drew m (last.map Fld.key):=fS aT.out rfl
   obtain⟨W5,a2,aN,af⟩:=rm ac HK.out (by rw[List.length_map];have:=aC.out;omega)
   have H5:=zh (uP (aW H3.out (Below.refl _ _).drew) ac af)
   have aU:=zh aN
   have ae:w.heap.size≠m:=HM.out.2.2
   have al:Hid (FB w.heap.size f W5):=eE ((af.grown.block w.heap.size (by have:=aF.out;have:=ad.out.size;show _<W3.heap.size;omega) (fun e=>ae (Option.some.inj e))).trans aI.out.2.2.2)
   have am:Hid (Keeps B d w W5/\w.heap.size<=W5.heap.size):=⟨aM aa.out.1 <| bb <| (Below.refl _ W3).drew.trans (js af.grown HM.out.1 (Nat.le_trans ah.out.1 aa.out.2)),Nat.le_trans aa.out.2 af.grown.size⟩
   obtain⟨e0,e1,e2,k0,k1,k2⟩:=aR H5.out
   obtain⟨g0,g1,g2,_⟩:=al.out
   clear ac aN af ae
   go_wp2_with fail
   go_region_held3 (fun w'=>w'.cell? ⟨d,2,none⟩=some (.map (some m))/\w'.cell? ⟨w.heap.size,0,none⟩=some (.string ⟨f.key.toArray⟩)) (go_keep) (fail)
   all_goals (
    clear d0 d1 d2 f0 f1 f2 b0 b1 b2 a2
    have aJ:Hid (B<=W5.heap.size):=Nat.le_trans ah.out.1 am.out.2
    have ao:Below W5.heap.size W5 (W5.alloc (.cells #[.string ⟨f.key.toArray⟩,.string ⟨f.val.toArray⟩,.int .i64 f.line] 108)):=(Below.refl _ _).alloc (Nat.le_refl _) _
    have a1:=(aR (aW H5.out ao)).2.1
    have aV:Hid ((Value.slice A n c).ownBlock≠some d):=aH H5.out.2.2.2.2.2.1 H5.out.2.1 neF
    have aK:w.heap.size<W5.heap.size:=(Array.getElem?_eq_some_iff.1 al.out.2.2.2).1
    have aX:=eE ((ao.block _ aK).trans al.out.2.2.2)
    obtain⟨q0,q1,q2,_⟩:=aX
    clear ao aK
    go_wp2_with fail
    go_region_law (refine Rg.gm fitsF sliceF (by rfl) (.tmp 42) (.tmp 44) (by rfl) B (.slice A n c) last [f] (by rfl) (Rg.own_below H5.out.2.2.2.2.2.1 ((Below.refl _ _).drew.alloc (Nat.le_refl _) _)) _ _ (by rfl) (Rg.ay _ _ [f] _ (by rfl)) (Nat.zero_lt_succ _) aC.out (Nat.le_trans aJ.out (by simp)) ?_;intro g cap W6 aO aw aP;have aY:=zh aO;have aL:=zh aw;have aZ:=zh aP;obtain⟨x0,x1,x2,y0,y1,y2⟩:=nd H5.out ((Below.refl _ _).drew.alloc (Nat.le_refl _) _) aw aV.out;clear aO aw aP)
    all_goals (
     have ap:Hid (W5.grownBy W6 (Value.slice A n c).ownBlock):=grown_of ((Below.refl _ _).drew.alloc (Nat.le_refl _) _) aL.out
     have aq:=zh (kP H5.out.2.2.2.2.2.1 aJ.out ((Below.refl _ _).drew.alloc (Nat.le_refl _) _) aL.out)
     have HD:=zh (uQ H5.out aY.out ap.out (aZ.out.imp id (fun h=>by rw[h];simp)))
     have a0:=zh (rn H5.out aU.out ap.out (.slice (some ⟨g,0,none⟩) (last.length+[f].length) cap))
     go_wp2_with fail
     exact bodyPost_ret (v:=.tuple #[]) (by simp[results,Tryz.results115,go_sem]) rfl ⟨eg (aM am.out.1 (bb aq.out)) _,Nat.le_trans am.out.2 (by simpa using ap.out.size),by rw[if_neg (by rw[aG.out];decide)];exact⟨rfl,_,m,HM.out.1,HD.out,by rw[List.map_append];exact a0.out⟩⟩)))
theorem gN {w:World}{B d:Nat}{v0 v1 v2:Value}{ds:List Desc}{acc:List (List Fld)}{last:List Fld}(f:Fld)(h:DrO w B d v0 v1 v2 ds acc last)(hsz:last.length+1<=1000000)(hk:f.key.length<=1000000)(hB:B<=w.heap.size)
  (hl:last=[]) :
  Calls Tryz.prog 115 #[.pointer (some ⟨d,0,none⟩),.agg #[.string ⟨f.key.toArray⟩,.string ⟨f.val.toArray⟩,.int .i64 f.line]] w (Sz.AddRet w B d v0 ds acc last f):=by
 obtain⟨W1,aq⟩:=ex (w.alloc (.cells #[.string ⟨f.key.toArray⟩,.string ⟨f.val.toArray⟩,.int .i64 f.line] 108))
 have ar:Hid (Below w.heap.size w W1):=ab aq
 have aG:Hid (FB w.heap.size f W1):=eE (by rw[<-aq];exact heap_alloc_new w _)
 have a4:W1.heap.size=w.heap.size+1:=by rw[<-aq];simp
 have al:Hid (w.heap.size<W1.heap.size):=by show _<_;omega
 have H1:=zh (aW h ar.out)
 have ad:Hid (B<=w.heap.size/\d<w.heap.size):=⟨hB,fm h⟩
 have HK:=zh hk
 have aI:=zh hsz
 obtain⟨A,c,hv,aD,_,_⟩:=Rg.aA fitsF h.2.2.2.2.2.1
 obtain⟨n,hn⟩:=ex last.length
 rw[hn] at hv
 subst hv
 have HN:=zh hn
 obtain⟨d0,d1,d2,f0,f1,f2⟩:=aR H1.out
 have aJ:=zh (aaK (aW H1.out ((Below.refl W1.heap.size W1).alloc (Nat.le_refl _) (.map #[] 0))) (.map (some W1.heap.size)))
 have a5:=b6 (W1.alloc (.map #[] 0)) ⟨d,2,none⟩ (.map (some W1.heap.size))
 have a6:d<W1.heap.size:=by have:=ad.out.2;omega
 have au:∀ k,k≠d->((W1.alloc (.map #[] 0)).setCell ⟨d,2,none⟩ (.map (some W1.heap.size))).heap[k]?=(W1.alloc (.map #[] 0)).heap[k]?:=fun k hk=>by
  exact Below.heap_setCell _ _ _ _ (fun e=>hk (by simp[e]))
 have ag:KSet ((W1.alloc (.map #[] 0)).setCell ⟨d,2,none⟩ (.map (some W1.heap.size))) W1.heap.size []:=fS (yp W1) (au _ (by omega))
 have aK:FB w.heap.size f ((W1.alloc (.map #[] 0)).setCell ⟨d,2,none⟩ (.map (some W1.heap.size))):=eE ((au _ (by have:=ad.out.2;omega)).trans ((((Below.refl W1.heap.size W1).alloc (Nat.le_refl _) (.map #[] 0)).block _ al.out).trans aG.out.2.2.2))
 have aL:((W1.alloc (.map #[] 0)).setCell ⟨d,2,none⟩ (.map (some W1.heap.size))).heap.size=W1.heap.size+1:=by simp[World.setCell]
 have aN:Keeps B d w ((W1.alloc (.map #[] 0)).setCell ⟨d,2,none⟩ (.map (some W1.heap.size))):=eg (bb ((ar.out.mono ad.out.1).alloc (by have:=ad.out;omega) _)) _
 have aO:Hid (B<=W1.heap.size/\w.heap.size≠W1.heap.size):=⟨by have:=ad.out;omega,by omega⟩
 have ah:=zh ag
 have ai:=zh aK
 have aj:=zh aN
 have am:=zh aL
 subst hl
 obtain rfl:n=0:=by rw[<-hn];rfl
 clear h hn hsz hk hB aD a4 a5 a6 au ag aK aL aN
 have a7:(Instr.makeMap 171 none).run Tryz.prog W1=.ok (.map (some W1.heap.size)) (W1.alloc (.map #[] 0)):=rfl
 obtain⟨_,_,m2,_,_,m5⟩:=aR (aW H1.out ((Below.refl W1.heap.size W1).alloc (Nat.le_refl _) (.map #[] 0)))
 go_enter Tryz.func115,Tryz.ntmps115
 go_wp2_with fail
 clear aq a7 m2 m5 d0 d1 d2 f0 f1 f2
 obtain⟨m,hm⟩:=ex W1.heap.size
 obtain⟨WX,ac⟩:=ex ((W1.alloc (.map #[] 0)).setCell ⟨d,2,none⟩ (.map (some W1.heap.size)))
 have HX:Hid (DrO WX B d v0 (.slice A 0 c) (.map (some m)) ds acc []):=by show DrO _ _ _ _ _ _ _ _ _;rw[<-ac,<-hm];exact aJ.out
 have ao:Hid (KSet WX m (([]:List Fld).map Fld.key)):=by show KSet _ _ _;rw[<-ac,<-hm];exact ah.out
 have aP:Hid (FB w.heap.size f WX):=by show FB _ _ _;rw[<-ac];exact ai.out
 have ap:Hid (Keeps B d w WX/\w.heap.size<=WX.heap.size):=by
  have h1:=al.out
  have h2:=am.out
  rw[ac] at h2
  exact⟨by rw[<-ac];exact aj.out,by omega⟩
 have aQ:Hid (w.heap.size<WX.heap.size):=by
  have h1:=al.out
  have h2:=am.out
  rw[ac] at h2
  show _<_
  omega
 have HM:Hid (B<=m/\m<WX.heap.size/\w.heap.size≠m):=by
  have h2:=am.out
  rw[ac] at h2
  have h3:=aO.out
  rw[hm] at h2 h3
  exact⟨h3.1,by omega,h3.2⟩
 rw[ac]
 clear aJ aO ah ai aj am H1 aG ar al
 have aS:Hid (([]:List Fld).length=0):=rfl
 clear ac hm HN
 have HN:=aS
 clear aS
 obtain⟨d0,d1,d2,f0,f1,f2⟩:=aR HX.out
 obtain⟨b0,b1,b2,_⟩:=aP.out
 obtain⟨tw,aE⟩:=ex ((([]:List Fld).map Fld.key).contains f.key)
 have aT:=zh aE
 have l0:=fR (bG ao.out (Below.refl WX.heap.size WX).drew (HM.out.2.1)) HK.out
 have l1:=fR (w:=(WX.alloc (.cells #[] 199)).drew) (bG ao.out ((Below.refl WX.heap.size WX).alloc (Nat.le_refl _) (.cells #[] 199)).drew (HM.out.2.1)) HK.out
 rw[aE] at l0 l1
 clear aE
 go_region_held3 (fun w'=>w'.cell? ⟨d,2,none⟩=some (.map (some m))/\w'.cell? ⟨w.heap.size,0,none⟩=some (.string ⟨f.key.toArray⟩)) (go_keep) (fail)
 clear l0 l1
 all_goals (
  have af:Hid (Below WX.heap.size WX ((WX.alloc (.cells #[] 199)).drew)):=((Below.refl WX.heap.size WX).alloc (Nat.le_refl _) (.cells #[] 199)).drew
  generalize (WX.alloc (.cells #[] 199)).drew=W3 at *
  have H3:=zh (aW HX.out af.out)
  have aU:Hid (FB w.heap.size f W3):=eE ((af.out.block _ aQ.out).trans aP.out.2.2.2)
  have a8:Hid (KSet W3 m (([]:List Fld).map Fld.key)):=bG ao.out af.out (HM.out.2.1)
  have aa:Hid (Keeps B d w W3/\w.heap.size<=W3.heap.size):=⟨aM ap.out.1 <| bb (af.out.mono (Nat.le_trans ad.out.1 ap.out.2)),Nat.le_trans ap.out.2 af.out.size⟩
  clear d0 d1 d2 f0 f1 f2 b0 b1 b2 ap ao
  obtain⟨d0,d1,d2,f0,f1,f2⟩:=aR H3.out
  obtain⟨b0,b1,b2,_⟩:=aU.out
  cases tw
  case true =>
   go_wp2_with fail
   refine (an _).mono ?_
   rintro _ z ⟨rfl,rfl⟩
   go_wp2_with fail
   exact⟨rfl,by show AddRet w B d v0 ds acc ([]:List Fld) f _ _;exact⟨aa.out.1,aa.out.2,by rw[if_pos aT.out]⟩⟩
  case false =>
   go_wp2_with fail
   refine (ax _).mono ?_
   rintro _ z ⟨rfl,rfl⟩
   have ae:KSet W3.drew m (([]:List Fld).map Fld.key):=fS a8.out rfl
   obtain⟨W5,bg,a0,ak⟩:=rm ae HK.out (by rw[List.length_map];have:=aI.out;omega)
   have H5:=zh (uP (aW H3.out (Below.refl _ _).drew) ae ak)
   have a9:=zh a0
   have aV:w.heap.size≠m:=HM.out.2.2
   have av:Hid (FB w.heap.size f W5):=eE ((ak.grown.block w.heap.size (by have:=aQ.out;have:=af.out.size;show _<W3.heap.size;omega) (fun e=>aV (Option.some.inj e))).trans aU.out.2.2.2)
   have aw:Hid (Keeps B d w W5/\w.heap.size<=W5.heap.size):=⟨aM aa.out.1 <| bb <| (Below.refl _ W3).drew.trans (js ak.grown HM.out.1 (Nat.le_trans ad.out.1 aa.out.2)),Nat.le_trans aa.out.2 ak.grown.size⟩
   obtain⟨e0,e1,e2,k0,k1,k2⟩:=aR H5.out
   obtain⟨g0,g1,g2,_⟩:=av.out
   clear ae a0 ak aV
   go_wp2_with fail
   go_region_held3 (fun w'=>w'.cell? ⟨d,2,none⟩=some (.map (some m))/\w'.cell? ⟨w.heap.size,0,none⟩=some (.string ⟨f.key.toArray⟩)) (go_keep) (fail)
   all_goals (
    clear d0 d1 d2 f0 f1 f2 b0 b1 b2 bg
    have aX:Hid (B<=W5.heap.size):=Nat.le_trans ad.out.1 aw.out.2
    have az:Below W5.heap.size W5 (W5.alloc (.cells #[.string ⟨f.key.toArray⟩,.string ⟨f.val.toArray⟩,.int .i64 f.line] 108)):=(Below.refl _ _).alloc (Nat.le_refl _) _
    have a1:=(aR (aW H5.out az)).2.1
    have ba:Hid ((Value.slice A 0 c).ownBlock≠some d):=aH H5.out.2.2.2.2.2.1 H5.out.2.1 neF
    have aY:w.heap.size<W5.heap.size:=(Array.getElem?_eq_some_iff.1 av.out.2.2.2).1
    have bc:=eE ((az.block _ aY).trans av.out.2.2.2)
    obtain⟨q0,q1,q2,_⟩:=bc
    clear az aY
    go_wp2_with fail
    go_region_law (refine Rg.gm fitsF sliceF (by rfl) (.tmp 42) (.tmp 44) (by rfl) B (.slice A 0 c) ([]:List Fld) [f] (by rfl) (Rg.own_below H5.out.2.2.2.2.2.1 ((Below.refl _ _).drew.alloc (Nat.le_refl _) _)) _ _ (by rfl) (Rg.ay _ _ [f] _ (by rfl)) (Nat.zero_lt_succ _) aI.out (Nat.le_trans aX.out (by simp)) ?_;intro g cap W6 a2 aF a3;have bd:=zh a2;have aZ:=zh aF;have be:=zh a3;obtain⟨x0,x1,x2,y0,y1,y2⟩:=nd H5.out ((Below.refl _ _).drew.alloc (Nat.le_refl _) _) aF ba.out;clear a2 aF a3)
    all_goals (
     have aB:Hid (W5.grownBy W6 (Value.slice A 0 c).ownBlock):=grown_of ((Below.refl _ _).drew.alloc (Nat.le_refl _) _) aZ.out
     have aC:=zh (kP H5.out.2.2.2.2.2.1 aX.out ((Below.refl _ _).drew.alloc (Nat.le_refl _) _) aZ.out)
     have HD:=zh (uQ H5.out bd.out aB.out (be.out.imp id (fun h=>by rw[h];simp)))
     have bf:=zh (rn H5.out a9.out aB.out (.slice (some ⟨g,0,none⟩) (([]:List Fld).length+[f].length) cap))
     go_wp2_with fail
     exact bodyPost_ret (v:=.tuple #[]) (by simp[results,Tryz.results115,go_sem]) rfl ⟨eg (aM aw.out.1 (bb aC.out)) _,Nat.le_trans aw.out.2 (by simpa using aB.out.size),by rw[if_neg (by rw[aT.out];decide)];exact⟨rfl,_,m,HM.out.1,HD.out,by rw[List.map_append];exact bf.out⟩⟩)))
end
namespace Sz
open Go.RowKit Go.Maps
theorem wo (s:List UInt8):Lib.hasSuffix s [10]=(s.getLast? == some 10):=by
 unfold Lib.hasSuffix
 rcases List.eq_nil_or_concat s with rfl | ⟨t,c,rfl⟩
 ·rfl
 ·unfold List.isSuffixOf
  rw[List.concat_eq_append,List.reverse_append]
  show (10==c&&true)=_
  rw[Bool.and_true,List.getLast?_concat]
  show (10==c)=(c==10)
  rw[Bool.eq_iff_iff,beq_iff_eq,beq_iff_eq];exact eq_comm
theorem mf {B d:Nat}{w w':World}(h:Keeps B d w w'){a:Addr}(h1:a.block<B)(h2:a.block≠d):w'.cell? a=w.cell? a:=by
 unfold World.cell?
 rw[h.2 _ h1 h2]
theorem iP {w:World}{B d:Nat}{v0 v1 v2:Value}{ds:List Desc}{acc:List (List Fld)}{last:List Fld}(h:DrO w B d v0 v1 v2 ds acc last)(h0:∀ x,v0≠.string x)(h1:∀ x,v1≠.string x)(h2:∀ x,v2≠.string x)
  {a:Addr} {x:ByteArray} (hc:w.cell? a=some (.string x)):a.block≠d:=fun e=>by
 have hb:=h.2.1
 unfold World.cell? at hc
 rw[e,hb] at hc
 dsimp only at hc
 split at hc
 ·cases hc
 ·match h3:a.off with
  | 0=>rw[h3] at hc;exact h0 x (Option.some.inj hc)
  | 1=>rw[h3] at hc;exact h1 x (Option.some.inj hc)
  | 2=>rw[h3] at hc;exact h2 x (Option.some.inj hc)
  | k+3=>rw[h3] at hc;simp at hc
end Sz
end Go.Proofs.YtkoaljpfoekgkaaGreatDoor
