/- Part 18 of what the laws lean on. -/
import Derived.Test.YtgnaiidgjmicaaaGreatDoorL17
set_option maxRecDepth 100000
set_option maxHeartbeats 6400000
namespace Go.Proofs.YtgnaiidgjmicaaaGreatDoor
section
open Go.RowKit Rs At Pg
namespace Pg
def AFr (B:Nat) (A:Option Addr):Prop:=∀ a,A=some a->B<=a.block
def PRows (B:Nat) (u:World) (p:Pk) (D C G:Option Addr):Prop:=(Pg.DRowF B u D p.deps/\AFr B D)/\(ARow u C p.confl/\AFr B C)/\(GRow u G p.prov/\AFr B G)
abbrev pCells (p:Pk) (D C G:Option Addr) (dc cc gc:Nat):Array Value:=#[.string ⟨p.name.toArray⟩,.string ⟨p.ver.toArray⟩,.slice D p.deps.length dc,.slice C p.confl.length cc,.slice G p.prov.length gc,.float .f64 p.wt]
def PBlk (T:TypeId) (b B:Nat) (p:Pk) (u:World):Prop:=∃ D dc C cc G gc,u.heap[b]?=some (.cells (pCells p D C G dc cc gc) T (0,0))/\PRows B u p D C G
theorem kQ {B b:Nat}{A:Option Addr}{α:Type}{l:List α}(h:AFr B A)(hb:b<B):0<l.length->∀ a,A=some a->some b≠some a.block:=fun _ a ha e=>by
 have:=h a ha
 have:=Option.some.inj e
 omega
theorem vy {B b:Nat}{w u:World}{A:Option Addr}{t:List (List Atm)}(h:Pg.DRowF B w A t)(hA:AFr B A)(hb:But (some b) w u)(hlt:b<B)(hg:∀ j x,w.cell? ⟨b,j,none⟩=some x->NoB x):Pg.DRowF B u A t:=by
 obtain⟨ds,h1,h2,h3⟩:=h
 refine⟨ds,cf h1 hb (kQ hA hlt),⟨h2.1,fun i d l e1 e2=>⟨(h2.2 i d l e1 e2).1,dt (h2.2 i d l e1 e2).2 hb (kQ (fun a ha=>h3 i d e1 a ha) hlt) (fun g hg2=>by cases hg2;exact hg)⟩⟩,h3⟩
theorem ba {B b:Nat}{w u:World}{p:Pk}{D C G:Option Addr}(h:PRows B w p D C G)(hb:But (some b) w u)(hlt:b<B)(hg:∀ j x,w.cell? ⟨b,j,none⟩=some x->NoB x):PRows B u p D C G :=
 ⟨⟨vy h.1.1 h.1.2 hb hlt hg,h.1.2⟩,⟨dt h.2.1.1 hb (kQ h.2.1.2 hlt) (fun g hg2=>by cases hg2;exact hg),h.2.1.2⟩,⟨cf h.2.2.1 hb (kQ h.2.2.2 hlt),h.2.2.2⟩⟩
theorem qW {B:Nat}{w u:World}{A:Option Addr}{t:List (List Atm)}(h:Pg.DRowF B w A t)(hb:Below w.heap.size w u):Pg.DRowF B u A t:=by
 obtain⟨ds,h1,h2,h3⟩:=h
 exact⟨ds,Rg.ag h1 hb,eX h2 hb,h3⟩
theorem jj {B:Nat}{w u:World}{p:Pk}{D C G:Option Addr}(h:PRows B w p D C G)(hb:Below w.heap.size w u):PRows B u p D C G :=
 ⟨⟨qW h.1.1 hb,h.1.2⟩,⟨bX h.2.1.1 hb,h.2.1.2⟩,⟨Rg.ag h.2.2.1 hb,h.2.2.2⟩⟩
theorem block_lt {u:World}{b:Nat}{o:Obj}(h:u.heap[b]?=some o):b<u.heap.size:=(Array.getElem?_eq_some_iff.1 h).1
theorem bE {T:TypeId}{b B:Nat}{p:Pk}{u u':World}(h:PBlk T b B p u)(hb:Below u.heap.size u u'):PBlk T b B p u':=by
 obtain⟨D,dc,C,cc,G,gc,h1,h2⟩:=h
 exact⟨D,dc,C,cc,G,gc,(hb.block _ (block_lt h1)).trans h1,jj h2 hb⟩
theorem zL {T:TypeId}{b B:Nat}{p:Pk}{u:World}(h:PBlk T b B p u):b<u.heap.size:=by
 obtain⟨D,dc,C,cc,G,gc,h1,_⟩:=h
 exact block_lt h1
theorem c7 {T:TypeId}{b B:Nat}{p:Pk}{u:World}(h:PBlk T b B p u):∃ x0 x1 x2 x3 x4 x5,(u.cell? ⟨b,0,none⟩=some x0/\u.frozen? ⟨b,0,none⟩=false)/\(u.cell? ⟨b,1,none⟩=some x1/\u.frozen? ⟨b,1,none⟩=false)/\(u.cell? ⟨b,2,none⟩=some x2/\u.frozen? ⟨b,2,none⟩=false)/\(u.cell? ⟨b,3,none⟩=some x3/\u.frozen? ⟨b,3,none⟩=false)/\(u.cell? ⟨b,4,none⟩=some x4/\u.frozen? ⟨b,4,none⟩=false)/\(u.cell? ⟨b,5,none⟩=some x5/\u.frozen? ⟨b,5,none⟩=false):=by
 obtain⟨D,dc,C,cc,G,gc,h1,_⟩:=h
 have c:∀ j v,(pCells p D C G dc cc gc)[j]?=some v->u.cell? ⟨b,j,none⟩=some v:=fun j v hv=>(cell_of_row u b j _ T (0,0) h1).trans hv
 have z:∀ j,u.frozen? ⟨b,j,none⟩=false:=fun j=>by simp[World.frozen?,h1]
 exact⟨_,_,_,_,_,_,⟨c 0 _ rfl,z 0⟩,⟨c 1 _ rfl,z 1⟩,⟨c 2 _ rfl,z 2⟩,⟨c 3 _ rfl,z 3⟩,⟨c 4 _ rfl,z 4⟩,c 5 _ rfl,z 5⟩
theorem du {T:TypeId}{b:Nat}{p:Pk}{u:World}{D C G:Option Addr}{dc cc gc:Nat}(h:u.heap[b]?=some (.cells (pCells p D C G dc cc gc) T (0,0))):∀ j x,u.cell? ⟨b,j,none⟩=some x->NoB x:=fun j x hx y e=>by
 rw[cell_of_row u b j _ T (0,0) h] at hx
 subst e
 have hm:=Array.mem_of_getElem? hx
 simp[pCells] at hm
theorem aJ {u:World}{b j:Nat}{cs:Array Value}{T:TypeId}{x:Value}(h:u.heap[b]?=some (.cells cs T (0,0))):(u.setCell ⟨b,j,none⟩ x).heap[b]?=some (.cells (cs.setIfInBounds j x) T (0,0)):=by
 simp[World.setCell,Array.getElem?_modify,h]
theorem vz {T:TypeId}{b B:Nat}{p:Pk}{u:World}(h:PBlk T b B p u)(hlt:b<B)(x:List UInt8):PBlk T b B { p with name:=x } (u.setCell ⟨b,0,none⟩ (.string ⟨x.toArray⟩)):=by
 obtain⟨D,dc,C,cc,G,gc,h1,h2⟩:=h
 exact⟨D,dc,C,cc,G,gc,(aJ h1).trans rfl,ba (p:=p) h2 (aO u ⟨b,0,none⟩ _) hlt (du h1)⟩
theorem yb {T:TypeId}{b B:Nat}{p:Pk}{u:World}(h:PBlk T b B p u)(hlt:b<B)(x:List UInt8):PBlk T b B { p with ver:=x } (u.setCell ⟨b,1,none⟩ (.string ⟨x.toArray⟩)):=by
 obtain⟨D,dc,C,cc,G,gc,h1,h2⟩:=h
 exact⟨D,dc,C,cc,G,gc,(aJ h1).trans rfl,ba (p:=p) h2 (aO u ⟨b,1,none⟩ _) hlt (du h1)⟩
theorem zM {T:TypeId}{b B:Nat}{p:Pk}{u:World}(h:PBlk T b B p u)(hlt:b<B)(x:Nat):PBlk T b B { p with wt:=x } (u.setCell ⟨b,5,none⟩ (.float .f64 x)):=by
 obtain⟨D,dc,C,cc,G,gc,h1,h2⟩:=h
 exact⟨D,dc,C,cc,G,gc,(aJ h1).trans rfl,ba (p:=p) h2 (aO u ⟨b,5,none⟩ _) hlt (du h1)⟩
theorem vA {T:TypeId}{b B:Nat}{p:Pk}{u:World}(h:PBlk T b B p u)(hlt:b<B){A:Option Addr}{c:Nat}{l:List (List Atm)}(hr:Pg.DRowF B u A l)(hA:AFr B A):PBlk T b B { p with deps:=l } (u.setCell ⟨b,2,none⟩ (.slice A l.length c)):=by
 obtain⟨D,dc,C,cc,G,gc,h1,h2⟩:=h
 exact⟨A,c,C,cc,G,gc,(aJ h1).trans rfl,ba (p:={ p with deps:=l }) ⟨⟨hr,hA⟩,h2.2⟩ (aO u ⟨b,2,none⟩ _) hlt (du h1)⟩
theorem tu {T:TypeId}{b B:Nat}{p:Pk}{u:World}(h:PBlk T b B p u)(hlt:b<B){A:Option Addr}{c:Nat}{l:List Atm}(hr:ARow u A l)(hA:AFr B A):PBlk T b B { p with confl:=l } (u.setCell ⟨b,3,none⟩ (.slice A l.length c)):=by
 obtain⟨D,dc,C,cc,G,gc,h1,h2⟩:=h
 exact⟨D,dc,A,c,G,gc,(aJ h1).trans rfl,ba (p:={ p with confl:=l }) ⟨h2.1,⟨hr,hA⟩,h2.2.2⟩ (aO u ⟨b,3,none⟩ _) hlt (du h1)⟩
theorem vB {T:TypeId}{b B:Nat}{p:Pk}{u:World}(h:PBlk T b B p u)(hlt:b<B){A:Option Addr}{c:Nat}{l:List Gv}(hr:GRow u A l)(hA:AFr B A):PBlk T b B { p with prov:=l } (u.setCell ⟨b,4,none⟩ (.slice A l.length c)):=by
 obtain⟨D,dc,C,cc,G,gc,h1,h2⟩:=h
 exact⟨D,dc,C,cc,A,c,(aJ h1).trans rfl,ba (p:={ p with prov:=l }) ⟨h2.1,h2.2.1,⟨hr,hA⟩⟩ (aO u ⟨b,4,none⟩ _) hlt (du h1)⟩
end Pg
theorem Pg.aj {P:Program}{w:World}{a:Addr}{k:FloatKind}{f:Nat}{m:Mode}:(store a (.float k f) m).run P w=stored P w a (.float k f) m:=run_store P w a _ m rfl
def Pg.TakeRet (b B:Nat) (w:World) (i:Int) (R:Except Int Pk) (e:Ending) (w':World):Prop:=Below b w w'/\match R with
 | .ok q=>e=.returned (.tuple #[])/\PBlk 68 b B q w'
 | .error k=>e=panAt i k
attribute [local go_sem ↓] Go.wp_at_zero Go.wp_at_succ
attribute [local go_sem] Pg.aj
theorem qX (b B:Nat)(key t:List UInt8)(i:Int)(p:Pk)(w:World)(hk:KOk w)(hp:Pg.PBlk 68 b B p w)(hlt:b<B)(hB:B<=w.heap.size)(ht:ValFit key t) :
  Calls Tryz.prog 210 #[.pointer (some ⟨b,0,none⟩),.string ⟨key.toArray⟩,.agg #[.string ⟨t.toArray⟩,.int .i64 i]] w (Pg.TakeRet b B w i (takeR p key t)):=by
 obtain⟨R,hR⟩:=ex (takeR p key t)
 rw[hR]
 unfold takeR at hR
 obtain⟨V,hV⟩:=ex (w.alloc (.cells #[.string ⟨t.toArray⟩,.int .i64 i] 256))
 have HB:Hid (Below w.heap.size w V):=aa hV
 have HW:Hid (b<w.heap.size):=zL hp
 have ae:Hid (Below b w V):=HB.out.mono (Nat.le_of_lt HW.out)
 have HK:Hid (KOk V):=aY hk HB.out
 have HM:Hid (MaxOk V):=ab hk.1 HB.out
 have ah:=zh (bE hp HB.out)
 have aj:Hid (B<=V.heap.size):=Nat.le_trans hB HB.out.size
 have af:Hid (b<=V.heap.size):=Nat.le_of_lt (Nat.lt_of_lt_of_le hlt aj.out)
 have ai:=zh hlt
 have HT:=zh ht
 obtain⟨c0,c1⟩:=aS hV (Below.refl _ _)
 clear hk hp hlt hB ht
 by_cases h0:key=kPkg
 ·rw[if_pos h0] at hR
  have ag:=zh (HT.out.2.2.2 (by rw[h0];decide) (by rw[h0];decide) (by rw[h0];decide))
  have d0:(key==[80,97,99,107,97,103,101])=true:=beq_iff_eq.2 h0
  clear h0
  have HC:=zh (gM t i V (by have:=ag.out;omega))
  obtain⟨y,hy⟩:=ex (nameB t)
  rw[hy] at HC hR
  have HR:=zh hR
  clear hR hy
  go_enter Tryz.func210,Tryz.ntmps210
  go_wp2_with fail
  clear hV
  refine HC.out.mono ?_
  rintro _ u ⟨rfl,hb⟩
  have HU:=zh hb
  clear hb HC c0 c1
  cases y
  ·have HF:Hid (R=.error 3):=HR.out.symm
   go_wp2_with fail
   exact⟨rfl,ae.out.trans (HU.out.mono af.out),by rw[HF.out]⟩
  ·have HF:Hid (R=.ok { p with name:=t }):=HR.out.symm
   have ac:=zh (bE ah.out HU.out)
   obtain⟨x0,x1,x2,x3,x4,x5,⟨e0,z0⟩,⟨e1,z1⟩,⟨e2,z2⟩,⟨e3,z3⟩,⟨e4,z4⟩,⟨e5,z5⟩⟩:=c7 ac.out
   go_wp2_with fail
   go_end0
   refine⟨(ae.out.trans (HU.out.mono af.out)).setCell (Nat.le_refl _) _,?_⟩
   rw[HF.out]
   exact⟨rfl,vz ac.out ai.out t⟩
 rw[if_neg h0] at hR
 have d0:(key==[80,97,99,107,97,103,101])=false:=beq_eq_false_iff_ne.2 h0
 clear h0
 by_cases h1:key=kVer
 ·rw[if_pos h1] at hR
  have d1:(key==[86,101,114,115,105,111,110])=true:=beq_iff_eq.2 h1
  clear h1
  have HC:=zh (eG t i V HM.out)
  obtain⟨y,hy⟩:=ex (Vm.check t)
  obtain⟨cv,am⟩:=ex (canonOf t)
  rw[hy,am] at HC hR
  have HR:=zh hR
  clear hR hy am
  go_enter Tryz.func210,Tryz.ntmps210
  go_wp2_with fail
  clear hV
  refine HC.out.mono ?_
  rintro _ u ⟨rfl,hb⟩
  have HU:=zh hb
  clear hb HC c0 c1
  by_cases hy:y=0
  case neg =>
   have HF:Hid (R=.error y):=by show _=_;rw[<-HR.out,if_neg hy]
   rw[if_neg hy]
   clear hy
   go_wp2_with fail
   exact⟨rfl,ae.out.trans (HU.out.mono af.out),by rw[HF.out]⟩
  have HF:Hid (R=.ok { p with ver:=cv }):=by show _=_;rw[<-HR.out,if_pos hy]
  rw[if_pos hy]
  clear hy
  have ac:=zh (bE ah.out HU.out)
  obtain⟨x0,x1,x2,x3,x4,x5,⟨e0,z0⟩,⟨e1,z1⟩,⟨e2,z2⟩,⟨e3,z3⟩,⟨e4,z4⟩,⟨e5,z5⟩⟩:=c7 ac.out
  go_wp2_with fail
  go_end0
  refine⟨(ae.out.trans (HU.out.mono af.out)).setCell (Nat.le_refl _) _,?_⟩
  rw[HF.out]
  exact⟨rfl,yb ac.out ai.out cv⟩
 rw[if_neg h1] at hR
 have d1:(key==[86,101,114,115,105,111,110])=false:=beq_eq_false_iff_ne.2 h1
 clear h1
 by_cases h2:key=kDep
 ·rw[if_pos h2] at hR
  have ag:=zh (HT.out.1 h2)
  have d2:(key==[68,101,112,101,110,100,115])=true:=beq_iff_eq.2 h2
  clear h2
  have HC:Hid (Calls Tryz.prog 243 #[.agg #[.string ⟨t.toArray⟩,.int .i64 i],.string ⟨#[59,32]⟩,.int .i64 16,.func (.func 244) #[] #[]] V (Pg.PartsRet (fun u A l=>Pg.DRowF V.heap.size u A l) V i (partsR depR semi 16 t))):=nC t semi i 16 V HM.out ag.out (by decide) (by decide)
  obtain⟨E,hE⟩:=ex (partsR depR semi 16 t)
  rw[hE] at HC hR
  have HR:=zh hR
  clear hR hE
  go_enter Tryz.func210,Tryz.ntmps210
  go_wp2_with fail
  clear hV
  refine HC.out.mono ?_
  rintro r u ⟨hb,hr⟩
  have HU:=zh hb
  clear hb HC c0 c1
  cases E with
  | error k =>
   have HF:Hid (R=.error k):=HR.out.symm
   obtain rfl:r=panAt i k:=hr
   go_wp2_with fail
   exact⟨rfl,ae.out.trans (HU.out.mono af.out),by rw[HF.out]⟩
  | ok l =>
   have HF:Hid (R=.ok { p with deps:=l }):=HR.out.symm
   obtain⟨A,n,c,rfl,hn,ad,hf⟩:=hr
   subst hn
   have ak:=zh (gA ad aj.out)
   have al:Hid (AFr B A):=fun a ha=>Nat.le_trans aj.out (hf a ha)
   clear ad hf
   have ac:=zh (bE ah.out HU.out)
   obtain⟨x0,x1,x2,x3,x4,x5,⟨e0,z0⟩,⟨e1,z1⟩,⟨e2,z2⟩,⟨e3,z3⟩,⟨e4,z4⟩,⟨e5,z5⟩⟩:=c7 ac.out
   go_wp2_with fail
   go_end0
   refine⟨(ae.out.trans (HU.out.mono af.out)).setCell (Nat.le_refl _) _,?_⟩
   rw[HF.out]
   exact⟨rfl,vA ac.out ai.out ak.out al.out⟩
 rw[if_neg h2] at hR
 have d2:(key==[68,101,112,101,110,100,115])=false:=beq_eq_false_iff_ne.2 h2
 clear h2
 by_cases h3:key=kCon
 ·rw[if_pos h3] at hR
  have ag:=zh (HT.out.2.1 h3)
  have d3:(key==[67,111,110,102,108,105,99,116,115])=true:=beq_iff_eq.2 h3
  clear h3
  have HC:Hid (Calls Tryz.prog 245 #[.agg #[.string ⟨t.toArray⟩,.int .i64 i],.string ⟨#[59,32]⟩,.int .i64 16,.func (.func 246) #[] #[]] V (Pg.PartsRet (ARow) V i (partsR atomR semi 16 t))):=fO t semi i 16 V HM.out ag.out (by decide) (by decide)
  obtain⟨E,hE⟩:=ex (partsR atomR semi 16 t)
  rw[hE] at HC hR
  have HR:=zh hR
  clear hR hE
  go_enter Tryz.func210,Tryz.ntmps210
  go_wp2_with fail
  clear hV
  refine HC.out.mono ?_
  rintro r u ⟨hb,hr⟩
  have HU:=zh hb
  clear hb HC c0 c1
  cases E with
  | error k =>
   have HF:Hid (R=.error k):=HR.out.symm
   obtain rfl:r=panAt i k:=hr
   go_wp2_with fail
   exact⟨rfl,ae.out.trans (HU.out.mono af.out),by rw[HF.out]⟩
  | ok l =>
   have HF:Hid (R=.ok { p with confl:=l }):=HR.out.symm
   obtain⟨A,n,c,rfl,hn,ad,hf⟩:=hr
   subst hn
   have ak:=zh (ad)
   have al:Hid (AFr B A):=fun a ha=>Nat.le_trans aj.out (hf a ha)
   clear ad hf
   have ac:=zh (bE ah.out HU.out)
   obtain⟨x0,x1,x2,x3,x4,x5,⟨e0,z0⟩,⟨e1,z1⟩,⟨e2,z2⟩,⟨e3,z3⟩,⟨e4,z4⟩,⟨e5,z5⟩⟩:=c7 ac.out
   go_wp2_with fail
   go_end0
   refine⟨(ae.out.trans (HU.out.mono af.out)).setCell (Nat.le_refl _) _,?_⟩
   rw[HF.out]
   exact⟨rfl,tu ac.out ai.out ak.out al.out⟩
 rw[if_neg h3] at hR
 have d3:(key==[67,111,110,102,108,105,99,116,115])=false:=beq_eq_false_iff_ne.2 h3
 clear h3
 by_cases h4:key=kPro
 ·rw[if_pos h4] at hR
  have ag:=zh (HT.out.2.2.1 h4)
  have d4:(key==[80,114,111,118,105,100,101,115])=true:=beq_iff_eq.2 h4
  clear h4
  have HC:Hid (Calls Tryz.prog 247 #[.agg #[.string ⟨t.toArray⟩,.int .i64 i],.string ⟨#[59,32]⟩,.int .i64 16,.func (.func 248) #[] #[]] V (Pg.PartsRet (GRow) V i (partsR gvR semi 16 t))):=lU t semi i 16 V HM.out ag.out (by decide) (by decide)
  obtain⟨E,hE⟩:=ex (partsR gvR semi 16 t)
  rw[hE] at HC hR
  have HR:=zh hR
  clear hR hE
  go_enter Tryz.func210,Tryz.ntmps210
  go_wp2_with fail
  clear hV
  refine HC.out.mono ?_
  rintro r u ⟨hb,hr⟩
  have HU:=zh hb
  clear hb HC c0 c1
  cases E with
  | error k =>
   have HF:Hid (R=.error k):=HR.out.symm
   obtain rfl:r=panAt i k:=hr
   go_wp2_with fail
   exact⟨rfl,ae.out.trans (HU.out.mono af.out),by rw[HF.out]⟩
  | ok l =>
   have HF:Hid (R=.ok { p with prov:=l }):=HR.out.symm
   obtain⟨A,n,c,rfl,hn,ad,hf⟩:=hr
   subst hn
   have ak:=zh (ad)
   have al:Hid (AFr B A):=fun a ha=>Nat.le_trans aj.out (hf a ha)
   clear ad hf
   have ac:=zh (bE ah.out HU.out)
   obtain⟨x0,x1,x2,x3,x4,x5,⟨e0,z0⟩,⟨e1,z1⟩,⟨e2,z2⟩,⟨e3,z3⟩,⟨e4,z4⟩,⟨e5,z5⟩⟩:=c7 ac.out
   go_wp2_with fail
   go_end0
   refine⟨(ae.out.trans (HU.out.mono af.out)).setCell (Nat.le_refl _) _,?_⟩
   rw[HF.out]
   exact⟨rfl,vB ac.out ai.out ak.out al.out⟩
 rw[if_neg h4] at hR
 have d4:(key==[80,114,111,118,105,100,101,115])=false:=beq_eq_false_iff_ne.2 h4
 clear h4
 by_cases h5:key=kWei
 ·rw[if_pos h5] at hR
  have ag:=zh (HT.out.2.2.2 (by rw[h5];decide) (by rw[h5];decide) (by rw[h5];decide))
  have d5:(key==[87,101,105,103,104,116])=true:=beq_iff_eq.2 h5
  clear h5
  have HC:Hid (Calls Tryz.prog 249 #[.agg #[.string ⟨t.toArray⟩,.int .i64 i]] V fun r w'=>Below V.heap.size V w'/\match wtR t with | .ok f=>r=.returned (.float .f64 f) | .error k=>r=panAt i k):=(kM t i V ag.out HK.out (zK t)).mono fun r w' ⟨h1,h2⟩=>by
   refine⟨h2,?_⟩
   unfold wtR
   by_cases a0:errW t=0
   ·rw[if_pos a0] at h1 ⊢
    by_cases a1:chkW (outW t)=0
    ·rw[if_pos a1] at h1 ⊢;exact h1
    ·rw[if_neg a1] at h1 ⊢;exact h1
   ·rw[if_neg a0] at h1 ⊢;exact h1
  obtain⟨E,hE⟩:=ex (wtR t)
  rw[hE] at HC hR
  have HR:=zh hR
  clear hR hE
  go_enter Tryz.func210,Tryz.ntmps210
  go_wp2_with fail
  clear hV
  refine HC.out.mono ?_
  rintro r u ⟨hb,hr⟩
  have HU:=zh hb
  clear hb HC c0 c1
  cases E with
  | error k =>
   have HF:Hid (R=.error k):=HR.out.symm
   obtain rfl:r=panAt i k:=hr
   go_wp2_with fail
   exact⟨rfl,ae.out.trans (HU.out.mono af.out),by rw[HF.out]⟩
  | ok f =>
   have HF:Hid (R=.ok { p with wt:=f }):=HR.out.symm
   obtain rfl:r=.returned (.float .f64 f):=hr
   have ac:=zh (bE ah.out HU.out)
   obtain⟨x0,x1,x2,x3,x4,x5,⟨e0,z0⟩,⟨e1,z1⟩,⟨e2,z2⟩,⟨e3,z3⟩,⟨e4,z4⟩,⟨e5,z5⟩⟩:=c7 ac.out
   go_wp2_with fail
   go_end0
   refine⟨(ae.out.trans (HU.out.mono af.out)).setCell (Nat.le_refl _) _,?_⟩
   rw[HF.out]
   exact⟨rfl,zM ac.out ai.out f⟩
 rw[if_neg h5] at hR
 have d5:(key==[87,101,105,103,104,116])=false:=beq_eq_false_iff_ne.2 h5
 clear h5
 have HF:Hid (R=.ok p):=hR.symm
 clear hR
 go_enter Tryz.func210,Tryz.ntmps210
 go_wp2_with fail
 go_end0
 refine⟨ae.out,?_⟩
 rw[HF.out]
 exact⟨rfl,ah.out⟩
end
namespace Sz
open Go.RowKit Go.Maps
theorem zeroI (w:World):(zeroValue 3).run Tryz.prog w=.ok (.int .i64 0) w:=by kernel_rfl
def KMap (w:World) (b:Nat) (ks:List (List UInt8)):Prop:=∃ (n:Nat) (D:DataW Unit),w.ownsMap Tryz.prog 9 (plainElem Tryz.prog 3) b n D/\n<=ks.length/\∀ k:List UInt8,k.length<=140737488355328->Maps.has D (.string k)=(placeOf ks k).isSome/\∀ p:Nat,placeOf ks k=some p->D.atKey (.string k) (.lit (.int .i64 0))=.lit (.int .i64 p)
theorem kR (ks:List (List UInt8))(x k:List UInt8):placeOf (ks++[x]) k=match placeOf ks k with | some p=>some p | none=>if x=k then some ks.length else none:=by
 unfold placeOf
 rw[List.findIdx?_append]
 cases h:ks.findIdx? (. == k) with
 | some p=>simp
 | none=>by_cases e:x=k <;> simp[e,List.findIdx?_cons]
theorem yc {ks:List (List UInt8)}{k:List UInt8}{p:Nat}(h:placeOf ks k=some p):p<ks.length:=by
 unfold placeOf at h
 obtain⟨h1,_⟩:=List.findIdx?_eq_some_iff_getElem.1 h
 exact h1
theorem vC (w:World):KMap (w.alloc (.map #[] 0)) w.heap.size []:=⟨0,_,World.ownsMap_made w _ _ _,Nat.le_refl _,fun _k _=>⟨rfl,fun p h=>by cases h⟩⟩
theorem mS {w:World}{b:Nat}{ks:List (List UInt8)}(h:KMap w b ks){k:List UInt8}(hk:k.length<=140737488355328) :
  (Instr.lookup 154 (.map (some b)) (.string ⟨k.toArray⟩) true).run Tryz.prog w=.ok (.tuple #[.int .i64 ((placeOf ks k).getD 0:Nat),.bool (placeOf ks k).isSome]) w:=by
 obtain⟨n,D,ab,_,hh⟩:=h
 obtain⟨v,ps,ac,hv⟩:=ab.look_ok keyLaw Tryz.underlying154 (zeroI w) (plainElem_int Tryz.underlying3 (by decide)) (cW hk)
 obtain⟨c,rfl,hc,_⟩:=plainElem_int_inv Tryz.underlying3 hv
 obtain⟨h1,h2⟩:=hh k hk
 have aa:D.atKey (.string k) (.lit (.int .i64 0))=.lit (.int .i64 c):=congrArg Prod.fst hc
 rw[ac,h1]
 cases hp:placeOf ks k with
 | some p =>
  rw[h2 p hp] at aa
  have e:=(Lit.int.inj (DataW.lit.inj aa)).2
  rw[<-e];rfl
 | none =>
  rw[hp] at h1
  rw[Maps.atKey_of_not_has h1] at aa
  have e:=(Lit.int.inj (DataW.lit.inj aa)).2
  rw[<-e];rfl
theorem yd {w:World}{b:Nat}{ks:List (List UInt8)}(h:KMap w b ks){k:List UInt8}(hk:k.length<=140737488355328)(hl:ks.length<=1000000)(hn:placeOf ks k=none) :
  ∃ w',(Instr.mapUpdate 154 (.map (some b)) (.string ⟨k.toArray⟩) (.int .i64 ks.length)).run Tryz.prog w=.ok () w'/\KMap w' b (ks++[k])/\w.mapTurned w' b:=by
 obtain⟨n,D,aa,ad,hh⟩:=h
 obtain⟨w',ac,ab,ht⟩:=aa.store keyLaw Tryz.underlying154 (by unfold maxLen;omega) (cW hk) (val:=.int .i64 ks.length) (plainElem_int Tryz.underlying3 (by
  have h1:IntKind.i64.min = -9223372036854775808:=rfl
  have h2:IntKind.i64.max=9223372036854775807:=rfl
  unfold Lit.wf
  rw[Bool.and_eq_true,decide_eq_true_eq,decide_eq_true_eq,h1,h2];omega))
 refine⟨w',ac,⟨n+1,_,ab,by rw[List.length_append];simp;omega,fun x hx=>?_⟩,ht⟩
 rw[kR]
 by_cases e:x=k
 ·subst e
  rw[Maps.has_put_same aa.isMap (by trivial),hn,if_pos rfl]
  refine⟨rfl,fun p hp=>?_⟩
  rw[Maps.atKey_put_same aa.isMap (by trivial),Option.some.inj hp]
 ·rw[Maps.has_put_other (by intro h;exact e (Lit.string.inj h)),(hh x hx).1]
  have ek:¬ k=x:=fun h=>e h.symm
  rw[if_neg ek]
  refine⟨by cases placeOf ks x <;> rfl,fun p hp=>?_⟩
  rw[Maps.atKey_put_other (by intro h;exact e (Lit.string.inj h))]
  refine (hh x hx).2 p ?_
  cases hq:placeOf ks x with
  | none=>rw[hq] at hp;exact hp
  | some q=>rw[hq] at hp;exact hp
theorem vD {w:World}{b:Nat}{ks:List (List UInt8)}(h:KMap w b ks){k:List UInt8}{q:Nat}(hn:placeOf ks k=some q):KMap w b (ks++[k]):=by
 obtain⟨n,D,aa,ab,hh⟩:=h
 refine⟨n,D,aa,by rw[List.length_append];simp;omega,fun x hx=>?_⟩
 obtain⟨h1,h2⟩:=hh x hx
 rw[kR,h1]
 cases hp:placeOf ks x with
 | some p=>exact⟨rfl,fun p' hp'=>h2 p' (by rw[hp];exact hp')⟩
 | none =>
  have ek:¬ k=x:=fun e=>by subst e;rw[hn] at hp;cases hp
  dsimp only
  rw[if_neg ek]
  exact⟨rfl,fun p' hp'=>by cases hp'⟩
theorem tv {w w':World}{b B:Nat}{ks:List (List UInt8)}(h:KMap w b ks)(hb:Below B w w')(hlt:b<B):KMap w' b ks:=by
 obtain⟨n,D,⟨es,clock,hh,r⟩,h2⟩:=h
 exact⟨n,D,⟨es,clock,(hb.block b hlt).trans hh,r⟩,h2⟩
end Sz
section
open Go.RowKit Go.Maps Sz
attribute [local go_sem ↓] Go.wp_at_zero Go.wp_at_succ
def Sz.ShortT (l:List (List UInt8)):Prop:=∀ k∈l,k.length<=140737488355328
theorem kS (A:Option Addr)(n c:Nat)(l:List (List UInt8))(w:World)(hn:l.length=n)(hr:Rg.Row encT 1 w A l)(hl:n<=100000)(hs:Sz.ShortT l) :
  Calls Tryz.prog 271 #[.slice A n c] w fun e w'=>e=.returned (.map (some w.heap.size))/\KMap w' w.heap.size l/\w.heap.size<w'.heap.size/\Below w.heap.size w w':=by
 obtain⟨W1,ae⟩:=ex (w.alloc (.map #[] 0))
 have ak:Hid (Below w.heap.size w W1):=aa ae
 have al:Hid (KMap W1 w.heap.size []):=by show KMap _ _ _;rw[<-ae];exact vC w
 have am:Hid (w.heap.size<W1.heap.size):=by show _<_;rw[<-ae];simp
 have an:(Instr.makeMap 154 none).run Tryz.prog w=.ok (.map (some w.heap.size)) W1:=by rw[<-ae];rfl
 have HR:=zh hr
 have HN:=zh hn
 have HS:=zh hs
 clear hr hn hs
 go_enter Tryz.func271,Tryz.ntmps271
 go_wp2_with fail
 clear ae an
 go_loopw [11] (fun i wr=>∃ k:Nat,k<=n/\i=.int .i64 k/\Hid (Below w.heap.size w wr/\w.heap.size<wr.heap.size)/\Hid (KMap wr w.heap.size (l.take k))) (fun i _=>n-(intOf i).toNat)
 case atStart=>exact⟨0,Nat.zero_le _,rfl,⟨ak.out,am.out⟩,al.out⟩
 case round =>
  obtain⟨k,hk,rfl,HW,HH⟩:=hrel
  by_cases ao:k<n
  ·have ah:k<l.length:=by rw[HN.out];exact ao
   obtain⟨ad,rfl,_,c0⟩:=Sz.cE (Rg.ag HR.out HW.out.1) k ah
   have ht:l.take (k+1)=l.take k++[l[k]]:=List.take_succ_eq_append_getElem ah
   have ac:l[k].length<=140737488355328:=HS.out _ (List.getElem_mem ah)
   obtain⟨x,hx⟩:=ex (l[k])
   rw[hx] at c0 ht ac
   have af:=mS HH.out ac
   have hlen:(l.take k).length=k:=by rw[List.length_take];omega
   cases hp:placeOf (l.take k) x with
   | some p =>
    rw[hp] at af
    have HE:Hid (KMap wr w.heap.size (l.take (k+1))):=by show KMap _ _ _;rw[ht];exact vD HH.out hp
    have HK:=zh hk
    clear ht hx hp hlen ac
    dsimp only[Option.getD,Option.isSome] at af
    go_wp2_with fail
    go_roundw
    case rel=>exact⟨k+1,by omega,by go_num,HW,HE⟩
    case measure=>simp[intOf];omega
   | none =>
    rw[hp] at af
    obtain⟨w2,ai,aj,ab⟩:=yd HH.out ac (by omega) hp
    rw[hlen] at ai
    rw[<-ht] at aj
    have HE:=zh aj
    have ap:Hid (Below w.heap.size w w2/\w.heap.size<w2.heap.size):=by
     have hg:=ab.grown
     exact⟨HW.out.1.grown hg (Nat.le_of_lt HW.out.2) (fun j hj=>by have:=Option.some.inj hj;omega),Nat.lt_of_lt_of_le HW.out.2 hg.size⟩
    clear ht hx hp hlen ac aj ab
    dsimp only[Option.getD,Option.isSome] at af
    go_wp2_with fail
    go_roundw
    case rel=>exact⟨k+1,by omega,by go_num,ap,HE⟩
    case measure=>simp[intOf];omega
  ·obtain rfl:k=n:=by omega
   have HE:Hid (KMap wr w.heap.size l):=by
    have h:=HH.out
    rw[List.take_of_length_le (by rw[HN.out];exact Nat.le_refl _)] at h
    exact h
   go_wp2_with fail
   go_ret
   exact⟨rfl,HE.out,HW.out.2,HW.out.1⟩
theorem Sz.mT (ks:List (List UInt8))(i:Nat)(x:Int)(f:Fld)(l:List Fld):ordP ks i x (f :: l)=match placeOf ks f.key with
  | none=>((i:Int),10)
  | some p=>if x<p then ordP ks (i+1) p l else ((i:Int),7):=by rw[ordP];rfl
def Sz.OrdRet (w:World) (X:Int × Int) (e:Ending) (w':World):Prop:=Below w.heap.size w w'/\if X.2=0 then e=.returned (.tuple #[]) else e=panAt X.1 X.2
theorem jI (A:Option Addr)(n c:Nat)(l:List Fld)(B:Option Addr)(m d:Nat)(ks:List (List UInt8))(w:World)(hn:l.length=n)(hr:Rg.Row encF 3 w A l)(hl:n<=100000)(hs:Sz.Short l)(hm:ks.length=m)(hk:Rg.Row encT 1 w B ks)(hml:m<=100000)(hks:Sz.ShortT ks) :
  Calls Tryz.prog 239 #[.slice A n c,.slice B m d] w (Sz.OrdRet w (ordP ks 0 (-1) l)):=by
 obtain⟨R,hR⟩:=ex (ordP ks 0 (-1) l)
 rw[hR]
 have HG:=zh hR
 have ah:=zh (kS B m d ks w hm hk hml hks)
 have HR:=zh hr
 have HN:=zh hn
 have HS:=zh hs
 have HM:Hid (ks.length<=100000):=by show _<=_;rw[hm];exact hml
 clear hR hr hn hs hm hk hks hml
 go_enter Tryz.func239,Tryz.ntmps239
 go_wp2_with fail
 refine ah.out.mono ?_
 rintro _ u ⟨rfl,ak,al,hb⟩
 have am:=zh ak
 have an:=zh al
 have HB:=zh hb
 clear ak al hb ah
 go_wp2_with fail
 go_loopw [5,14] (fun v i wr=>∃ (k:Nat) (x:Int),k<=n/\i=.int .i64 k/\v=.int .i64 x/\-1<=x/\x<=1000000/\Hid (Below u.heap.size u wr)/\Hid (ordP ks k x (l.drop k)=R)) (fun _ i _=>n-(intOf i).toNat)
 case atStart=>exact⟨0,-1,Nat.zero_le _,rfl,rfl,by decide,by decide,Below.refl _ _,HG.out⟩
 case round =>
  obtain⟨k,x,hk,rfl,rfl,ar,au,HW,HH⟩:=hrel
  by_cases ap:k<n
  ·have ae:k<l.length:=by rw[HN.out];exact ap
   obtain⟨ad,rfl,_,c0,c1,c2⟩:=eI (Rg.ag HR.out (bt HB.out HW.out)) k ae
   have hd:l.drop k=l[k] :: l.drop (k+1):=List.drop_eq_getElem_cons ae
   obtain⟨s1,_⟩:=short_at HS.out k ae
   have hh:=HH.out
   rw[hd,mT] at hh
   obtain⟨f,hf⟩:=ex (l[k])
   rw[hf] at c0 c1 c2 hh s1
   obtain⟨fk,fv,fl⟩:=f
   dsimp only at c0 c1 c2 hh s1
   obtain⟨V,hV⟩:=ex (wr.alloc (.cells #[.string ⟨fk.toArray⟩,.string ⟨fv.toArray⟩,.int .i64 fl] 168))
   have af:Hid (Below u.heap.size u V):=HW.out.trans ((aa hV).mono HW.out.size)
   obtain⟨v0,v1,v2,_⟩:=cJ hV (Below.refl _ _)
   have ab:=mS (tv am.out af.out an.out) s1
   have ai:Hid (Below w.heap.size w V):=bt HB.out af.out
   clear hd hf s1
   cases hp:placeOf ks fk with
   | none =>
    rw[hp] at ab hh
    dsimp only[Option.getD,Option.isSome] at ab hh
    have HE:Hid (R=((k:Int),10)):=hh.symm
    clear hh hp
    go_wp2_with fail
    clear hV
    refine (ao _).mono ?_
    rintro _ z ⟨rfl,rfl⟩
    go_wp2_with fail
    exact⟨rfl,by show OrdRet w R _ _;rw[HE.out];exact⟨ai.out,rfl⟩⟩
   | some p =>
    have aj:=yc hp
    have aq:p<=100000:=Nat.le_trans (Nat.le_of_lt aj) HM.out
    rw[hp] at ab hh
    dsimp only[Option.getD,Option.isSome] at ab hh
    clear hp aj
    by_cases ac:x<p
    ·have d0:decide (x<(p:Int))=true:=decide_eq_true ac
     have HE:Hid (ordP ks (k+1) p (l.drop (k+1))=R):=by rw[if_pos ac] at hh;exact hh
     clear hh
     go_wp2_with fail
     clear hV
     refine (ax _).mono ?_
     rintro _ z ⟨rfl,rfl⟩
     go_wp2_with fail
     refine (ax _).mono ?_
     rintro _ z ⟨rfl,rfl⟩
     go_wp2_with fail
     go_roundw
     case rel=>exact⟨k+1,p,by omega,by go_num,rfl,by omega,by omega,af,HE⟩
     case measure=>simp[intOf];omega
    ·have d0:decide (x<(p:Int))=false:=decide_eq_false ac
     have HE:Hid (R=((k:Int),7)):=by rw[if_neg ac] at hh;exact hh.symm
     clear hh
     go_wp2_with fail
     clear hV
     refine (ax _).mono ?_
     rintro _ z ⟨rfl,rfl⟩
     go_wp2_with fail
     refine (ao _).mono ?_
     rintro _ z ⟨rfl,rfl⟩
     go_wp2_with fail
     exact⟨rfl,by show OrdRet w R _ _;rw[HE.out];exact⟨ai.out,rfl⟩⟩
  ·obtain rfl:k=n:=by omega
   have HE:Hid (R=(0,0)):=by show _=_;rw[<-HH.out,List.drop_eq_nil_of_le (by rw[HN.out];exact Nat.le_refl _)];rfl
   go_wp2_with fail
   go_end0
   show OrdRet w R _ _
   rw[HE.out]
   exact⟨bt HB.out HW.out,rfl⟩
theorem nD (p q:Addr)(x y k n:Int)(w:World)(hc:∀ u,Below w.heap.size w u->u.cell? p=some (.int .i64 x))(hz:∀ u,Below w.heap.size w u->u.frozen? p=false)(hc2:∀ u,Below w.heap.size w u->(u.setCell p (.int .i64 k)).cell? q=some (.int .i64 y))(hz2:∀ u,Below w.heap.size w u->(u.setCell p (.int .i64 k)).frozen? q=false) :
  CallsD Tryz.prog 238 #[.pointer (some p),.pointer (some q)] (.panicking [{ v:=.iface 158 (.agg #[.int .i64 k,.int .i64 n]),recovered:=false }]) w fun e u' w' =>
   e=.returned (.tuple #[])/\u'=.panicking [{ v:=.iface 158 (.agg #[.int .i64 k,.int .i64 n]),recovered:=true }]/\∃ u,Below w.heap.size w u/\w'=(u.setCell p (.int .i64 k)).setCell q (.int .i64 n):=by
 refine callsD_of_wpS Tryz.func238 rfl fun c₀ cs hu=>?_
 apply wpS_region
 simp[wpOpsS,go_sem,recoverD,hu,Tryz.ntmps238]
 refine (ck k n _).mono ?_
 rintro e w' ⟨rfl,hb⟩
 simp[go_sem,hc _ hb,hz _ hb,hc2 _ hb,hz2 _ hb,bodyPostS,results,Tryz.results238]
 exact⟨w',hb,rfl⟩
theorem qY (p q:Addr)(x y:Int)(w:World)(hc:w.cell? p=some (.int .i64 x))(hz:w.frozen? p=false)(hc2:(w.setCell p (.int .i64 0)).cell? q=some (.int .i64 y))(hz2:(w.setCell p (.int .i64 0)).frozen? q=false) :
  CallsD Tryz.prog 238 #[.pointer (some p),.pointer (some q)] .returning w fun e u' w'=>e=.returned (.tuple #[])/\u'=.returning/\w'=(w.setCell p (.int .i64 0)).setCell q (.int .i64 0):=by
 refine callsD_of_wpS Tryz.func238 rfl fun c₀ cs hu=>?_
 apply wpS_region
 simp[wpOpsS,go_sem,recoverD,hu,Tryz.ntmps238]
 refine (cy _).mono ?_
 rintro e w' ⟨rfl,rfl⟩
 cases c₀
 simp_all [go_sem,bodyPostS,results,Tryz.results238]
theorem Sz.mU (ks:List (List UInt8)):∀ (l:List Fld) (i:Nat) (x:Int),(ordP ks i x l).2=0->(ordP ks i x l).1=0
 | [],i,x,_=>rfl
 | f :: l,i,x,h=>by
  rw[mT] at h ⊢
  cases hp:placeOf ks f.key with
  | none=>rw[hp] at h;cases h
  | some p =>
   rw[hp] at h
   dsimp only at h ⊢
   by_cases hx:x<p
   ·rw[if_pos hx] at h ⊢;exact mU ks l _ _ h
   ·rw[if_neg hx] at h;cases h
def Sz.OrderRet (w:World) (X:Int × Int) (e:Ending) (w':World):Prop:=e=.returned (.tuple #[.int .i64 X.1,.int .i64 X.2])/\Below w.heap.size w w'
theorem kT (A:Option Addr)(n c:Nat)(l:List Fld)(B:Option Addr)(m d:Nat)(ks:List (List UInt8))(w:World)(hn:l.length=n)(hr:Rg.Row encF 3 w A l)(hl:n<=100000)(hs:Sz.Short l)(hm:ks.length=m)(hk:Rg.Row encT 1 w B ks)(hml:m<=100000)(hks:Sz.ShortT ks) :
  Calls Tryz.prog 208 #[.slice A n c,.slice B m d] w (Sz.OrderRet w (ordP ks 0 (-1) l)):=by
 have al:∀ (fn:Fn) (first cap:Array Value) (w:World),(Instr.makeFunc fn first cap).run Tryz.prog w=.ok (.func fn first cap) w:=fun _ _ _ _=>rfl
 obtain⟨W1,ac⟩:=ex (w.alloc (.cells #[.int .i64 0] 3))
 obtain⟨W2,ah⟩:=ex (W1.alloc (.cells #[.int .i64 0] 77))
 have ab:Hid (∀ u,Below W2.heap.size W2 u->P2 w.heap.size u):=fun u hb=>nO ac ah hb
 have am:W1.heap.size=w.heap.size+1:=by rw[<-ac];simp
 have ad:Hid (Below w.heap.size w W2):=(aa ac).trans ((aa ah).mono (aa ac).size)
 have ae:=zh (jI A n c l B m d ks W2 hn (Rg.ag hr ad.out) hl hs hm (Rg.ag hk ad.out) hml hks)
 obtain⟨X,hX⟩:=ex (ordP ks 0 (-1) l)
 rw[hX]
 have ai:Hid (X.2=0->X.1=0):=by rw[<-hX];exact mU ks l 0 (-1)
 rw[hX] at ae
 clear hX hn hr hl hs hm hk hml hks
 go_enter_defers Tryz.func208,Tryz.ntmps208
 go_wp2_with fail
 clear ac ah
 refine ae.out.mono ?_
 rintro e z1 ⟨hb,hr⟩
 have HB:=zh hb
 clear hb ae
 obtain⟨n,k⟩:=X
 dsimp only at hr ai
 by_cases hk:k=0
 ·subst hk
  obtain rfl:=ai.out rfl
  obtain rfl:e=.returned (.tuple #[]):=by rw[if_pos rfl] at hr;exact hr
  obtain⟨c0,f0,c1,f1⟩:=aC (ab.out _ HB.out)
  obtain⟨d0,g0,d1,g1⟩:=aD (ab.out _ HB.out) (.int .i64 0)
  have af:=zh (gr (ab.out _ HB.out))
  have ak:Hid (Below w.heap.size w ((z1.setCell ⟨w.heap.size,0,none⟩ (.int .i64 0)).setCell ⟨w.heap.size+1,0,none⟩ (.int .i64 0))):=((bt ad.out HB.out).setCell (Nat.le_refl _) _).setCell (Nat.le_succ _) _
  clear hr
  go_wp2_with fail
  generalize (z1.setCell ⟨w.heap.size,0,none⟩ (.int .i64 0)).setCell ⟨w.heap.size+1,0,none⟩ (.int .i64 0)=V at *
  obtain⟨k0,m0,k1,m1⟩:=aC af.out
  obtain⟨l0,o0,l1,o1⟩:=aD af.out (.int .i64 0)
  obtain⟨q0,q1⟩:=bL af.out (.int .i64 0) (.int .i64 0)
  refine leaves_cons (f:=238) (args:=#[.pointer (some ⟨w.heap.size,0,none⟩),.pointer (some ⟨w.heap.size+1,0,none⟩)]) (by simp) (by simp[go_sem]) ?_
  refine (qY ⟨w.heap.size,0,none⟩ ⟨w.heap.size+1,0,none⟩ 0 0 _ k0 m0 l1 o1).mono ?_
  rintro e u' w3 ⟨rfl,rfl,rfl⟩
  simp[Leaves,settle,results,Tryz.results208,go_sem,q0,q1]
  exact⟨rfl,(ak.out.setCell (Nat.le_refl _) _).setCell (Nat.le_succ _) _⟩
 ·obtain rfl:e=panAt n k:=by rw[if_neg hk] at hr;exact hr
  clear hr hk
  go_wp2_with fail
  refine leaves_cons (f:=238) (args:=#[.pointer (some ⟨w.heap.size,0,none⟩),.pointer (some ⟨w.heap.size+1,0,none⟩)]) (by simp) (by simp[go_sem]) ?_
  refine (nD ⟨w.heap.size,0,none⟩ ⟨w.heap.size+1,0,none⟩ 0 0 n k _ (fun u hb=>(aC (ab.out _ (bt HB.out hb))).1) (fun u hb=>(aC (ab.out _ (bt HB.out hb))).2.1) (fun u hb=>(aD (ab.out _ (bt HB.out hb)) _).2.2.1) (fun u hb=>(aD (ab.out _ (bt HB.out hb)) _).2.2.2)).mono ?_
  rintro e u' w3 ⟨rfl,rfl,u,hb,rfl⟩
  have aj:=zh (bt HB.out hb)
  obtain⟨q0,q1⟩:=bL (ab.out _ aj.out) (.int .i64 n) (.int .i64 k)
  simp[Leaves,settle,results,Tryz.results208,go_sem,q0,q1]
  exact⟨rfl,((bt ad.out aj.out).setCell (Nat.le_refl _) _).setCell (Nat.le_succ _) _⟩
theorem Sz.vE {w u:World}{B:Nat}(h:Below B w u)(n:Nat):Below B w (u.drewN n):=below_drewN h n
end
section
open Go.RowKit Go.Maps Sz
attribute [local go_sem ↓] Go.wp_at_zero Go.wp_at_succ
variable {TO TF:TypeId}
def Sz.Tri (b:Nat) (k v:List UInt8) (n:Int) (T:TypeId) (u:World):Prop:=u.heap[b]?=some (.cells #[.string ⟨k.toArray⟩,.string ⟨v.toArray⟩,.int .i64 n] T (0,0))
theorem Sz.zN {w W1:World}{k v:List UInt8}{n:Int}{T:TypeId}(h:w.alloc (.cells #[.string ⟨k.toArray⟩,.string ⟨v.toArray⟩,.int .i64 n] T)=W1):Tri w.heap.size k v n T W1:=by
 subst h;exact heap_alloc_new w _
theorem Sz.vF {b:Nat}{k v:List UInt8}{n:Int}{T:TypeId}{u:World}(h:Tri b k v n T u):u.cell? ⟨b,0,none⟩=some (.string ⟨k.toArray⟩)/\u.cell? ⟨b,1,none⟩=some (.string ⟨v.toArray⟩)/\u.cell? ⟨b,2,none⟩=some (.int .i64 n)/\u.frozen? ⟨b,0,none⟩=false/\u.frozen? ⟨b,1,none⟩=false/\u.frozen? ⟨b,2,none⟩=false:=by
 unfold Tri at h
 refine⟨?_,?_,?_,?_,?_,?_⟩ <;> simp[World.cell?,World.frozen?,h]
end
section
open Go.RowKit Go.Maps Sz
attribute [local go_sem ↓] Go.wp_at_zero Go.wp_at_succ
theorem Sz.zO {w:World}{A:Option Addr}{t:List (List Fld)}(h:Gr.Row encF 3 w A t)(k:Nat)(hk:k<t.length):∃ ad C n c,A=some ad/\t[k].length=n/\Rg.Row encF 3 w C t[k]/\∀ u,Below w.heap.size w u->u.cell? (ad.add k)=some (.slice C n c):=by
 obtain⟨ds,h1,h2,h3⟩:=h
 have aa:k<ds.length:=by omega
 obtain⟨ad,e,_,_⟩:=h1 (by omega)
 obtain⟨q1,q2⟩:=h3 k ds[k] t[k] (List.getElem?_eq_getElem aa) (List.getElem?_eq_getElem hk)
 refine⟨ad,ds[k].1,ds[k].2.1,ds[k].2.2,e,q1.symm,q2,fun u hb=>?_⟩
 obtain⟨ab,x,e',hx,_,hc⟩:=Rg.bz (Rg.ag h1 hb) k aa
 rw[e] at e';cases e'
 have:=hc 0 _ rfl
 rw[if_pos rfl,Nat.mul_one] at this
 rw[hx];exact this
theorem Sz.ye {u:World}(A:Option Addr)(n c:Nat)(l:List Fld)(B:Option Addr)(m d:Nat)(ks:List (List UInt8))(hn:l.length=n)(hr:Rg.Row encF 3 u A l)(hl:n<=100000)(hs:Short l)(hm:ks.length=m)(hk:Rg.Row encT 1 u B ks)(hml:m<=100000)(hks:ShortT ks){i e0:Int}(hX:ordP ks 0 (-1) l=(i,e0)) :
  Calls Tryz.prog 208 #[.slice A n c,.slice B m d] u fun e w'=>e=.returned (.tuple #[.int .i64 i,.int .i64 e0])/\Below u.heap.size u w' :=
 (kT A n c l B m d ks u hn hr hl hs hm hk hml hks).mono fun e w' ⟨he,hb⟩=>by
  rw[hX] at he
  exact⟨he,hb⟩
theorem Sz.vG {l:List (List UInt8)}(h:l.all (fun k=>decide (k.length<=140737488355328))=true):ShortT l:=fun k hk=>by
 have:=List.all_eq_true.1 h k hk
 rwa [decide_eq_true_eq] at this
theorem Rg.aG {α:Type}{enc:α->List Value}{K:Nat}(hf:Rg.Fits enc K)(w:World)(T:TypeId)(l:List α)(cs:Array Value)(h:cs.toList=Rg.flat enc l){b:Nat}(hb:w.heap.size=b):Rg.Row enc K (w.alloc (.cells cs T)) (some ⟨b,0,none⟩) l:=by
 subst hb
 intro _
 refine⟨_,rfl,by simp,fun i hi j v hv=>?_⟩
 have hj:j<K:=by rw[<-hf.len l[i]];exact (List.getElem?_eq_some_iff.1 hv).1
 rw[<-Rg.eM]
 exact Rg.aw w T l cs h _ _ ((Rg.flat_get hf l i hi j hj).trans hv)
end
section
open Go.RowKit Rs At Pg
namespace Pg
theorem gB {B B':Nat}{u:World}{p:Pk}{D C G:Option Addr}(h:PRows B u p D C G)(hB:B'<=B):PRows B' u p D C G :=
 ⟨⟨gA h.1.1 hB,fun a ha=>Nat.le_trans hB (h.1.2 a ha)⟩,⟨h.2.1.1,fun a ha=>Nat.le_trans hB (h.2.1.2 a ha)⟩,⟨h.2.2.1,fun a ha=>Nat.le_trans hB (h.2.2.2 a ha)⟩⟩
abbrev zeroC:Array Value:=#[.string ⟨#[]⟩,.string ⟨#[]⟩,.slice none 0 0,.slice none 0 0,.slice none 0 0,.float .f64 0]
theorem mV (B:Nat)(u:World):PRows B u zeroP none none none :=
 ⟨⟨⟨[],fun h=>absurd h (by decide),⟨rfl,fun i a d h=>by simp at h⟩,fun i a h=>by simp at h⟩,fun a h=>by cases h⟩,⟨⟨[],fun h=>absurd h (by decide),⟨rfl,fun i a d h=>by simp at h⟩⟩,fun a h=>by cases h⟩,⟨fun h=>absurd h (by decide),fun a h=>by cases h⟩⟩
theorem yf {T:TypeId}{w W:World}(h:w.alloc (.cells zeroC T)=W):PBlk T w.heap.size (w.heap.size+1) zeroP W :=
 ⟨none,0,none,0,none,0,by rw[<-h];exact heap_alloc_new w _,mV _ _⟩
abbrev stP (u:World) (b:Nat) (p:Pk) (D C G:Option Addr) (dc cc gc:Nat):World :=
 (((((u.setCell ⟨b,0,none⟩ (.string ⟨p.name.toArray⟩)).setCell ⟨b,1,none⟩ (.string ⟨p.ver.toArray⟩)).setCell ⟨b,2,none⟩ (.slice D p.deps.length dc)).setCell ⟨b,3,none⟩ (.slice C p.confl.length cc)).setCell ⟨b,4,none⟩ (.slice G p.prov.length gc)).setCell ⟨b,5,none⟩ (.float .f64 p.wt)
theorem jJ {u:World}{b:Nat}{T:TypeId}(h:u.heap[b]?=some (.cells zeroC T (0,0)))(p:Pk)(D C G:Option Addr)(dc cc gc:Nat):(stP u b p D C G dc cc gc).heap[b]?=some (.cells (pCells p D C G dc cc gc) T (0,0)):=by
 unfold stP
 exact (aJ (aJ (aJ (aJ (aJ (aJ h)))))).trans rfl
theorem fP (u:World)(b:Nat)(p:Pk)(D C G:Option Addr)(dc cc gc:Nat):But (some b) u (stP u b p D C G dc cc gc) :=
 dM (dM (dM (dM (dM (aO u ⟨b,0,none⟩ _) (aO _ ⟨b,1,none⟩ _)) (aO _ ⟨b,2,none⟩ _)) (aO _ ⟨b,3,none⟩ _)) (aO _ ⟨b,4,none⟩ _)) (aO _ ⟨b,5,none⟩ _)
theorem gC {T:TypeId}{b:Nat}{u:World}(h:u.heap[b]?=some (.cells zeroC T (0,0))):∀ j x,u.cell? ⟨b,j,none⟩=some x->NoB x:=du (p:=zeroP) (D:=none) (C:=none) (G:=none) (dc:=0) (cc:=0) (gc:=0) h
theorem iF {B:Nat}{w u:World}{b:Nat}(h:Below B w u)(hb:B<=b)(p:Pk)(D C G:Option Addr)(dc cc gc:Nat):Below B w (stP u b p D C G dc cc gc) :=
 (((((h.setCell (p:=⟨b,0,none⟩) hb _).setCell (p:=⟨b,1,none⟩) hb _).setCell (p:=⟨b,2,none⟩) hb _).setCell (p:=⟨b,3,none⟩) hb _).setCell (p:=⟨b,4,none⟩) hb _).setCell (p:=⟨b,5,none⟩) hb _
theorem bO {u:World}{b:Nat}{T:TypeId}{x0 x1 x2 x3 x4 x5:Value}(h:u.heap[b]?=some (.cells #[x0,x1,x2,x3,x4,x5] T (0,0))):u.cell? ⟨b,0,none⟩=some x0/\u.cell? ⟨b,1,none⟩=some x1/\u.cell? ⟨b,2,none⟩=some x2/\u.cell? ⟨b,3,none⟩=some x3/\u.cell? ⟨b,4,none⟩=some x4/\u.cell? ⟨b,5,none⟩=some x5:=by
 refine⟨?_,?_,?_,?_,?_,?_⟩ <;> simp[World.cell?,h]
theorem aK {u:World}{b:Nat}{T:TypeId}{cs:Array Value}(h:u.heap[b]?=some (.cells cs T (0,0)))(j:Nat):u.frozen? ⟨b,j,none⟩=false:=by
 simp[World.frozen?,h]
end Pg
def Pg.ReadRet (w:World) (R:Except (Int × Int) Pk) (e:Ending) (w':World):Prop:=Below w.heap.size w w'/\match R with
 | .ok p=>∃ D dc C cc G gc,e=.returned (.agg (pCells p D C G dc cc gc))/\PRows w.heap.size w' p D C G
 | .error x=>e=panAt x.1 x.2
theorem Pg.yg {u:World}{b:Nat}(h:u.heap[b]?=some (.cells zeroC 68 (0,0)))(p:Pk)(D C G:Option Addr)(dc cc gc:Nat){tmps:Array Value}(ht:tmps.getD 2 undef=.pointer (some ⟨b,0,none⟩)) :
  (results Tryz.f180 tmps).run Tryz.prog (stP u b p D C G dc cc gc)=.ok (.agg (pCells p D C G dc cc gc)) (stP u b p D C G dc cc gc):=by
 obtain⟨g0,g1,g2,g3,g4,g5⟩:=bO (jJ h p D C G dc cc gc)
 have hr:Tryz.f180.results=#[.cell 2 68]:=Tryz.results180
 simp only[results,hr]
 generalize stP u b p D C G dc cc gc=V at *
 simp only[Array.getD_eq_getD_getElem?] at ht ⊢
 simp[go_sem,ht,g0,g1,g2,g3,g4,g5]
attribute [local go_sem ↓] Go.wp_at_zero Go.wp_at_succ
attribute [local go_sem] Pg.aj
theorem qZ (A:Option Addr)(n c:Nat)(l:List Sz.Fld)(w:World)(hk:KOk w)(hn:l.length=n)(hr:Rg.Row Sz.encF 3 w A l)(hl:n<=1000)(hs:Sz.Short l)(hv:∀ f∈l,ValFit f.key f.val) :
  Calls Tryz.prog 180 #[.slice A n c] w (Pg.ReadRet w (readP l)):=by
 obtain⟨R,hR⟩:=ex (readP l)
 rw[hR]
 unfold readP at hR
 obtain⟨W1,ap⟩:=ex (w.alloc (.cells zeroC 68))
 have aN:Hid (Below w.heap.size w W1):=aa ap
 have HZ:Hid (∀ u,Below W1.heap.size W1 u->u.heap[w.heap.size]?=some (.cells zeroC 68 (0,0))):=fun u hb=>(hb.block _ (by rw[<-ap];simp)).trans (by rw[<-ap];exact heap_alloc_new w _)
 obtain⟨b1,au⟩:=ex W1.heap.size
 obtain⟨W2,aC⟩:=ex (W1.alloc (.cells #[.string ⟨#[80,97,99,107,97,103,101]⟩,.string ⟨#[86,101,114,115,105,111,110]⟩,.string ⟨#[68,101,112,101,110,100,115]⟩,.string ⟨#[67,111,110,102,108,105,99,116,115]⟩,.string ⟨#[80,114,111,118,105,100,101,115]⟩,.string ⟨#[87,101,105,103,104,116]⟩] 9))
 have ak:Hid (Below W1.heap.size W1 W2):=aa aC
 have aD:Hid (Below w.heap.size w W2):=bt aN.out ak.out
 have aE:Rg.Row encT 1 W2 (some ⟨b1,0,none⟩) keys6:=by rw[<-aC];exact Rg.aG fitsT W1 9 keys6 _ rfl au
 obtain⟨X,hX⟩:=ex (Sz.ordP keys6 0 (-1) l)
 rw[hX] at hR
 obtain⟨i0,e0⟩:=X
 dsimp only at hR
 have HO:=zh (Sz.ye (u:=W2) A n c l (some ⟨b1,0,none⟩) 6 6 keys6 hn (Rg.ag hr aD.out) (Nat.le_trans hl (by decide)) hs rfl aE (by decide) (Sz.vG (by decide +kernel)) hX)
 have HS:=zh hs
 have HV:=zh hv
 have HN:=zh hn
 have av:=zh hr
 have HL:=zh hl
 have HK:=zh hk
 have HR:=zh hR
 have aW:Hid (w.heap.size<b1):=by rw[<-au,<-ap];show _<_;simp
 have aO:=zh au
 clear hR hs hv hn hr hl hk hX aE
 go_enter Tryz.func180,Tryz.ntmps180
 go_wp2_with fail
 clear ap aC au
 refine HO.out.mono ?_
 rintro _ u1 ⟨rfl,hb⟩
 have aF:Hid (Below W1.heap.size W1 u1):=bt ak.out hb
 have ac:Hid (Below w.heap.size w u1):=bt aD.out hb
 clear hb HO
 by_cases he:e0=0
 case neg =>
  have HF:Hid (R=.error (i0,e0)):=by show _=_;rw[<-HR.out,if_neg he]
  have d0:(e0==0)=false:=beq_eq_false_iff_ne.2 he
  clear he
  go_wp2_with fail
  refine (ao _).mono ?_
  rintro _ u2 ⟨rfl,rfl⟩
  go_wp2_with fail
  exact⟨rfl,ac.out,by rw[HF.out]⟩
 subst he
 have al:Hid ((if ((Sz.getF l kPkg).isSome&&(Sz.getF l kVer).isSome)=true then readR 0 zeroP l else .error (0,10))=R):=by show _=_;rw[<-HR.out];rfl
 have aw:Hid (∀ u,Below w.heap.size w u->Calls Tryz.prog 209 #[.slice A n c,.string ⟨#[80,97,99,107,97,103,101]⟩] u fun e w'=>e=.returned (.bool (Sz.getF l kPkg).isSome)/\Below u.heap.size u w'):=fun u hb=>kN A n c l kPkg u HN.out (Rg.ag av.out hb) (Nat.le_trans HL.out (by decide)) HS.out
 have ay:Hid (∀ u,Below w.heap.size w u->Calls Tryz.prog 209 #[.slice A n c,.string ⟨#[86,101,114,115,105,111,110]⟩] u fun e w'=>e=.returned (.bool (Sz.getF l kVer).isSome)/\Below u.heap.size u w'):=fun u hb=>kN A n c l kVer u HN.out (Rg.ag av.out hb) (Nat.le_trans HL.out (by decide)) HS.out
 obtain⟨x,hx⟩:=ex ((Sz.getF l kPkg).isSome)
 obtain⟨y,hy⟩:=ex ((Sz.getF l kVer).isSome)
 rw[hx,hy] at al
 rw[hx] at aw
 rw[hy] at ay
 clear hx hy HR
 go_wp2_with fail
 refine (ax _).mono ?_
 rintro _ u2 ⟨rfl,rfl⟩
 go_wp2_with fail
 refine (aw.out _ ac.out).mono ?_
 rintro _ u2 ⟨rfl,hb⟩
 have aH:Hid (Below W1.heap.size W1 u2):=bt aF.out hb
 have ae:Hid (Below w.heap.size w u2):=bt ac.out hb
 clear hb aw aF ac
 cases x
 ·have HF:Hid (R=.error (0,10)):=al.out.symm
  go_wp2_with fail
  refine (ao _).mono ?_
  rintro _ u3 ⟨rfl,rfl⟩
  go_wp2_with fail
  exact⟨rfl,ae.out,by rw[HF.out]⟩
 go_wp2_with fail
 refine (ay.out _ ae.out).mono ?_
 rintro _ u3 ⟨rfl,hb⟩
 have aq:Hid (Below W1.heap.size W1 u3):=bt aH.out hb
 have ab:Hid (Below w.heap.size w u3):=bt ae.out hb
 clear hb ay aH ae
 cases y
 ·have HF:Hid (R=.error (0,10)):=al.out.symm
  go_wp2_with fail
  refine (ao _).mono ?_
  rintro _ u3 ⟨rfl,rfl⟩
  go_wp2_with fail
  exact⟨rfl,ab.out,by rw[HF.out]⟩
 have aP:Hid (readR 0 zeroP l=R):=al.out
 clear al
 go_wp2_with fail
 refine (ax _).mono ?_
 rintro _ u4 ⟨rfl,rfl⟩
 obtain⟨b,hb⟩:=ex u3.heap.size
 obtain⟨U,hU⟩:=ex (u3.alloc (.cells zeroC 68))
 have aQ:Hid (PBlk 68 b (b+1) zeroP U):=by rw[<-hb];exact yf hU
 have az:Hid (Below W1.heap.size W1 U/\Below w.heap.size w U):=⟨aq.out.trans ((aa hU).mono aq.out.size),ab.out.trans ((aa hU).mono ab.out.size)⟩
 have ah:Hid (W1.heap.size<=b/\w.heap.size<=b/\U.heap.size=b+1):=⟨by rw[<-hb];exact aq.out.size,by rw[<-hb];exact ab.out.size,by rw[<-hU,<-hb];simp⟩
 clear aq ab
 go_wp2_with fail
 clear hU hb
 go_loopw [28] (fun i wr=>∃ (k:Nat) (p:Pk),k<=n/\i=.int .i64 k/\Hid (PBlk 68 b (b+1) p wr)/\Hid (Below b U wr/\b+1<=wr.heap.size)/\Hid (readR k p (l.drop k)=R)) (fun i _=>n-(intOf i).toNat)
 case atStart=>exact⟨0,zeroP,Nat.zero_le _,rfl,aQ,⟨Below.refl _ _,Nat.le_of_eq ah.out.2.2.symm⟩,by show readR _ _ (l.drop 0)=R;rw[List.drop_zero,aP.out]⟩
 case round =>
  obtain⟨k,p,hk,rfl,HP,ai,HE⟩:=hrel
  have aA:Hid (Below w.heap.size w wr):=az.out.2.trans (ai.out.1.mono ah.out.2.1)
  have aX:=HL.out
  by_cases aI:k<n
  ·have aJ:=zh aI
   have aB:k<l.length:=by rw[HN.out];exact aI
   obtain⟨ad,rfl,_,q0,q1,q2⟩:=Sz.eI (Rg.ag av.out aA.out) k aB
   have am:=HV.out _ (List.getElem_mem aB)
   have he:=HE.out
   rw[List.drop_eq_getElem_cons aB] at he
   obtain⟨f,hf⟩:=ex (l[k])
   rw[hf] at am he q0 q1 q2
   obtain⟨fk,fv,fl⟩:=f
   dsimp only at am q0 q1 q2
   obtain⟨V,hV⟩:=ex (wr.alloc (.cells #[.string ⟨fk.toArray⟩,.string ⟨fv.toArray⟩,.int .i64 fl] 168))
   have ar:Hid (Below wr.heap.size wr V):=aa hV
   have aL:=zh (bE HP.out ar.out)
   have an:Hid (Below b U V/\b+1<=V.heap.size):=⟨ai.out.1.trans (ar.out.mono (Nat.le_trans (Nat.le_succ _) ai.out.2)),Nat.le_trans ai.out.2 ar.out.size⟩
   obtain⟨v0,v1,v2,_⟩:=Sz.vF (Sz.zN hV)
   have HT:=zh (qX b (b+1) fk fv k p V (aY HK.out (bt aA.out ar.out)) aL.out (Nat.lt_succ_self b) an.out.2 am)
   obtain⟨E,hE⟩:=ex (takeR p fk fv)
   rw[hE] at HT
   cases E with
   | error e =>
    have HF:Hid (R=.error ((k:Int),e)):=by show _=_;rw[<-he];exact dz hE
    clear he hf am hE
    go_wp2_with fail
    refine HT.out.mono ?_
    rintro r u5 ⟨aj,rfl⟩
    have aR:Hid (Below w.heap.size w u5):=az.out.2.trans ((an.out.1.trans aj).mono ah.out.2.1)
    clear aj
    go_wp2_with fail
    exact⟨rfl,aR.out,by rw[HF.out]⟩
   | ok q =>
    have aS:Hid (readR (k+1) q (l.drop (k+1))=R):=by show _=_;rw[<-he];exact (gx (f:=⟨fk,fv,fl⟩) hE).symm
    clear he hf am hE
    go_wp2_with fail
    refine HT.out.mono ?_
    rintro r u5 ⟨aj,rfl,aM⟩
    have aT:=zh aM
    have aU:Hid (Below b U u5/\b+1<=u5.heap.size):=⟨an.out.1.trans aj,Nat.le_trans an.out.2 aj.size⟩
    clear aj aM HT HP aL ai an hV v0 v1 v2 q0 q1 q2
    go_wp2_with fail
    go_roundw
    case rel=>exact⟨k+1,q,(by have:=aJ.out;omega),by go_num,aT,aU,aS⟩
    case measure=>have:=aJ.out;simp[intOf];omega
  ·obtain rfl:k=n:=by omega
   have HF:Hid (R=.ok p):=by show _=_;rw[<-HE.out,List.drop_eq_nil_of_le (by rw[HN.out];exact Nat.le_refl _)];rfl
   obtain⟨D,dc,C,cc,G,gc,h1,h2⟩:=HP.out
   obtain⟨g0,g1,g2,g3,g4,g5⟩:=bO h1
   have aV:=zh h2
   have af:Hid (wr.heap[w.heap.size]?=some (.cells zeroC 68 (0,0))):=HZ.out _ (az.out.1.trans (ai.out.1.mono ah.out.1))
   obtain⟨k0,k1,k2,k3,k4,k5⟩:=bO af.out
   have z0:=aK af.out 0
   have z1:=aK af.out 1
   have z2:=aK af.out 2
   have z3:=aK af.out 3
   have z4:=aK af.out 4
   have z5:=aK af.out 5
   clear h1 h2
   go_wp2_with fail
   (try simp only[Exit.inBlock,Exit.then])
   refine bodyPost_ret (yg af.out p D C G dc cc gc rfl) rfl ?_
   refine⟨iF aA.out (Nat.le_refl _) p D C G dc cc gc,?_⟩
   rw[HF.out]
   exact⟨D,dc,C,cc,G,gc,rfl,gB (ba aV.out (fP wr w.heap.size p D C G dc cc gc) (Nat.lt_succ_of_le ah.out.2.1) (gC af.out)) (Nat.le_succ_of_le ah.out.2.1)⟩
end
end Go.Proofs.YtgnaiidgjmicaaaGreatDoor
