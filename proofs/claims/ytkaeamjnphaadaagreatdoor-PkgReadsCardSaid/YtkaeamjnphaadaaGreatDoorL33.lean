/- Part 33 of what the laws lean on. -/
import Derived.Test.YtkaeamjnphaadaaGreatDoorL32
set_option maxRecDepth 100000
set_option maxHeartbeats 64000000
namespace Go.Proofs.YtkaeamjnphaadaaGreatDoor
section
open Go.RowKit Rs At Pg
namespace Pg
theorem jz {α:Type}{enc:α->List Value}{K B b j:Nat}{T:TypeId}{w:World}{v x:Value}{l:List α}(h:Rg.Own enc K w B T v l)(hb:b<B):Rg.Own enc K (w.setCell ⟨b,j,none⟩ x) B T v l :=
 World.ownsRow.kept h (Sz.cI w ⟨b,j,none⟩ x) (by
  cases hv:v.ownBlock with
  | none=>exact .inl rfl
  | some g =>
   refine .inr fun e=>?_
   have h1:=(Rg.bz h g hv).1
   have h2:=Option.some.inj e
   simp only at h2
   omega)
theorem uf {B b j:Nat}{T:TypeId}{w:World}{v x:Value}{ds:List Desc}{t:List (List Atm)}(h:DOwnF w B T v ds t)(hb:b<B)(hg:∀ j x,w.cell? ⟨b,j,none⟩=some x->NoB x):DOwnF (w.setCell ⟨b,j,none⟩ x) B T v ds t:=by
 refine⟨jz h.1 hb,⟨h.2.1.1,fun i d l e1 e2=>⟨(h.2.1.2 i d l e1 e2).1,fq (h.2.1.2 i d l e1 e2).2 (aN w ⟨b,j,none⟩ x) (fM (fun a ha=>h.2.2.1 i d e1 a ha) hb) (fun g e=>by cases e;exact hg)⟩⟩,h.2.2.1,fun g hgv k u hu=>?_⟩
 have h1:=(Rg.bz h.1 g hgv).1
 rw[World.cell?_setCell_far _ _ _ _ (by show b≠g;omega)] at hu
 exact h.2.2.2 g hgv k u hu
theorem a6 {w u:World}{b:Nat}{o:Obj}(h:w.heap[b]?=some o){B:Nat}(hb:Below B w u)(hlt:b<B):u.heap[b]?=some o:=(hb.block _ hlt).trans h
theorem dV {w u:World}{b:Nat}{o:Obj}{r:Option Nat}(h:w.heap[b]?=some o)(hg:w.grownBy u r)(hne:r≠some b):u.heap[b]?=some o:=(hg.block b (block_lt h) (fun e=>hne e.symm)).trans h
theorem gB {α:Type}{enc:α->List Value}{K B b:Nat}{T:TypeId}{w:World}{v:Value}{l:List α}(h:Rg.Own enc K w B T v l)(hb:b<B):v.ownBlock≠some b:=fun e=>by
 have:=(Rg.bz h b e).1
 omega
theorem aev {α:Type}{enc:α->List Value}{K:Nat}{w u:World}{A:Option Addr}{l:List α}(h:Rg.Row enc K w A l)(hs:w.heap.size<=u.heap.size)(hk:0<l.length->∀ a,A=some a->a.block<w.heap.size->u.heap[a.block]?=w.heap[a.block]?):Rg.Row enc K u A l:=fun h0=>by
 obtain⟨a,e,hl,hc⟩:=h h0
 refine⟨a,e,Nat.lt_of_lt_of_le hl hs,fun i hi j v hv=>?_⟩
 have h1:=hc i hi j v hv
 rw[World.cell?_of_block]
 ·exact h1
 ·have:(if j=0 then a.add (i*K) else (⟨(a.add (i*K)).block,(a.add (i*K)).off+j,none⟩:Addr)).block=a.block:=by split <;> simp[add_block]
  rw[this]
  exact hk h0 a e hl
theorem acT {w u:World}{A:Option Addr}{l:List Sp}(h:SRow w A l)(hs:w.heap.size<=u.heap.size)(hk:0<l.length->∀ a,A=some a->a.block<w.heap.size->u.heap[a.block]?=w.heap[a.block]?):SRow u A l:=fun h0=>by
 obtain⟨a,e,hl,hc⟩:=h h0
 have hk:=hk h0 a e hl
 refine⟨a,e,Nat.lt_of_lt_of_le hl hs,fun i hi=>?_⟩
 obtain⟨c0,c1,c2,c3⟩:=hc i hi
 refine⟨?_,?_,?_,?_⟩
 ·rw[World.cell?_of_block (by simpa [add_block] using hk)];exact c0
 ·rw[World.cell?_of_block (by simpa [add_block] using hk)];exact c1
 ·rw[World.cell?_of_block (by simpa [add_block] using hk)];exact c2
 ·rw[World.cell?_of_block (by simpa [add_block] using hk)];exact c3
theorem ug {S:Nat->Prop}{w u:World}{A:Option Addr}{l:List Atm}(h:ARow w A l)(hs:w.heap.size<=u.heap.size)(hk:∀ k,k<w.heap.size->¬ S k->u.heap[k]?=w.heap[k]?)(hA:∀ a,A=some a->¬ S a.block)(hg:∀ g,S g->∀ j x,w.cell? ⟨g,j,none⟩=some x->NoB x):ARow u A l:=by
 obtain⟨ds,h1,h2,h3⟩:=h
 refine⟨ds,aev h1 hs (fun _ a ha hl=>hk _ hl (hA a ha)),h2,fun i d a e1 e2=>⟨(h3 i d a e1 e2).1,(h3 i d a e1 e2).2.1,acT (h3 i d a e1 e2).2.2 hs (fun h0 q hq hl=>hk _ hl (fun hS=>nt (h3 i d a e1 e2).2.2 (hg _ hS) h0 q hq rfl))⟩⟩
theorem gC {b2:Nat}{wc wr u:World}(h:But (some b2) wc wr)(hb:Below wc.heap.size wr u):But (some b2) wc u:=⟨Nat.le_trans h.1 hb.size,fun k hk hr=>(hb.block k hk).trans (h.2 k hk hr)⟩
theorem fx {b2 j:Nat}{wc wr:World}{x:Value}(h:But (some b2) wc wr):But (some b2) wc (wr.setCell ⟨b2,j,none⟩ x):=bV h (aN wr ⟨b2,j,none⟩ x)
theorem fN {α:Type}{enc:α->List Value}{K B:Nat}{T:TypeId}{w:World}{v:Value}{l:List α}(h:Rg.Own enc K w B T v l):IsSl v:=by
 rcases h.2 with⟨rfl,_⟩ | ⟨g,cap,cur,rfl,_⟩
 ·exact⟨_,_,_,rfl⟩
 ·exact⟨_,_,_,rfl⟩
theorem nE {u:World}{b:Nat}{T:TypeId}{s0 s1:ByteArray}{v2 v3 v4:Value}{f:Nat}(h:u.heap[b]?=some (.cells #[.string s0,.string s1,v2,v3,v4,.float .f64 f] T (0,0)))(h2:IsSl v2)(h3:IsSl v3)(h4:IsSl v4):∀ j x,u.cell? ⟨b,j,none⟩=some x->NoB x:=fun j x hx y e=>by
 rw[cell_of_row u b j _ T (0,0) h] at hx
 subst e
 have hm:=Array.mem_of_getElem? hx
 obtain⟨_,_,_,q2⟩:=h2
 obtain⟨_,_,_,q3⟩:=h3
 obtain⟨_,_,_,q4⟩:=h4
 subst q2 q3 q4
 simp at hm
theorem isl (A:Option Addr)(n c:Nat):IsSl (.slice A n c):=⟨_,_,_,rfl⟩
abbrev six (u:World) (b:Nat) (x0 x1 x2 x3 x4 x5:Value):World:=(((((u.setCell ⟨b,0,none⟩ x0).setCell ⟨b,1,none⟩ x1).setCell ⟨b,2,none⟩ x2).setCell ⟨b,3,none⟩ x3).setCell ⟨b,4,none⟩ x4).setCell ⟨b,5,none⟩ x5
theorem acU {u:World}{b:Nat}{T:TypeId}(h:u.heap[b]?=some (.cells zeroC T (0,0)))(x0 x1 x2 x3 x4 x5:Value):(six u b x0 x1 x2 x3 x4 x5).heap[b]?=some (.cells #[x0,x1,x2,x3,x4,x5] T (0,0)):=(aA (aA (aA (aA (aA (aA h)))))).trans rfl
theorem aew (u:World)(b:Nat)(x0 x1 x2 x3 x4 x5:Value):But (some b) u (six u b x0 x1 x2 x3 x4 x5) :=
 bV (bV (bV (bV (bV (aN u ⟨b,0,none⟩ _) (aN _ ⟨b,1,none⟩ _)) (aN _ ⟨b,2,none⟩ _)) (aN _ ⟨b,3,none⟩ _)) (aN _ ⟨b,4,none⟩ _)) (aN _ ⟨b,5,none⟩ _)
theorem aa0 {B:Nat}{w u:World}{b:Nat}(h:Below B w u)(hb:B<=b)(x0 x1 x2 x3 x4 x5:Value):Below B w (six u b x0 x1 x2 x3 x4 x5) :=
 (((((h.setCell (p:=⟨b,0,none⟩) hb _).setCell (p:=⟨b,1,none⟩) hb _).setCell (p:=⟨b,2,none⟩) hb _).setCell (p:=⟨b,3,none⟩) hb _).setCell (p:=⟨b,4,none⟩) hb _).setCell (p:=⟨b,5,none⟩) hb _
def CutTo (TP:TypeId) (U:World) (b:Nat) (nm vr:List UInt8) (cn:Nat) (confl:List Atm) (wt:Nat) (v:Value) (wx:World):Prop :=
 ∃ b2 C2 cc2,v=.pointer (some ⟨b2,0,none⟩)/\U.heap.size<=b2/\b2<wx.heap.size/\wx.heap[b2]?=some (.cells #[.string ⟨nm.toArray⟩,.string ⟨vr.toArray⟩,.slice none 0 0,.slice C2 cn cc2,.slice none 0 0,.float .f64 wt] TP (0,0))/\Below U.heap.size U wx /\
  ∀ x:World,wx.heap.size<=x.heap.size->(∀ k,k<wx.heap.size->k≠b2->k≠b+1->x.heap[k]?=wx.heap[k]?)->ARow x C2 confl
theorem acV {TP:TypeId}{U u3:World}{b:Nat}{nm vr:List UInt8}{cn:Nat}{confl:List Atm}{wt:Nat}{C2:Option Addr}{cc2:Nat}(_:U.heap.size=b+2)(hb:Below U.heap.size U u3)(hr:ARow u3 C2 confl)(hf:∀ a,C2=some a->b+2<=a.block)(hz:u3.heap[b+1]?=some (.cells zeroC TP (0,0))) :
  CutTo TP U b nm vr cn confl wt (.pointer (some ⟨u3.heap.size,0,none⟩)) (u3.alloc (.cells #[.string ⟨nm.toArray⟩,.string ⟨vr.toArray⟩,.slice none 0 0,.slice C2 cn cc2,.slice none 0 0,.float .f64 wt] TP)):=by
 refine⟨u3.heap.size,C2,cc2,rfl,hb.size,by simp,heap_alloc_new u3 _,hb.alloc hb.size _,fun x hs hk=>?_⟩
 have aa:u3.heap.size<=x.heap.size:=Nat.le_trans (by simp) hs
 refine ug (S:=fun k=>k=b+1) hr aa (fun k hk1 hk2=>?_) (fun a ha e=>by have:=hf a ha;omega) (fun g hg=>by subst hg;exact cP hz)
 rw[hk k (Nat.lt_of_lt_of_le hk1 (by simp)) (by omega) hk2]
 exact Below.heap_alloc u3 _ k hk1
theorem acW {TP:TypeId}{U u3 wx:World}{b b2:Nat}{nm vr:List UInt8}{cn:Nat}{confl:List Atm}{wt:Nat}{C2:Option Addr}{cc2:Nat}(_:U.heap.size=b+2)(hb2:b2=b+2)(hb:Below U.heap.size U u3)(hr:ARow u3 C2 confl)(hf:∀ a,C2=some a->b+3<=a.block)(hz:u3.heap[b+1]?=some (.cells zeroC TP (0,0)))(hz2:u3.heap[b2]?=some (.cells zeroC TP (0,0)))
  (hw:But (some b2) u3 wx) (hwb:Below b2 u3 wx) (hc:wx.heap[b2]?=some (.cells #[.string ⟨nm.toArray⟩,.string ⟨vr.toArray⟩,.slice none 0 0,.slice C2 cn cc2,.slice none 0 0,.float .f64 wt] TP (0,0))) :
  CutTo TP U b nm vr cn confl wt (.pointer (some ⟨b2,0,none⟩)) wx:=by
 refine⟨b2,C2,cc2,rfl,by omega,block_lt hc,hc,hb.trans (hwb.mono (by omega)),fun x hs hk=>?_⟩
 refine ug (S:=fun k=>k=b+1\/k=b2) hr (Nat.le_trans hw.1 hs) (fun k hk1 hk2=>?_) (fun a ha e=>by have:=hf a ha;omega) (fun g hg=>by
  rcases hg with rfl | rfl
  ·exact cP hz
  ·exact cP hz2)
 rw[hk k (Nat.lt_of_lt_of_le hk1 hw.1) (fun e=>hk2 (Or.inr e)) (fun e=>hk2 (Or.inl e))]
 exact hw.2 k hk1 (fun e=>hk2 (Or.inr (Option.some.inj e).symm))
section
variable {P:Program} {ops:Array Oper} {L:List Oper} {md:Region.Mode} {Q:Exit->Act->World->Prop} {S:World->Prop} {fuel:Nat} {listed:Array Bool} {a:Act} {w:World}
theorem afc (hL:L.toArray=ops)(i j:Nat){oi oj:Oper}(hi:L[i]?=some oi)(hj:L[j]?=some oj)(hr:Region.ready md L.toArray listed=[i,j])(hw:Region.wanted oi (yielded L.toArray a.tmps)=true)(hv:Region.wanted oj (yielded L.toArray a.tmps)=true)
  (h:∀ K:Act->World->Prop,Shut (∀ a w,S w->(S w->wpAnyH P md ops Q S fuel (listed.setIfInBounds i true) a w)->K a w)->Oper.wp P oi a w K Q)
  (k:∀ K:Act->World->Prop,Shut (∀ a w,S w->(S w->wpAnyH P md ops Q S fuel (listed.setIfInBounds j true) a w)->K a w)->Oper.wp P oj a w K Q):wpAnyH P md ops Q S (fuel+1) listed a w:=by
 subst hL
 refine wpAnyH_ready (rs:=[i,j]) hr (by simp) (AllReadyH.cons (by simpa using hi) (fun K hK=>?_) (AllReadyH.cons (by simpa using hj) (fun K hK=>?_) AllReadyH.nil))
 ·rw[if_pos hw]
  exact h K hK
 ·rw[if_pos hv]
  exact k K hK
theorem xj (hL:L.toArray=ops)(i:Nat){oi:Oper}(hi:L[i]?=some oi)(hr:Region.ready md L.toArray listed=[i])(hw:Region.wanted oi (yielded L.toArray a.tmps)=true)
  (h:∀ K:Act->World->Prop,Shut (∀ a w,S w->(S w->wpAnyH P md ops Q S fuel (listed.setIfInBounds i true) a w)->K a w)->if Region.wanted oi (yielded L.toArray a.tmps)=true then Oper.wp P oi a w K Q else True):wpAnyH P md ops Q S (fuel+1) listed a w :=
 aT hL i hi hr hw (fun K hK=>by
  have:=h K hK
  rwa [if_pos hw] at this)
end
end Pg
theorem Pg.sliceRD:Rg.SliceT Tryz.prog encO 1 38 39:=⟨fitsO,by decide,by kernel_rfl,Rg.bQ (z:=.slice none 0 0) (b:=24) (by kernel_rfl) (by rfl) (by decide)⟩
theorem Pg.qP:∀ i,Tryz.prog.info? 39=some i->∀ z,i.zero=some z->∀ u∈z.cells,IsSl u:=mg (z0:=.slice none 0 0) (by kernel_rfl) (fun u hu=>by simp[Value.cells] at hu;exact⟨_,_,_,hu⟩)
theorem Pg.sliceRG:Rg.SliceT Tryz.prog encG 2 40 79:=⟨fitsG,by decide,by kernel_rfl,Rg.bQ (z:=.agg #[.string ByteArray.empty,.string ByteArray.empty]) (b:=32) (by kernel_rfl) (by rfl) (by decide)⟩
def Pg.PSmall (p:Pk):Prop:=p.deps.length<=1000/\(∀ d∈p.deps,d.length<=1000/\ASmall d)/\p.confl.length<=1000/\ASmall p.confl/\p.prov.length<=1000
theorem Pg.fy {u:World}{b:Nat}{x0 x1 x2 x3 x4 x5:Value}(h:u.cell? ⟨b,0,none⟩=some x0/\u.cell? ⟨b,1,none⟩=some x1/\u.cell? ⟨b,2,none⟩=some x2/\u.cell? ⟨b,3,none⟩=some x3/\u.cell? ⟨b,4,none⟩=some x4/\u.cell? ⟨b,5,none⟩=some x5):u.cell? ⟨b,0,none⟩=some x0/\u.cell? ⟨b,1,none⟩=some x1/\u.cell? ⟨b,3,none⟩=some x3/\u.cell? ⟨b,5,none⟩=some x5:=⟨h.1,h.2.1,h.2.2.2.1,h.2.2.2.2.2⟩
attribute [local go_sem ↓] Go.wp_at_zero Go.wp_at_succ
attribute [local go_sem] Pg.a8
theorem Pg.aex {u:World}{b:Nat}(h:u.heap[b]?=some (.cells zeroC 42 (0,0)))(p:Pk)(D C G:Option Addr)(dc cc gc:Nat){tmps:Array Value}(ht:tmps.getD 2 undef=.pointer (some ⟨b,0,none⟩)) :
  (results Tryz.f9 tmps).run Tryz.prog (stP u b p D C G dc cc gc)=.ok (.agg (pCells p D C G dc cc gc)) (stP u b p D C G dc cc gc):=by
 obtain⟨g0,g1,g2,g3,g4,g5⟩:=aL (fu h p D C G dc cc gc)
 have hr:Tryz.f9.results=#[.cell 2 42]:=Tryz.results9
 simp only[results,hr]
 generalize stP u b p D C G dc cc gc=V at *
 simp only[Array.getD_eq_getD_getElem?] at ht ⊢
 simp[go_sem,ht,g0,g1,g2,g3,g4,g5]
theorem aey (p:Pk)(D C G:Option Addr)(dn dc cn cc gn gc:Nat)(w:World)(hd:Pg.DRow w D p.deps)(hdn:p.deps.length=dn)(hc:ARow w C p.confl)(hcn:p.confl.length=cn)(hg:GRow w G p.prov)(hgn:p.prov.length=gn)(hf:PSmall p) :
  Calls Tryz.prog 9 #[.agg #[.string ⟨p.name.toArray⟩,.string ⟨p.ver.toArray⟩,.slice D dn dc,.slice C cn cc,.slice G gn gc,.float .f64 p.wt]] w fun e w'=>∃ D' dc' C' cc' G' gc',e=.returned (.agg #[.string ⟨p.name.toArray⟩,.string ⟨p.ver.toArray⟩,.slice D' dn dc',.slice C' cn cc',.slice G' gn gc',.float .f64 p.wt])/\Pg.DRow w' D' p.deps/\ARow w' C' p.confl/\GRow w' G' p.prov/\Below w.heap.size w w':=by
 obtain⟨nm,vr,deps,confl,prov,wt⟩:=p
 obtain⟨f1,f2,f3,f4,f5⟩:=hf
 dsimp only at hd hdn hc hcn hg hgn f1 f2 f3 f4 f5 ⊢
 rw[hdn] at f1
 rw[hcn] at f3
 rw[hgn] at f5
 obtain⟨b,hb⟩:=ex w.heap.size
 obtain⟨V,hV⟩:=ex (w.alloc (.cells #[.string ⟨nm.toArray⟩,.string ⟨vr.toArray⟩,.slice D dn dc,.slice C cn cc,.slice G gn gc,.float .f64 wt] 31))
 have bf:V.heap.size=b+1:=by rw[<-hV,<-hb];simp
 obtain⟨U,hU⟩:=ex (V.alloc (.cells zeroC 42))
 have HV:Hid (Below w.heap.size w V):=ag hV
 have br:Hid (Below V.heap.size V U):=ag hU
 have HU:Hid (Below w.heap.size w U):=bt HV.out br.out
 have HY:=zh (fun W (h:Below U.heap.size U W)=>aH hV (bt br.out h))
 have HZ:Hid (∀ W,Below U.heap.size U W->W.heap[b+1]?=some (.cells zeroC 42 (0,0))):=fun W h=>(h.block _ (by rw[<-hU,<-bf];simp)).trans (by rw[<-hU,<-bf];exact heap_alloc_new V _)
 have aZ:Hid (U.heap.size=b+2):=by show _=_;rw[<-hU];simp[bf]
 have bH:Hid (w.heap.size=b):=hb
 rw[hb] at HY
 have HD:Hid (Pg.DRow U D deps):=drowD_below hd HU.out
 have HG:Hid (GRow U G prov):=Rg.ai hg HU.out
 have HC:Hid (∀ W,Below U.heap.size U W->Calls Tryz.prog 27 #[.slice C cn cc] W fun e w'=>∃ C2 d,e=.returned (.slice C2 cn d)/\ARow w' C2 confl/\(∀ a,C2=some a->W.heap.size<=a.block)/\Below W.heap.size W w'):=fun W h=>oW C cn cc confl W hcn (aw (aw hc HU.out) h) f3 f4
 have bn:=zh hdn
 have bI:=zh hcn
 have bo:=zh hgn
 have bg:=zh f2
 have a4:Hid (Below U.heap.size U U.drew):=(Below.refl _ _).drew
 obtain⟨y0,y1,y2,y3,y4,y5⟩:=HY.out _ a4.out
 clear hd hdn hc hcn hg hgn f2 f4
 have aK:Hid (Below U.heap.size U (U.alloc (.cells #[.string ⟨#[]⟩,.string ⟨#[]⟩,.slice none 0 0,.slice none 0 0,.slice none 0 0,.float .f64 0] 42)).drew):=((Below.refl _ _).alloc (Nat.le_refl _) _).drew
 have a5:Hid (Below U.heap.size U (U.alloc (.cells #[.string ⟨#[]⟩,.string ⟨#[]⟩,.slice none 0 0,.slice none 0 0,.slice none 0 0,.float .f64 0] 42))):=(Below.refl _ _).alloc (Nat.le_refl _) _
 have bs:Hid (∀ W,Below (U.alloc (.cells zeroC 42)).drew.heap.size (U.alloc (.cells zeroC 42)).drew W->W.heap[U.heap.size]?=some (.cells zeroC 42 (0,0))):=fun W h=>(h.block _ (by simp)).trans (heap_alloc_new U (.cells zeroC 42))
 go_enter Tryz.func9,Tryz.ntmps9
 go_upto_region 1 with fail
 clear hV hU hb bf
 go_cut [3] (fun v wx=>Hid (CutTo 42 U b nm vr cn confl wt v wx))
 case first =>
  go_region_held3 (fun u=>u.cell? ⟨b,0,none⟩=some (.string ⟨nm.toArray⟩)/\u.cell? ⟨b,1,none⟩=some (.string ⟨vr.toArray⟩)/\u.cell? ⟨b,3,none⟩=some (.slice C cn cc)/\u.cell? ⟨b,5,none⟩=some (.float .f64 wt))
   (first
    | with_reducible exact fy (HY.out _ a4.out)
    | with_reducible exact fy (HY.out _ aD.out)
    | with_reducible exact fy (HY.out _ (aD.out.alloc aD.out.size _))
    | with_reducible exact fy (HY.out _ aK.out)
    | with_reducible exact fy (HY.out _ bh.out)
    | with_reducible exact fy (HY.out _ a5.out)
    | exact fy (HY.out _ (Below.setCell (Below.setCell (Below.setCell (Below.setCell (Below.setCell (Below.setCell bh.out (p:=⟨U.heap.size,0,none⟩) (Nat.le_refl _) _) (p:=⟨U.heap.size,1,none⟩) (Nat.le_refl _) _) (p:=⟨U.heap.size,2,none⟩) (Nat.le_refl _) _) (p:=⟨U.heap.size,3,none⟩) (Nat.le_refl _) _) (p:=⟨U.heap.size,4,none⟩) (Nat.le_refl _) _) (p:=⟨U.heap.size,5,none⟩) (Nat.le_refl _) _))
    | (go_keep))
   (first
    | (go_at_call 27;refine (HC.out _ (by first | with_reducible exact a4.out | with_reducible exact aK.out)).mono ?_;rintro _ u3 ⟨C2,al,rfl,bB,bC,a1⟩;have bu:=zh bB;have bg:=zh bC;(first
      | (have aC:Below U.drew.heap.size U.drew u3:=(by with_reducible exact a1);have aD:=zh (bt a4.out aC);clear aC)
      | (have aC:Below (U.alloc (.cells #[.string ⟨#[]⟩,.string ⟨#[]⟩,.slice none 0 0,.slice none 0 0,.slice none 0 0,.float .f64 0] 42)).drew.heap.size (U.alloc (.cells #[.string ⟨#[]⟩,.string ⟨#[]⟩,.slice none 0 0,.slice none 0 0,.slice none 0 0,.float .f64 0] 42)).drew u3:=(by with_reducible exact a1);have bh:=zh (bt aK.out aC);have aM:=zh (bs.out _ aC);clear aC;obtain⟨e0,e1,e2,e3,e4,e5⟩:=aL aM.out;have z0:=ay aM.out 0;have z1:=ay aM.out 1;have z2:=ay aM.out 2;have z3:=ay aM.out 3;have z4:=ay aM.out 4;have z5:=ay aM.out 5));clear bB bC a1))
  ·go_wp2_with fail
   go_meet
   case rel=>exact acV aZ.out aD.out bu.out (fun a ha=>Nat.le_trans (Nat.le_of_eq aZ.out.symm) (bg.out a ha)) (HZ.out _ aD.out)
  ·go_wp2_with fail
   go_meet
   case rel=>exact acW aZ.out aZ.out bh.out bu.out (fun a ha=>Nat.le_trans (by have:=aZ.out;simp;omega) (bg.out a ha)) (HZ.out _ bh.out) aM.out (aew u3 U.heap.size _ _ _ _ _ _) (aa0 (Below.refl _ _) (Nat.le_refl _) _ _ _ _ _ _) (acU aM.out _ _ _ _ _ _)
 case rest =>
 obtain⟨b2,C2,al,rfl,a1,bd,bD,bq,aS⟩:=hcut
 have ap:Hid (U.heap.size<=b2/\b2<wc.heap.size):=⟨a1,bd⟩
 have bJ:Hid (U.heap.size<=wc.heap.size):=bq.size
 have bK:=zh bD
 have bL:=zh bq
 have bM:=zh aS
 clear a1 bd bD bq aS y0 y1 y2 y3 y4 y5 a4 aK a5 HC bs
 go_wp2_with fail
 go_loopw [4] (fun i wr=>∃ (k:Nat) (v:Value) (ds:List Desc),k<=dn/\i=.int .i64 k/\Hid (wr.heap[b2]?=some (.cells #[.string ⟨nm.toArray⟩,.string ⟨vr.toArray⟩,v,.slice C2 cn al,.slice none 0 0,.float .f64 wt] 42 (0,0)))/\Hid (DOwnF wr wc.heap.size 39 v ds (deps.take k))/\Hid (Below U.heap.size U wr)/\Hid (But (some b2) wc wr)) (fun i _=>dn-(intOf i).toNat)
 case atStart=>exact⟨0,.slice none 0 0,[],Nat.zero_le _,rfl,bK,ny _ _ _,bL,iS (Below.refl _ _)⟩
 case round =>
  obtain⟨k,v,ds,hk,rfl,HH,HO,a2,aX⟩:=hrel
  obtain⟨y0,y1,y2,y3,y4,y5⟩:=HY.out _ a2.out
  by_cases bp:k<dn
  ·have a0:k<deps.length:=by rw[bn.out];exact bp
   obtain⟨ad,C1,m,d,rfl,hm,hs,hc⟩:=dM HD.out k a0
   have q0:=hc _ a2.out
   have bi:=bg.out _ (List.getElem_mem a0)
   have aV:deps.take (k+1)=deps.take k++[deps[k]]:=by rw[List.take_succ_eq_append_getElem a0]
   have bj:Hid (ds.length+1<=1000000):=by
    have h1:=HO.out.2.1.1
    rw[List.length_take] at h1
    show _<=_
    omega
   obtain⟨a,ha⟩:=ex (deps[k])
   rw[ha] at hm hs bi aV
   have bk:=zh aV
   have HM:=zh hm
   have bN:Hid (∀ W,Below wr.heap.size wr W->Calls Tryz.prog 27 #[.slice C1 m d] W fun e w'=>∃ C2 d,e=.returned (.slice C2 m d)/\ARow w' C2 a/\(∀ x,C2=some x->W.heap.size<=x.block)/\Below W.heap.size W w'):=fun W h=>oW C1 m d a W hm (aw (aw hs a2.out) h) (by rw[<-hm];exact bi.1) bi.2
   have am:Hid (∀ W,Below U.heap.size U W->W.cell? ⟨b,2,none⟩=some (.slice (some ad) dn dc)/\W.cell? (ad.add k)=some (.slice C1 m d)):=fun W h=>⟨(HY.out _ h).2.2.1,hc _ h⟩
   have aP:Hid (∀ W,Below wr.heap.size wr W->W.heap[b2]?=some (.cells #[.string ⟨nm.toArray⟩,.string ⟨vr.toArray⟩,v,.slice C2 cn al,.slice none 0 0,.float .f64 wt] 42 (0,0))):=fun W h=>a6 HH.out h (block_lt HH.out)
   have bl:Hid (Below wr.heap.size wr wr.drew):=(Below.refl _ _).drew
   have a8:Hid (Below U.heap.size U wr.drew):=a2.out.drew
   obtain⟨e0,e1,e2,e3,e4,e5⟩:=aL (aP.out _ bl.out)
   obtain⟨q2,q3⟩:=am.out _ a8.out
   clear ha hm hs bi aV hc y0 y1 y3 y4 y5 e0 e1 e3 e4 e5
   go_wp2_with fail
   go_region_law
    (first
     | (refine Pg.rB sliceRD qP pQ (by rfl) (.tmp 24) (.tmp 31) (by rfl) wc.heap.size v ds [(C3,m,c3)] (by rfl) (a7 HO.out af.out).1 (a7 HO.out af.out).2.2.2 _ _ (by rfl) (Rg.av _ _ [(C3,m,c3)] _ (by rfl)) (Nat.zero_lt_succ _) bj.out aE.out ?_;intro v5 W5 au bE an be;obtain⟨A5,n5,k5,rfl⟩:=fN au;have aQ:=zh (nz (a7 HO.out af.out) (aw bv.out ((Below.refl _ _).alloc (Nat.le_refl _) _)) HM.out bw.out au bE an);have aq:=zh (Rg.ao (a7 HO.out af.out).1 aE.out an);have aj:=zh (dV (aP.out _ af.out) an (gB (a7 HO.out af.out).1 ap.out.2));have ae:=zh (aR.out.trans (aq.out.mono bJ.out));have ak:Hid (Below U.heap.size U (W5.setCell ⟨b2,2,none⟩ (.slice A5 n5 k5))):=(ae.out.setCell ap.out.1 _);obtain⟨x0,x1,x2,x3,x4,x5⟩:=aL aj.out;have z2:=ay aj.out 2;clear au bE an be x0 x1 x3 x4 x5)
     | (rw[if_pos (by rfl)];go_simp;go_at_call 27;refine (bN.out _ bl.out).mono ?_;rintro _ u3 ⟨C3,c3,rfl,bF,bG,aC⟩;have aD:=zh (bt bl.out aC);have aW:=zh (bt a8.out aC);have af:Hid (Below wr.heap.size wr (u3.alloc (.cells #[.slice C3 m c3] 39))):=aD.out.alloc aD.out.size _;have aR:Hid (Below U.heap.size U (u3.alloc (.cells #[.slice C3 m c3] 39))):=aW.out.alloc aW.out.size _;have bv:=zh bF;have bw:Hid (∀ a,C3=some a->wc.heap.size<=a.block):=(fun a ha=>Nat.le_trans (Nat.le_trans aX.out.1 bl.out.size) (bG a ha));have aE:Hid (wc.heap.size<=(u3.alloc (.cells #[.slice C3 m c3] 39)).heap.size):=Nat.le_trans aX.out.1 af.out.size;obtain⟨_,_,g2,_,_,_⟩:=aL (aP.out _ aD.out);obtain⟨_,_,g3,_,_,_⟩:=aL (aP.out _ af.out);clear bF bG aC;go_wp2_with fail))
   all_goals (
    have ar:=zh (fx (j:=2) (x:=.slice A5 n5 k5) (gC aX.out ((af.out.mono aX.out.1).trans aq.out)))
    have a9:Hid ((W5.setCell ⟨b2,2,none⟩ (.slice A5 n5 k5)).heap[b2]?=some (.cells #[.string ⟨nm.toArray⟩,.string ⟨vr.toArray⟩,.slice A5 n5 k5,.slice C2 cn al,.slice none 0 0,.float .f64 wt] 42 (0,0))):=(aA aj.out).trans rfl
    have ba:Hid (DOwnF (W5.setCell ⟨b2,2,none⟩ (.slice A5 n5 k5)) wc.heap.size 39 (.slice A5 n5 k5) (ds++[(C3,m,c3)]) (deps.take (k+1))):=by
     show DOwnF _ _ _ _ _ _
     rw[bk.out]
     exact uf aQ.out ap.out.2 (nE aj.out (fN HO.out.1) (isl _ _ _) (isl _ _ _))
    generalize W5.setCell ⟨b2,2,none⟩ (.slice A5 n5 k5)=W6 at *
    clear aQ aq aj ae aD af aW aR bv bw aE g2 g3 x2 z2 HH HO aX
    go_wp2_with fail
    go_roundw
    case rel=>exact⟨k+1,.slice A5 n5 k5,_,by omega,by go_num,a9,ba,ak,ar⟩
    case measure=>simp[intOf];omega)
  ·obtain rfl:k=dn:=by omega
   have ho:=HO.out
   rw[List.take_of_length_le (by rw[bn.out];exact Nat.le_refl _)] at ho
   obtain⟨D2,ax,rfl,hr,hf⟩:=down_row ho
   have bO:=zh hr
   have bx:=zh hf
   have bb:Hid (wc.heap.size<=wr.heap.size):=aX.out.1
   clear ho hr hf HO
   go_wp2_with fail
   clear y0 y1 y2 y3 y4 y5
   obtain⟨z1,bR⟩:∃ z1,z1=wr:=⟨_,rfl⟩
   subst bR
   go_loopw [5] (fun i ws=>∃ (j:Nat) (g:Value),j<=gn/\i=.int .i64 j/\Hid (ws.heap[b2]?=some (.cells #[.string ⟨nm.toArray⟩,.string ⟨vr.toArray⟩,.slice D2 deps.length ax,.slice C2 cn al,g,.float .f64 wt] 42 (0,0)))/\Hid (Rg.Own encG 2 ws z1.heap.size 79 g (prov.take j))/\Hid (Below U.heap.size U ws)/\Hid (But (some b2) z1 ws)) (fun i _=>gn-(intOf i).toNat)
   case atStart=>exact⟨0,.slice none 0 0,Nat.zero_le _,rfl,HH,Rg.az _ _ _,a2,iS (Below.refl _ _)⟩
   case round =>
    obtain⟨j,g,hj,rfl,a3,aF,aU,aB⟩:=hrel
    obtain⟨y0,y1,y2,y3,y4,y5⟩:=HY.out _ aU.out
    by_cases bp:j<gn
    ·have a0:j<prov.length:=by rw[bo.out];exact bp
     obtain⟨ad,rfl,hc⟩:=dQ HG.out j a0
     have aV:prov.take (j+1)=prov.take j++[prov[j]]:=by rw[List.take_succ_eq_append_getElem a0]
     have bj:Hid ((prov.take j).length+1<=1000000):=by
      rw[List.length_take]
      show _<=_
      omega
     obtain⟨a,ha⟩:=ex (prov[j])
     rw[ha] at hc aV
     obtain⟨aG,aJ⟩:=a
     dsimp only at hc
     have bk:=zh aV
     have am:=zh (fun W (h:Below U.heap.size U W)=>And.intro (HY.out _ h).2.2.2.2.1 (hc _ h))
     have bc:Hid (Below wr.heap.size wr (wr.alloc (.cells #[.string ⟨aG.toArray⟩,.string ⟨aJ.toArray⟩] 79))):=(Below.refl _ _).alloc (Nat.le_refl _) _
     have ab:Hid (Below wr.heap.size wr (wr.alloc (.cells #[.string ⟨aG.toArray⟩,.string ⟨aJ.toArray⟩] 79)).drew):=bc.out.drew
     have aN:Hid (Below U.heap.size U (wr.alloc (.cells #[.string ⟨aG.toArray⟩,.string ⟨aJ.toArray⟩] 79))):=aU.out.alloc aU.out.size _
     have ac:Hid (Below U.heap.size U (wr.alloc (.cells #[.string ⟨aG.toArray⟩,.string ⟨aJ.toArray⟩] 79)).drew):=aN.out.drew
     have aE:Hid (z1.heap.size<=(wr.alloc (.cells #[.string ⟨aG.toArray⟩,.string ⟨aJ.toArray⟩] 79)).heap.size):=Nat.le_trans aB.out.1 bc.out.size
     have aP:Hid (∀ W,Below wr.heap.size wr W->W.heap[b2]?=some (.cells #[.string ⟨nm.toArray⟩,.string ⟨vr.toArray⟩,.slice D2 deps.length ax,.slice C2 cn al,g,.float .f64 wt] 42 (0,0))):=fun W h=>a6 a3.out h (block_lt a3.out)
     have bz:Hid (U.heap.size<=z1.heap.size):=a2.out.size
     obtain⟨_,_,_,_,e4,_⟩:=aL a3.out
     obtain⟨_,_,_,_,g4,_⟩:=aL (aP.out _ bc.out)
     obtain⟨q2,q3,q4⟩:=am.out _ aU.out
     obtain⟨r2,r3,r4⟩:=am.out _ aN.out
     clear ha hc aV y0 y1 y2 y3 y5
     go_wp2_with fail
     clear y4
     refine e9 (fun ops hops=>?_)
     have aa:=zh hops
     have ah:=zh (kp hops (by kernel_rfl))
     have bA:=mj hops (n:=19) (by rfl)
     clear hops
     refine wp_region_held_drew (S:=fun u=>u.cell? ⟨b,4,none⟩=some (.slice (some ad) gn gc)/\u.cell? (ad.add (j*2))=some (.string ⟨aG.toArray⟩)/\u.cell? ⟨(ad.add (j*2)).block,(ad.add (j*2)).off+1,none⟩=some (.string ⟨aJ.toArray⟩)) (by kernel_rfl) ?_ (fun hH0=>?_)
     ·exact am.out _ aU.out.drew
     rw[bA]
     clear bA
     refine mv (by assumption) aa.out ah.out 0 ?_
     try simp only[Act.put,mvS]
     refine mv (by assumption) aa.out ah.out 2 ?_
     try simp only[Act.put,mvS]
     refine mv (by assumption) aa.out ah.out 3 ?_
     try simp only[Act.put,mvS]
     refine mv (by assumption) aa.out ah.out 4 ?_
     try simp only[Act.put,mvS]
     refine mv (by assumption) aa.out ah.out 5 ?_
     try simp only[Act.put,mvS]
     refine mv (by assumption) aa.out ah.out 6 ?_
     try simp only[Act.put,mvS]
     refine mv (by assumption) aa.out ah.out 7 ?_
     try simp only[Act.put,mvS]
     refine mv (by assumption) aa.out ah.out 8 ?_
     try simp only[Act.put,mvS]
     refine mv (by assumption) aa.out ah.out 9 ?_
     try simp only[Act.put,mvS]
     refine mv (by assumption) aa.out ah.out 10 ?_
     try simp only[Act.put,mvS]
     refine mv (by assumption) aa.out ah.out 11 ?_
     try simp only[Act.put,mvS]
     refine mv (by assumption) aa.out ah.out 12 ?_
     try simp only[Act.put,mvS]
     refine mv (by assumption) aa.out ah.out 13 ?_
     try simp only[Act.put,mvS]
     refine mv (by assumption) aa.out ah.out 14 ?_
     try simp only[Act.put,mvS]
     refine afc aa.out 1 15 rfl rfl (by kernel_rfl) (by rfl) (by rfl) (fun K hK=>?_) (fun K hK=>?_)
     ·go_simp
      refine hK.out _ _ ?_ (fun hH1=>?_)
      ·exact am.out _ aU.out.drew
      clear hK K hH1
      try simp only[Act.put,mvS]
      refine aT aa.out 15 rfl (by kernel_rfl) (by rfl) (fun K hK=>?_)
      go_simp
      refine hK.out _ _ ?_ (fun hH2=>?_)
      ·exact am.out _ ac.out
      clear hK K hH2
      try simp only[Act.put,mvS]
      refine xj aa.out 16 rfl (by kernel_rfl) (by rfl) (fun K hK=>?_)
      refine Rg.cB sliceRG (by rfl) (.tmp 42) (.tmp 56) (by rfl) z1.heap.size g (prov.take j) [(⟨aG,aJ⟩:Gv)] (by rfl) (Rg.own_below aF.out ab.out) _ _ (by rfl) (Rg.av wr _ [(⟨aG,aJ⟩:Gv)] _ (by rfl)) (Nat.zero_lt_succ _) bj.out aE.out ?_
      intro v5 W5 au an be
      obtain⟨A5,n5,k5,rfl⟩:=fN au
      have aQ:=zh au
      have aq:=zh (Rg.ao (Rg.own_below aF.out ab.out) aE.out an)
      have aj:=zh (dV (aP.out _ ab.out) an (gB (Rg.own_below aF.out ab.out) (Nat.lt_of_lt_of_le ap.out.2 bb.out)))
      have ae:=zh (ac.out.trans (aq.out.mono bz.out))
      have ak:Hid (Below U.heap.size U (W5.setCell ⟨b2,4,none⟩ (.slice A5 n5 k5))):=(ae.out.setCell ap.out.1 _)
      obtain⟨x0,x1,x2,x3,x4,x5⟩:=aL aj.out
      have z4:=ay aj.out 4
      clear au an be x0 x1 x2 x3 x5
      refine hK.out _ _ ?_ (fun hH3=>?_)
      ·exact am.out _ ae.out
      clear hK K
      try simp only[Act.put,mvS]
      refine mv (by assumption) aa.out ah.out 17 ?_
      try simp only[Act.put,mvS]
      clear hH3
      refine aT aa.out 18 rfl (by kernel_rfl) (by rfl) (fun K hK=>?_)
      go_simp
      refine hK.out _ _ ?_ (fun hH4=>?_)
      ·exact am.out _ ak.out
      clear hK K hH4
      try simp only[Act.put,mvS]
      refine jy aa.out (by kernel_rfl) ?_
      have ar:=zh (fx (j:=4) (x:=.slice A5 n5 k5) (gC aB.out ((ab.out.mono aB.out.1).trans aq.out)))
      have a9:Hid ((W5.setCell ⟨b2,4,none⟩ (.slice A5 n5 k5)).heap[b2]?=some (.cells #[.string ⟨nm.toArray⟩,.string ⟨vr.toArray⟩,.slice D2 deps.length ax,.slice C2 cn al,.slice A5 n5 k5,.float .f64 wt] 42 (0,0))):=(aA aj.out).trans rfl
      have ba:Hid (Rg.Own encG 2 (W5.setCell ⟨b2,4,none⟩ (.slice A5 n5 k5)) z1.heap.size 79 (.slice A5 n5 k5) (prov.take (j+1))):=by
       show Rg.Own _ _ _ _ _ _ _
       rw[bk.out]
       exact jz aQ.out (Nat.lt_of_lt_of_le ap.out.2 bb.out)
      generalize W5.setCell ⟨b2,4,none⟩ (.slice A5 n5 k5)=W6 at *
      clear aQ aq aj ae bc aN ab ac aE e4 g4 q2 q3 q4 r2 r3 r4 x4 z4 a3 aF aB
      go_wp2_with fail
      go_roundw
      case rel=>exact⟨j+1,.slice A5 n5 k5,by omega,by go_num,a9,ba,ak,ar⟩
      case measure=>simp[intOf];omega
     ·go_simp
      refine hK.out _ _ ?_ (fun hH5=>?_)
      ·exact am.out _ ac.out
      clear hK K hH5
      try simp only[Act.put,mvS]
      refine aT aa.out 1 rfl (by kernel_rfl) (by rfl) (fun K hK=>?_)
      go_simp
      refine hK.out _ _ ?_ (fun hH6=>?_)
      ·exact am.out _ ac.out
      clear hK K hH6
      try simp only[Act.put,mvS]
      refine xj aa.out 16 rfl (by kernel_rfl) (by rfl) (fun K hK=>?_)
      refine Rg.cB sliceRG (by rfl) (.tmp 42) (.tmp 56) (by rfl) z1.heap.size g (prov.take j) [(⟨aG,aJ⟩:Gv)] (by rfl) (Rg.own_below aF.out ab.out) _ _ (by rfl) (Rg.av wr _ [(⟨aG,aJ⟩:Gv)] _ (by rfl)) (Nat.zero_lt_succ _) bj.out aE.out ?_
      intro v5 W5 au an be
      obtain⟨A5,n5,k5,rfl⟩:=fN au
      have aQ:=zh au
      have aq:=zh (Rg.ao (Rg.own_below aF.out ab.out) aE.out an)
      have aj:=zh (dV (aP.out _ ab.out) an (gB (Rg.own_below aF.out ab.out) (Nat.lt_of_lt_of_le ap.out.2 bb.out)))
      have ae:=zh (ac.out.trans (aq.out.mono bz.out))
      have ak:Hid (Below U.heap.size U (W5.setCell ⟨b2,4,none⟩ (.slice A5 n5 k5))):=(ae.out.setCell ap.out.1 _)
      obtain⟨x0,x1,x2,x3,x4,x5⟩:=aL aj.out
      have z4:=ay aj.out 4
      clear au an be x0 x1 x2 x3 x5
      refine hK.out _ _ ?_ (fun hH7=>?_)
      ·exact am.out _ ae.out
      clear hK K
      try simp only[Act.put,mvS]
      refine mv (by assumption) aa.out ah.out 17 ?_
      try simp only[Act.put,mvS]
      clear hH7
      refine aT aa.out 18 rfl (by kernel_rfl) (by rfl) (fun K hK=>?_)
      go_simp
      refine hK.out _ _ ?_ (fun hH8=>?_)
      ·exact am.out _ ak.out
      clear hK K hH8
      try simp only[Act.put,mvS]
      refine jy aa.out (by kernel_rfl) ?_
      have ar:=zh (fx (j:=4) (x:=.slice A5 n5 k5) (gC aB.out ((ab.out.mono aB.out.1).trans aq.out)))
      have a9:Hid ((W5.setCell ⟨b2,4,none⟩ (.slice A5 n5 k5)).heap[b2]?=some (.cells #[.string ⟨nm.toArray⟩,.string ⟨vr.toArray⟩,.slice D2 deps.length ax,.slice C2 cn al,.slice A5 n5 k5,.float .f64 wt] 42 (0,0))):=(aA aj.out).trans rfl
      have ba:Hid (Rg.Own encG 2 (W5.setCell ⟨b2,4,none⟩ (.slice A5 n5 k5)) z1.heap.size 79 (.slice A5 n5 k5) (prov.take (j+1))):=by
       show Rg.Own _ _ _ _ _ _ _
       rw[bk.out]
       exact jz aQ.out (Nat.lt_of_lt_of_le ap.out.2 bb.out)
      generalize W5.setCell ⟨b2,4,none⟩ (.slice A5 n5 k5)=W6 at *
      clear aQ aq aj ae bc aN ab ac aE e4 g4 q2 q3 q4 r2 r3 r4 x4 z4 a3 aF aB
      go_wp2_with fail
      go_roundw
      case rel=>exact⟨j+1,.slice A5 n5 k5,by omega,by go_num,a9,ba,ak,ar⟩
      case measure=>simp[intOf];omega
    ·obtain rfl:j=gn:=by omega
     have ho:=aF.out
     rw[List.take_of_length_le (by rw[bo.out];exact Nat.le_refl _)] at ho
     obtain⟨G2,aY,rfl,hr,hf⟩:=iq ho
     have bP:=zh hr
     have bQ:=zh hf
     have aO:Hid (wr.heap[b+1]?=some (.cells zeroC 42 (0,0))):=HZ.out _ aU.out
     obtain⟨c0,c1,c2,c3,c4,c5⟩:=aL a3.out
     obtain⟨k0,k1,k2,k3,k4,k5⟩:=aL aO.out
     have z0:=ay aO.out 0
     have z1:=ay aO.out 1
     have z2:=ay aO.out 2
     have z3:=ay aO.out 3
     have z4:=ay aO.out 4
     have z5:=ay aO.out 5
     obtain rfl:confl.length=cn:=bI.out
     clear ho hr hf aF y0 y1 y2 y3 y5
     go_wp2_with fail
     (try simp only[Exit.inBlock,Exit.then])
     refine bodyPost_ret (aex aO.out ⟨nm,vr,deps,confl,prov,wt⟩ D2 C2 G2 ax al aY rfl) rfl ?_
     have h1:=ap.out.1
     have h2:=ap.out.2
     have h3:=aZ.out
     have h4:=bb.out
     have h5:=bH.out
     have e1:=bn.out
     have e3:=bo.out
     have bm:=cE wr (b+1) ⟨nm,vr,deps,confl,prov,wt⟩ D2 C2 G2 ax al aY
     have t1:Pg.DRow (stP wr (b+1) ⟨nm,vr,deps,confl,prov,wt⟩ D2 C2 G2 ax al aY) D2 deps:=lN (iV (iV bO.out bx.out aB.out h2 (nE HH.out (isl _ _ _) (isl _ _ _) (isl _ _ _))) bx.out bm (show b+1<wc.heap.size by omega) (cP aO.out))
     have t2:ARow (stP wr (b+1) ⟨nm,vr,deps,confl,prov,wt⟩ D2 C2 G2 ax al aY) C2 confl:=bM.out _ (Nat.le_trans h4 (Nat.le_trans aB.out.1 bm.1)) (fun i hi n2 n1=>(bm.2 i (Nat.lt_of_lt_of_le hi (Nat.le_trans h4 aB.out.1)) (fun e=>n1 (Option.some.inj e).symm)).trans ((aB.out.2 i (Nat.lt_of_lt_of_le hi h4) (fun e=>n2 (Option.some.inj e).symm)).trans (aX.out.2 i hi (fun e=>n2 (Option.some.inj e).symm))))
     have t3:GRow (stP wr (b+1) ⟨nm,vr,deps,confl,prov,wt⟩ D2 C2 G2 ax al aY) G2 prov:=fp bP.out bm (fun _ a ha e=>by have:=bQ.out a ha;have:=Option.some.inj e;omega)
     have t4:Below w.heap.size w (stP wr (b+1) ⟨nm,vr,deps,confl,prov,wt⟩ D2 C2 G2 ax al aY):=aI (bt HU.out aU.out) (show w.heap.size<=b+1 by omega) _ _ _ _ _ _ _
     refine⟨D2,ax,C2,al,G2,⟨aY,by rw[<-e1,<-e3]⟩,t1,t2,t3,t4⟩
end
section
open Go.RowKit Rs At Pg
attribute [local go_sem ↓] Go.wp_at_zero Go.wp_at_succ
def Pg.ListRet {β:Type} (M:World->Option Addr->List β->Prop) (w:World) (R:Except Int (List β)) (e:Ending) (w':World):Prop:=Below w.heap.size w w'/\match R with
 | .ok l=>∃ A n c,e=.returned (.tuple #[.slice A n c,.int .i64 0])/\l.length=n/\M w' A l/\∀ a,A=some a->w.heap.size<=a.block
 | .error k=>e=.returned (.tuple #[.slice none 0 0,.int .i64 k])/\k≠0
theorem Pg.aa1 {t:List UInt8}{k:Int}{nm:List UInt8}{l:List Sp}(h:parseA t=(k,⟨nm,l⟩)):atomR t=if k=0 then .ok ⟨nm,l⟩ else .error k:=by
 unfold atomR
 rw[h]
theorem kB (t sep:List UInt8)(most:Nat)(w:World)(hw:MaxOk w)(ht:t.length<=1000)(h1:1<=sep.length)(h2:sep.length<=10)(hmo:most<=100) :
  Calls Tryz.prog 59 #[.string ⟨t.toArray⟩,.string ⟨sep.toArray⟩,.int .i64 most] w (Pg.ListRet ARow w (partsR atomR sep most t)):=by
 obtain⟨R,hR⟩:=ex (partsR atomR sep most t)
 rw[hR]
 unfold partsR at hR
 have HM:=zh (fun W (h:Below w.heap.size w W)=>ah hw h)
 have HC:=zh (dP t sep w (Nat.le_trans ht (by decide)) h1 h2)
 have ap:∀ p∈Lib.split t sep,p.length<=1000:=fun p hp=>Nat.le_trans (bM sep _ t p hp) ht
 obtain⟨qs,aE⟩:=ex (Lib.split t sep)
 rw[aE] at hR ap HC
 have HR:=zh hR
 have aJ:=zh ap
 have aK:=zh hmo
 clear hw hR ap aE ht h1 h2 hmo
 go_enter Tryz.func59,Tryz.ntmps59
 go_wp2_with fail
 refine HC.out.mono ?_
 rintro _ z1 ⟨A,n,c,rfl,hn,aT,aj,_,aF⟩
 have HN:=zh hn
 have aq:=zh aj
 have al:=zh aF
 clear hn aj aF HC
 by_cases ac:n<=most
 case neg =>
  have ar:Hid (R=.error 4):=by
   show _=_
   rw[<-HR.out,if_neg (by rw[HN.out];exact ac)]
  have d0:decide (most<n)=true:=decide_eq_true (by omega)
  clear ac
  go_wp2_with fail
  go_ret2
  refine⟨al.out,?_⟩
  rw[ar.out]
  exact⟨rfl,by decide⟩
 have ar:Hid (rdL atomR [] qs=R):=by
  show _=_
  rw[<-HR.out,if_pos (by rw[HN.out];exact ac)]
 have aL:Hid (n<=100):=Nat.le_trans ac aK.out
 have d0:decide (most<n)=false:=decide_eq_false (by omega)
 clear ac HR
 go_wp2_with fail
 clear d0
 go_loopw [9,10] (fun v i wr=>∃ (k:Nat) (acc:List Atm) (ds:List AtD),k<=n/\i=.int .i64 k/\Hid (AOwn wr z1.heap.size 132 v ds acc)/\Hid (Below z1.heap.size z1 wr/\z1.heap.size<=wr.heap.size)/\Hid (acc.length=k)/\Hid (rdL atomR acc (qs.drop k)=R)) (fun _ i _=>n-(intOf i).toNat)
 case atStart=>exact⟨0,[],[],Nat.zero_le _,rfl,nv _ _ _,⟨Below.refl _ _,Nat.le_refl _⟩,rfl,by show rdL _ _ (qs.drop 0)=R;rw[List.drop_zero,ar.out]⟩
 case round =>
  obtain⟨k,acc,ds,hk,rfl,HO,ab,HA,HE⟩:=hrel
  have am:Hid (Below w.heap.size w wr):=al.out.trans (ab.out.1.mono al.out.size)
  by_cases aA:k<n
  ·have aC:=zh aA
   have au:k<qs.length:=by rw[HN.out];exact aA
   obtain⟨ad,rfl,_,q0⟩:=bU (Rg.ai aq.out ab.out.1) k au
   have aw:=aJ.out _ (List.getElem_mem au)
   have he:=HE.out
   rw[List.drop_eq_getElem_cons au] at he
   obtain⟨p,hp⟩:=ex (qs[k])
   rw[hp] at aw he q0
   have aM:Hid (ds.length+1<=1000000):=by have h1:=HA.out;have h2:=HO.out.2.1.1;have h3:=aL.out;show _<=_;omega
   have ax:=zh (nf p wr (HM.out _ am.out) (Nat.le_trans aw (by decide)))
   obtain⟨X,hX⟩:=ex (parseA p)
   rw[hX] at ax
   obtain⟨e,nm,l⟩:=X
   have an:=aa1 hX
   clear hp aw hX
   go_wp2_with fail
   refine ax.out.mono ?_
   rintro _ z3 ⟨C,m,d,rfl,hm,hr,hb⟩
   have aD:=zh hb
   have aN:=zh hm
   have ae:=zh hr
   dsimp only
   clear hb hm hr ax q0
   obtain⟨G,hG⟩:=ex (z3.alloc (.cells #[.string ⟨nm.toArray⟩,.slice C m d] 132))
   have ay:Hid (Below z3.heap.size z3 G):=ag hG
   have aa:Hid (Below wr.heap.size wr G):=bt aD.out ay.out
   obtain⟨p0,p1⟩:=aB hG (Below.refl _ _)
   by_cases h0:e=0
   case neg =>
    have d0:decide (e=0)=false:=decide_eq_false h0
    have ae:Hid (R=.error e):=by show _=_;rw[<-he];exact cm (by rw[an,if_neg h0])
    clear he an
    go_wp2_with fail
    go_ret2
    refine⟨bt am.out aa.out,?_⟩
    rw[ae.out]
    exact⟨rfl,h0⟩
   subst h0
   have aO:Hid (rdL atomR (acc++[⟨nm,l⟩]) (qs.drop (k+1))=R):=by show _=_;rw[<-he];exact (eh (by rw[an,if_pos rfl])).symm
   clear he an
   go_wp2_with (at_builtin;refine Pg.cJ sliceRA oV nu rfl (.tmp 37) (.tmp 39) rfl z1.heap.size _ ds [(nm,C,m,d)] rfl (bA HO.out (aa.out.alloc aa.out.size _)).1 (bA HO.out (aa.out.alloc aa.out.size _)).2.2 _ _ rfl (Rg.av G _ _ _ (by rfl)) (Nat.zero_lt_succ _) aM.out ?b2 ?_)
   case b2=>have:=ab.out.2;have:=aa.out.size;simp;omega
   intro v5 W5 aG aH az aS
   have af:Below wr.heap.size wr (G.alloc (.cells #[.string ⟨nm.toArray⟩,.slice C m d] 132)):=aa.out.alloc aa.out.size _
   have aP:=zh (nw (a:=⟨nm,l⟩) (bA HO.out af) (ak ae.out (ay.out.trans ((Below.refl _ _).alloc ay.out.size _))) aN.out aG aH az)
   have aQ:Hid (Below z1.heap.size z1 W5/\z1.heap.size<=W5.heap.size):=by
    have h2:=ab.out.1.trans ((af.mono ab.out.2).trans (Rg.ao (bA HO.out af).1 (Nat.le_trans ab.out.2 af.size) az))
    exact⟨h2,h2.size⟩
   clear aG aH az aS af HO aD ab am
   go_wp2_with fail
   go_roundw
   case rel=>exact⟨k+1,acc++[⟨nm,l⟩],_,(by have:=aC.out;omega),by go_num,aP,aQ,by show (acc++[_]).length=_;rw[List.length_append,HA.out];rfl,aO⟩
   case measure=>have:=aC.out;simp[intOf];omega
  ·obtain rfl:k=n:=by omega
   have ae:Hid (R=.ok acc):=by show _=_;rw[<-HE.out,List.drop_eq_nil_of_le (by rw[HN.out];exact Nat.le_refl _)];rfl
   obtain⟨C,d,rfl,aI,hf⟩:=nx HO.out
   have aR:=zh aI
   have HF:=zh hf
   clear aI hf
   go_wp2_with fail
   go_ret2
   refine⟨am.out,?_⟩
   rw[ae.out]
   exact⟨C,_,d,rfl,rfl,aR.out,fun a ha=>Nat.le_trans al.out.size (HF.out a ha)⟩
end
end Go.Proofs.YtkaeamjnphaadaaGreatDoor
