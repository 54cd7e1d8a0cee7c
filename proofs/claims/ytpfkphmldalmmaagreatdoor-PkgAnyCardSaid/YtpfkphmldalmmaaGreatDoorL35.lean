/- Part 35 of what the laws lean on. -/
import Derived.Test.YtpfkphmldalmmaaGreatDoorL34
set_option maxRecDepth 100000
set_option maxHeartbeats 64000000
namespace Go.Proofs.YtpfkphmldalmmaaGreatDoor
section
open Go.RowKit Rs At Pg
namespace Pg
theorem i7 {α:Type}{enc:α->List Value}{K B b j:Nat}{T:TypeId}{w:World}{v x:Value}{l:List α}(h:Rg.Own enc K w B T v l)(hb:b<B):Rg.Own enc K (w.setCell ⟨b,j,none⟩ x) B T v l :=
 World.ownsRow.kept h (Sz.cp w ⟨b,j,none⟩ x) (by
  cases hv:v.ownBlock with
  | none=>exact .inl rfl
  | some g =>
   refine .inr fun e=>?_
   have h1:=(Rg.bD h g hv).1
   have h2:=Option.some.inj e
   simp only at h2
   omega)
theorem uv {B b j:Nat}{T:TypeId}{w:World}{v x:Value}{ds:List Desc}{t:List (List Atm)}(h:DOwnF w B T v ds t)(hb:b<B)(hg:∀ j x,w.cell? ⟨b,j,none⟩=some x->NoB x):DOwnF (w.setCell ⟨b,j,none⟩ x) B T v ds t:=by
 refine⟨i7 h.1 hb,⟨h.2.1.1,fun i d l e1 e2=>⟨(h.2.1.2 i d l e1 e2).1,jN (h.2.1.2 i d l e1 e2).2 (aQ w ⟨b,j,none⟩ x) (lz (fun a ha=>h.2.2.1 i d e1 a ha) hb) (fun g e=>by cases e;exact hg)⟩⟩,h.2.2.1,fun g hgv k u hu=>?_⟩
 have h1:=(Rg.bD h.1 g hgv).1
 rw[World.cell?_setCell_far _ _ _ _ (by show b≠g;omega)] at hu
 exact h.2.2.2 g hgv k u hu
theorem ir {w u:World}{b:Nat}{o:Obj}(h:w.heap[b]?=some o){B:Nat}(hb:Below B w u)(hlt:b<B):u.heap[b]?=some o:=(hb.block _ hlt).trans h
theorem dE {w u:World}{b:Nat}{o:Obj}{r:Option Nat}(h:w.heap[b]?=some o)(hg:w.grownBy u r)(hne:r≠some b):u.heap[b]?=some o:=(hg.block b (block_lt h) (fun e=>hne e.symm)).trans h
theorem fW {α:Type}{enc:α->List Value}{K B b:Nat}{T:TypeId}{w:World}{v:Value}{l:List α}(h:Rg.Own enc K w B T v l)(hb:b<B):v.ownBlock≠some b:=fun e=>by
 have:=(Rg.bD h b e).1
 omega
theorem ad6 {α:Type}{enc:α->List Value}{K:Nat}{w u:World}{A:Option Addr}{l:List α}(h:Rg.Row enc K w A l)(hs:w.heap.size<=u.heap.size)(hk:0<l.length->∀ a,A=some a->a.block<w.heap.size->u.heap[a.block]?=w.heap[a.block]?):Rg.Row enc K u A l:=fun h0=>by
 obtain⟨a,e,hl,hc⟩:=h h0
 refine⟨a,e,Nat.lt_of_lt_of_le hl hs,fun i hi j v hv=>?_⟩
 have h1:=hc i hi j v hv
 rw[World.cell?_of_block]
 ·exact h1
 ·have:(if j=0 then a.add (i*K) else (⟨(a.add (i*K)).block,(a.add (i*K)).off+j,none⟩:Addr)).block=a.block:=by split <;> simp[add_block]
  rw[this]
  exact hk h0 a e hl
theorem acE {w u:World}{A:Option Addr}{l:List Sp}(h:SRow w A l)(hs:w.heap.size<=u.heap.size)(hk:0<l.length->∀ a,A=some a->a.block<w.heap.size->u.heap[a.block]?=w.heap[a.block]?):SRow u A l:=fun h0=>by
 obtain⟨a,e,hl,hc⟩:=h h0
 have hk:=hk h0 a e hl
 refine⟨a,e,Nat.lt_of_lt_of_le hl hs,fun i hi=>?_⟩
 obtain⟨c0,c1,c2,c3⟩:=hc i hi
 refine⟨?_,?_,?_,?_⟩
 ·rw[World.cell?_of_block (by simpa [add_block] using hk)];exact c0
 ·rw[World.cell?_of_block (by simpa [add_block] using hk)];exact c1
 ·rw[World.cell?_of_block (by simpa [add_block] using hk)];exact c2
 ·rw[World.cell?_of_block (by simpa [add_block] using hk)];exact c3
theorem uw {S:Nat->Prop}{w u:World}{A:Option Addr}{l:List Atm}(h:ARow w A l)(hs:w.heap.size<=u.heap.size)(hk:∀ k,k<w.heap.size->¬ S k->u.heap[k]?=w.heap[k]?)(hA:∀ a,A=some a->¬ S a.block)(hg:∀ g,S g->∀ j x,w.cell? ⟨g,j,none⟩=some x->NoB x):ARow u A l:=by
 obtain⟨ds,h1,h2,h3⟩:=h
 refine⟨ds,ad6 h1 hs (fun _ a ha hl=>hk _ hl (hA a ha)),h2,fun i d a e1 e2=>⟨(h3 i d a e1 e2).1,(h3 i d a e1 e2).2.1,acE (h3 i d a e1 e2).2.2 hs (fun h0 q hq hl=>hk _ hl (fun hS=>nc (h3 i d a e1 e2).2.2 (hg _ hS) h0 q hq rfl))⟩⟩
theorem fX {b2:Nat}{wc wr u:World}(h:But (some b2) wc wr)(hb:Below wc.heap.size wr u):But (some b2) wc u:=⟨Nat.le_trans h.1 hb.size,fun k hk hr=>(hb.block k hk).trans (h.2 k hk hr)⟩
theorem eX {b2 j:Nat}{wc wr:World}{x:Value}(h:But (some b2) wc wr):But (some b2) wc (wr.setCell ⟨b2,j,none⟩ x):=bK h (aQ wr ⟨b2,j,none⟩ x)
theorem ft {α:Type}{enc:α->List Value}{K B:Nat}{T:TypeId}{w:World}{v:Value}{l:List α}(h:Rg.Own enc K w B T v l):IsSl v:=by
 rcases h.2 with⟨rfl,_⟩ | ⟨g,cap,cur,rfl,_⟩
 ·exact⟨_,_,_,rfl⟩
 ·exact⟨_,_,_,rfl⟩
theorem jY {u:World}{b:Nat}{T:TypeId}{s0 s1:ByteArray}{v2 v3 v4:Value}{f:Nat}(h:u.heap[b]?=some (.cells #[.string s0,.string s1,v2,v3,v4,.float .f64 f] T (0,0)))(h2:IsSl v2)(h3:IsSl v3)(h4:IsSl v4):∀ j x,u.cell? ⟨b,j,none⟩=some x->NoB x:=fun j x hx y e=>by
 rw[cell_of_row u b j _ T (0,0) h] at hx
 subst e
 have hm:=Array.mem_of_getElem? hx
 obtain⟨_,_,_,q2⟩:=h2
 obtain⟨_,_,_,q3⟩:=h3
 obtain⟨_,_,_,q4⟩:=h4
 subst q2 q3 q4
 simp at hm
theorem isl (A:Option Addr)(n c:Nat):IsSl (.slice A n c):=⟨_,_,_,rfl⟩
abbrev six (u:World) (b:Nat) (x0 x1 x2 x3 x4 x5:Value):World:=(((((u.setCell ⟨b,0,none⟩ x0).setCell ⟨b,1,none⟩ x1).setCell ⟨b,2,none⟩ x2).setCell ⟨b,3,none⟩ x3).setCell ⟨b,4,none⟩ x4).setCell ⟨b,5,none⟩ x5
theorem ux {u:World}{b:Nat}{T:TypeId}(h:u.heap[b]?=some (.cells zeroC T (0,0)))(x0 x1 x2 x3 x4 x5:Value):(six u b x0 x1 x2 x3 x4 x5).heap[b]?=some (.cells #[x0,x1,x2,x3,x4,x5] T (0,0)):=(aG (aG (aG (aG (aG (aG h)))))).trans rfl
theorem xr (u:World)(b:Nat)(x0 x1 x2 x3 x4 x5:Value):But (some b) u (six u b x0 x1 x2 x3 x4 x5) :=
 bK (bK (bK (bK (bK (aQ u ⟨b,0,none⟩ _) (aQ _ ⟨b,1,none⟩ _)) (aQ _ ⟨b,2,none⟩ _)) (aQ _ ⟨b,3,none⟩ _)) (aQ _ ⟨b,4,none⟩ _)) (aQ _ ⟨b,5,none⟩ _)
theorem qX {B:Nat}{w u:World}{b:Nat}(h:Below B w u)(hb:B<=b)(x0 x1 x2 x3 x4 x5:Value):Below B w (six u b x0 x1 x2 x3 x4 x5) :=
 (((((h.setCell (p:=⟨b,0,none⟩) hb _).setCell (p:=⟨b,1,none⟩) hb _).setCell (p:=⟨b,2,none⟩) hb _).setCell (p:=⟨b,3,none⟩) hb _).setCell (p:=⟨b,4,none⟩) hb _).setCell (p:=⟨b,5,none⟩) hb _
def CutTo (TP:TypeId) (U:World) (b:Nat) (nm vr:List UInt8) (cn:Nat) (confl:List Atm) (wt:Nat) (v:Value) (wx:World):Prop :=
 ∃ b2 C2 cc2,v=.pointer (some ⟨b2,0,none⟩)/\U.heap.size<=b2/\b2<wx.heap.size/\wx.heap[b2]?=some (.cells #[.string ⟨nm.toArray⟩,.string ⟨vr.toArray⟩,.slice none 0 0,.slice C2 cn cc2,.slice none 0 0,.float .f64 wt] TP (0,0))/\Below U.heap.size U wx /\
  ∀ x:World,wx.heap.size<=x.heap.size->(∀ k,k<wx.heap.size->k≠b2->k≠b+1->x.heap[k]?=wx.heap[k]?)->ARow x C2 confl
theorem uy {TP:TypeId}{U u3:World}{b:Nat}{nm vr:List UInt8}{cn:Nat}{confl:List Atm}{wt:Nat}{C2:Option Addr}{cc2:Nat}(_:U.heap.size=b+2)(hb:Below U.heap.size U u3)(hr:ARow u3 C2 confl)(hf:∀ a,C2=some a->b+2<=a.block)(hz:u3.heap[b+1]?=some (.cells zeroC TP (0,0))) :
  CutTo TP U b nm vr cn confl wt (.pointer (some ⟨u3.heap.size,0,none⟩)) (u3.alloc (.cells #[.string ⟨nm.toArray⟩,.string ⟨vr.toArray⟩,.slice none 0 0,.slice C2 cn cc2,.slice none 0 0,.float .f64 wt] TP)):=by
 refine⟨u3.heap.size,C2,cc2,rfl,hb.size,by simp,heap_alloc_new u3 _,hb.alloc hb.size _,fun x hs hk=>?_⟩
 have aa:u3.heap.size<=x.heap.size:=Nat.le_trans (by simp) hs
 refine uw (S:=fun k=>k=b+1) hr aa (fun k hk1 hk2=>?_) (fun a ha e=>by have:=hf a ha;omega) (fun g hg=>by subst hg;exact du hz)
 rw[hk k (Nat.lt_of_lt_of_le hk1 (by simp)) (by omega) hk2]
 exact Below.heap_alloc u3 _ k hk1
theorem uz {TP:TypeId}{U u3 wx:World}{b b2:Nat}{nm vr:List UInt8}{cn:Nat}{confl:List Atm}{wt:Nat}{C2:Option Addr}{cc2:Nat}(_:U.heap.size=b+2)(hb2:b2=b+2)(hb:Below U.heap.size U u3)(hr:ARow u3 C2 confl)(hf:∀ a,C2=some a->b+3<=a.block)(hz:u3.heap[b+1]?=some (.cells zeroC TP (0,0)))(hz2:u3.heap[b2]?=some (.cells zeroC TP (0,0)))
  (hw:But (some b2) u3 wx) (hwb:Below b2 u3 wx) (hc:wx.heap[b2]?=some (.cells #[.string ⟨nm.toArray⟩,.string ⟨vr.toArray⟩,.slice none 0 0,.slice C2 cn cc2,.slice none 0 0,.float .f64 wt] TP (0,0))) :
  CutTo TP U b nm vr cn confl wt (.pointer (some ⟨b2,0,none⟩)) wx:=by
 refine⟨b2,C2,cc2,rfl,by omega,block_lt hc,hc,hb.trans (hwb.mono (by omega)),fun x hs hk=>?_⟩
 refine uw (S:=fun k=>k=b+1\/k=b2) hr (Nat.le_trans hw.1 hs) (fun k hk1 hk2=>?_) (fun a ha e=>by have:=hf a ha;omega) (fun g hg=>by
  rcases hg with rfl | rfl
  ·exact du hz
  ·exact du hz2)
 rw[hk k (Nat.lt_of_lt_of_le hk1 hw.1) (fun e=>hk2 (Or.inr e)) (fun e=>hk2 (Or.inl e))]
 exact hw.2 k hk1 (fun e=>hk2 (Or.inr (Option.some.inj e).symm))
section
variable {P:Program} {ops:Array Oper} {L:List Oper} {md:Region.Mode} {Q:Exit->Act->World->Prop} {S:World->Prop} {fuel:Nat} {listed:Array Bool} {a:Act} {w:World}
theorem aaL (hL:L.toArray=ops)(i j:Nat){oi oj:Oper}(hi:L[i]?=some oi)(hj:L[j]?=some oj)(hr:Region.ready md L.toArray listed=[i,j])(hw:Region.wanted oi (yielded L.toArray a.tmps)=true)(hv:Region.wanted oj (yielded L.toArray a.tmps)=true)
  (h:∀ K:Act->World->Prop,Shut (∀ a w,S w->(S w->wpAnyH P md ops Q S fuel (listed.setIfInBounds i true) a w)->K a w)->Oper.wp P oi a w K Q)
  (k:∀ K:Act->World->Prop,Shut (∀ a w,S w->(S w->wpAnyH P md ops Q S fuel (listed.setIfInBounds j true) a w)->K a w)->Oper.wp P oj a w K Q):wpAnyH P md ops Q S (fuel+1) listed a w:=by
 subst hL
 refine wpAnyH_ready (rs:=[i,j]) hr (by simp) (AllReadyH.cons (by simpa using hi) (fun K hK=>?_) (AllReadyH.cons (by simpa using hj) (fun K hK=>?_) AllReadyH.nil))
 ·rw[if_pos hw]
  exact h K hK
 ·rw[if_pos hv]
  exact k K hK
theorem ma (hL:L.toArray=ops)(i:Nat){oi:Oper}(hi:L[i]?=some oi)(hr:Region.ready md L.toArray listed=[i])(hw:Region.wanted oi (yielded L.toArray a.tmps)=true)
  (h:∀ K:Act->World->Prop,Shut (∀ a w,S w->(S w->wpAnyH P md ops Q S fuel (listed.setIfInBounds i true) a w)->K a w)->if Region.wanted oi (yielded L.toArray a.tmps)=true then Oper.wp P oi a w K Q else True):wpAnyH P md ops Q S (fuel+1) listed a w :=
 aU hL i hi hr hw (fun K hK=>by
  have:=h K hK
  rwa [if_pos hw] at this)
end
end Pg
theorem Pg.sliceRD:Rg.SliceT Tryz.prog encO 1 22 23:=⟨fitsO,by decide,by kernel_rfl,Rg.bE (z:=.slice none 0 0) (b:=24) (by kernel_rfl) (by rfl) (by decide)⟩
theorem Pg.aaM:∀ i,Tryz.prog.info? 23=some i->∀ z,i.zero=some z->∀ u∈z.cells,IsSl u:=lY (z0:=.slice none 0 0) (by kernel_rfl) (fun u hu=>by simp[Value.cells] at hu;exact⟨_,_,_,hu⟩)
theorem Pg.sliceRG:Rg.SliceT Tryz.prog encG 2 24 68:=⟨fitsG,by decide,by kernel_rfl,Rg.bE (z:=.agg #[.string ByteArray.empty,.string ByteArray.empty]) (b:=32) (by kernel_rfl) (by rfl) (by decide)⟩
def Pg.PSmall (p:Pk):Prop:=p.deps.length<=1000/\(∀ d∈p.deps,d.length<=1000/\ASmall d)/\p.confl.length<=1000/\ASmall p.confl/\p.prov.length<=1000
theorem Pg.bN {u:World}{b:Nat}{x0 x1 x2 x3 x4 x5:Value}(h:u.cell? ⟨b,0,none⟩=some x0/\u.cell? ⟨b,1,none⟩=some x1/\u.cell? ⟨b,2,none⟩=some x2/\u.cell? ⟨b,3,none⟩=some x3/\u.cell? ⟨b,4,none⟩=some x4/\u.cell? ⟨b,5,none⟩=some x5):u.cell? ⟨b,0,none⟩=some x0/\u.cell? ⟨b,1,none⟩=some x1/\u.cell? ⟨b,3,none⟩=some x3/\u.cell? ⟨b,5,none⟩=some x5:=⟨h.1,h.2.1,h.2.2.2.1,h.2.2.2.2.2⟩
attribute [local go_sem ↓] Go.wp_at_zero Go.wp_at_succ
attribute [local go_sem] Pg.bd
theorem Pg.ad7 {u:World}{b:Nat}(h:u.heap[b]?=some (.cells zeroC 34 (0,0)))(p:Pk)(D C G:Option Addr)(dc cc gc:Nat){tmps:Array Value}(ht:tmps.getD 2 undef=.pointer (some ⟨b,0,none⟩)) :
  (results Tryz.f6 tmps).run Tryz.prog (stP u b p D C G dc cc gc)=.ok (.agg (pCells p D C G dc cc gc)) (stP u b p D C G dc cc gc):=by
 obtain⟨g0,g1,g2,g3,g4,g5⟩:=aA (jU h p D C G dc cc gc)
 have hr:Tryz.f6.results=#[.cell 2 34]:=Tryz.results6
 simp only[results,hr]
 generalize stP u b p D C G dc cc gc=V at *
 simp only[Array.getD_eq_getD_getElem?] at ht ⊢
 simp[go_sem,ht,g0,g1,g2,g3,g4,g5]
theorem ad8 (p:Pk)(D C G:Option Addr)(dn dc cn cc gn gc:Nat)(w:World)(hd:Pg.DRow w D p.deps)(hdn:p.deps.length=dn)(hc:ARow w C p.confl)(hcn:p.confl.length=cn)(hg:GRow w G p.prov)(hgn:p.prov.length=gn)(hf:PSmall p) :
  Calls Tryz.prog 6 #[.agg #[.string ⟨p.name.toArray⟩,.string ⟨p.ver.toArray⟩,.slice D dn dc,.slice C cn cc,.slice G gn gc,.float .f64 p.wt]] w fun e w'=>∃ D' dc' C' cc' G' gc',e=.returned (.agg #[.string ⟨p.name.toArray⟩,.string ⟨p.ver.toArray⟩,.slice D' dn dc',.slice C' cn cc',.slice G' gn gc',.float .f64 p.wt])/\Pg.DRow w' D' p.deps/\ARow w' C' p.confl/\GRow w' G' p.prov/\Below w.heap.size w w':=by
 obtain⟨nm,vr,deps,confl,prov,wt⟩:=p
 obtain⟨f1,f2,f3,f4,f5⟩:=hf
 dsimp only at hd hdn hc hcn hg hgn f1 f2 f3 f4 f5 ⊢
 rw[hdn] at f1
 rw[hcn] at f3
 rw[hgn] at f5
 obtain⟨b,hb⟩:=ex w.heap.size
 obtain⟨V,hV⟩:=ex (w.alloc (.cells #[.string ⟨nm.toArray⟩,.string ⟨vr.toArray⟩,.slice D dn dc,.slice C cn cc,.slice G gn gc,.float .f64 wt] 27))
 have bd:V.heap.size=b+1:=by rw[<-hV,<-hb];simp
 obtain⟨U,hU⟩:=ex (V.alloc (.cells zeroC 34))
 have HV:Hid (Below w.heap.size w V):=ai hV
 have bp:Hid (Below V.heap.size V U):=ai hU
 have HU:Hid (Below w.heap.size w U):=bt HV.out bp.out
 have HY:=zh (fun W (h:Below U.heap.size U W)=>az hV (bt bp.out h))
 have HZ:Hid (∀ W,Below U.heap.size U W->W.heap[b+1]?=some (.cells zeroC 34 (0,0))):=fun W h=>(h.block _ (by rw[<-hU,<-bd];simp)).trans (by rw[<-hU,<-bd];exact heap_alloc_new V _)
 have aY:Hid (U.heap.size=b+2):=by show _=_;rw[<-hU];simp[bd]
 have bG:Hid (w.heap.size=b):=hb
 rw[hb] at HY
 have HD:Hid (Pg.DRow U D deps):=drowD_below hd HU.out
 have HG:Hid (GRow U G prov):=Rg.ak hg HU.out
 have HC:Hid (∀ W,Below U.heap.size U W->Calls Tryz.prog 23 #[.slice C cn cc] W fun e w'=>∃ C2 d,e=.returned (.slice C2 cn d)/\ARow w' C2 confl/\(∀ a,C2=some a->W.heap.size<=a.block)/\Below W.heap.size W w'):=fun W h=>oS C cn cc confl W hcn (au (au hc HU.out) h) f3 f4
 have bl:=zh hdn
 have bH:=zh hcn
 have bm:=zh hgn
 have be:=zh f2
 have a4:Hid (Below U.heap.size U U.drew):=(Below.refl _ _).drew
 obtain⟨y0,y1,y2,y3,y4,y5⟩:=HY.out _ a4.out
 clear hd hdn hc hcn hg hgn f2 f4
 have aK:Hid (Below U.heap.size U (U.alloc (.cells #[.string ⟨#[]⟩,.string ⟨#[]⟩,.slice none 0 0,.slice none 0 0,.slice none 0 0,.float .f64 0] 34)).drew):=((Below.refl _ _).alloc (Nat.le_refl _) _).drew
 have a5:Hid (Below U.heap.size U (U.alloc (.cells #[.string ⟨#[]⟩,.string ⟨#[]⟩,.slice none 0 0,.slice none 0 0,.slice none 0 0,.float .f64 0] 34))):=(Below.refl _ _).alloc (Nat.le_refl _) _
 have bq:Hid (∀ W,Below (U.alloc (.cells zeroC 34)).drew.heap.size (U.alloc (.cells zeroC 34)).drew W->W.heap[U.heap.size]?=some (.cells zeroC 34 (0,0))):=fun W h=>(h.block _ (by simp)).trans (heap_alloc_new U (.cells zeroC 34))
 go_enter Tryz.func6,Tryz.ntmps6
 go_upto_region 1 with fail
 clear hV hU hb bd
 go_cut [3] (fun v wx=>Hid (CutTo 34 U b nm vr cn confl wt v wx))
 case first =>
  go_region_held3 (fun u=>u.cell? ⟨b,0,none⟩=some (.string ⟨nm.toArray⟩)/\u.cell? ⟨b,1,none⟩=some (.string ⟨vr.toArray⟩)/\u.cell? ⟨b,3,none⟩=some (.slice C cn cc)/\u.cell? ⟨b,5,none⟩=some (.float .f64 wt))
   (first
    | with_reducible exact bN (HY.out _ a4.out)
    | with_reducible exact bN (HY.out _ aE.out)
    | with_reducible exact bN (HY.out _ (aE.out.alloc aE.out.size _))
    | with_reducible exact bN (HY.out _ aK.out)
    | with_reducible exact bN (HY.out _ bf.out)
    | with_reducible exact bN (HY.out _ a5.out)
    | exact bN (HY.out _ (Below.setCell (Below.setCell (Below.setCell (Below.setCell (Below.setCell (Below.setCell bf.out (p:=⟨U.heap.size,0,none⟩) (Nat.le_refl _) _) (p:=⟨U.heap.size,1,none⟩) (Nat.le_refl _) _) (p:=⟨U.heap.size,2,none⟩) (Nat.le_refl _) _) (p:=⟨U.heap.size,3,none⟩) (Nat.le_refl _) _) (p:=⟨U.heap.size,4,none⟩) (Nat.le_refl _) _) (p:=⟨U.heap.size,5,none⟩) (Nat.le_refl _) _))
    | (go_keep))
   (first
    | (go_at_call 23;refine (HC.out _ (by first | with_reducible exact a4.out | with_reducible exact aK.out)).mono ?_;rintro _ u3 ⟨C2,al,rfl,bA,bB,a1⟩;have br:=zh bA;have be:=zh bB;(first
      | (have aC:Below U.drew.heap.size U.drew u3:=(by with_reducible exact a1);have aE:=zh (bt a4.out aC);clear aC)
      | (have aC:Below (U.alloc (.cells #[.string ⟨#[]⟩,.string ⟨#[]⟩,.slice none 0 0,.slice none 0 0,.slice none 0 0,.float .f64 0] 34)).drew.heap.size (U.alloc (.cells #[.string ⟨#[]⟩,.string ⟨#[]⟩,.slice none 0 0,.slice none 0 0,.slice none 0 0,.float .f64 0] 34)).drew u3:=(by with_reducible exact a1);have bf:=zh (bt aK.out aC);have aL:=zh (bq.out _ aC);clear aC;obtain⟨e0,e1,e2,e3,e4,e5⟩:=aA aL.out;have z0:=av aL.out 0;have z1:=av aL.out 1;have z2:=av aL.out 2;have z3:=av aL.out 3;have z4:=av aL.out 4;have z5:=av aL.out 5));clear bA bB a1))
  ·go_wp2_with fail
   go_meet
   case rel=>exact uy aY.out aE.out br.out (fun a ha=>Nat.le_trans (Nat.le_of_eq aY.out.symm) (be.out a ha)) (HZ.out _ aE.out)
  ·go_wp2_with fail
   go_meet
   case rel=>exact uz aY.out aY.out bf.out br.out (fun a ha=>Nat.le_trans (by have:=aY.out;simp;omega) (be.out a ha)) (HZ.out _ bf.out) aL.out (xr u3 U.heap.size _ _ _ _ _ _) (qX (Below.refl _ _) (Nat.le_refl _) _ _ _ _ _ _) (ux aL.out _ _ _ _ _ _)
 case rest =>
 obtain⟨b2,C2,al,rfl,a1,bb,bC,bo,aR⟩:=hcut
 have ao:Hid (U.heap.size<=b2/\b2<wc.heap.size):=⟨a1,bb⟩
 have bI:Hid (U.heap.size<=wc.heap.size):=bo.size
 have bJ:=zh bC
 have bK:=zh bo
 have bL:=zh aR
 clear a1 bb bC bo aR y0 y1 y2 y3 y4 y5 a4 aK a5 HC bq
 go_wp2_with fail
 go_loopw [4] (fun i wr=>∃ (k:Nat) (v:Value) (ds:List Desc),k<=dn/\i=.int .i64 k/\Hid (wr.heap[b2]?=some (.cells #[.string ⟨nm.toArray⟩,.string ⟨vr.toArray⟩,v,.slice C2 cn al,.slice none 0 0,.float .f64 wt] 34 (0,0)))/\Hid (DOwnF wr wc.heap.size 54 v ds (deps.take k))/\Hid (Below U.heap.size U wr)/\Hid (But (some b2) wc wr)) (fun i _=>dn-(intOf i).toNat)
 case atStart=>exact⟨0,.slice none 0 0,[],Nat.zero_le _,rfl,bJ,nk _ _ _,bK,im (Below.refl _ _)⟩
 case round =>
  obtain⟨k,v,ds,hk,rfl,HH,HO,a2,aW⟩:=hrel
  obtain⟨y0,y1,y2,y3,y4,y5⟩:=HY.out _ a2.out
  by_cases bn:k<dn
  ·have a0:k<deps.length:=by rw[bl.out];exact bn
   obtain⟨ad,C1,m,d,rfl,hm,hs,hc⟩:=bT HD.out k a0
   have q0:=hc _ a2.out
   have bg:=be.out _ (List.getElem_mem a0)
   have aT:deps.take (k+1)=deps.take k++[deps[k]]:=by rw[List.take_succ_eq_append_getElem a0]
   have bh:Hid (ds.length+1<=1000000):=by
    have h1:=HO.out.2.1.1
    rw[List.length_take] at h1
    show _<=_
    omega
   obtain⟨a,ha⟩:=ex (deps[k])
   rw[ha] at hm hs bg aT
   have bi:=zh aT
   have HM:=zh hm
   have bM:Hid (∀ W,Below wr.heap.size wr W->Calls Tryz.prog 23 #[.slice C1 m d] W fun e w'=>∃ C2 d,e=.returned (.slice C2 m d)/\ARow w' C2 a/\(∀ x,C2=some x->W.heap.size<=x.block)/\Below W.heap.size W w'):=fun W h=>oS C1 m d a W hm (au (au hs a2.out) h) (by rw[<-hm];exact bg.1) bg.2
   have am:Hid (∀ W,Below U.heap.size U W->W.cell? ⟨b,2,none⟩=some (.slice (some ad) dn dc)/\W.cell? (ad.add k)=some (.slice C1 m d)):=fun W h=>⟨(HY.out _ h).2.2.1,hc _ h⟩
   have aO:Hid (∀ W,Below wr.heap.size wr W->W.heap[b2]?=some (.cells #[.string ⟨nm.toArray⟩,.string ⟨vr.toArray⟩,v,.slice C2 cn al,.slice none 0 0,.float .f64 wt] 34 (0,0))):=fun W h=>ir HH.out h (block_lt HH.out)
   have bj:Hid (Below wr.heap.size wr wr.drew):=(Below.refl _ _).drew
   have a6:Hid (Below U.heap.size U wr.drew):=a2.out.drew
   obtain⟨e0,e1,e2,e3,e4,e5⟩:=aA (aO.out _ bj.out)
   obtain⟨q2,q3⟩:=am.out _ a6.out
   clear ha hm hs bg aT hc y0 y1 y3 y4 y5 e0 e1 e3 e4 e5
   go_wp2_with fail
   go_region_law
    (first
     | (refine Pg.kg sliceD6 ua pP (by rfl) (.tmp 24) (.tmp 31) (by rfl) wc.heap.size v ds [(C3,m,c3)] (by rfl) (aZ HO.out af.out).1 (aZ HO.out af.out).2.2.2 _ _ (by rfl) (Rg.ay _ _ [(C3,m,c3)] _ (by rfl)) (Nat.zero_lt_succ _) bh.out aF.out ?_;intro v5 W5 ar bD an bc;obtain⟨A5,n5,k5,rfl⟩:=ft ar;have aP:=zh (nn (aZ HO.out af.out) (au bs.out ((Below.refl _ _).alloc (Nat.le_refl _) _)) HM.out bu.out ar bD an);have ap:=zh (Rg.aw (aZ HO.out af.out).1 aF.out an);have ah:=zh (dE (aO.out _ af.out) an (fW (aZ HO.out af.out).1 ao.out.2));have ae:=zh (aQ.out.trans (ap.out.mono bI.out));have aj:Hid (Below U.heap.size U (W5.setCell ⟨b2,2,none⟩ (.slice A5 n5 k5))):=(ae.out.setCell ao.out.1 _);obtain⟨x0,x1,x2,x3,x4,x5⟩:=aA ah.out;have z2:=av ah.out 2;clear ar bD an bc x0 x1 x3 x4 x5)
     | (rw[if_pos (by rfl)];go_simp;go_at_call 23;refine (bM.out _ bj.out).mono ?_;rintro _ u3 ⟨C3,c3,rfl,bE,bF,aC⟩;have aE:=zh (bt bj.out aC);have aV:=zh (bt a6.out aC);have af:Hid (Below wr.heap.size wr (u3.alloc (.cells #[.slice C3 m c3] 54))):=aE.out.alloc aE.out.size _;have aQ:Hid (Below U.heap.size U (u3.alloc (.cells #[.slice C3 m c3] 54))):=aV.out.alloc aV.out.size _;have bs:=zh bE;have bu:Hid (∀ a,C3=some a->wc.heap.size<=a.block):=(fun a ha=>Nat.le_trans (Nat.le_trans aW.out.1 bj.out.size) (bF a ha));have aF:Hid (wc.heap.size<=(u3.alloc (.cells #[.slice C3 m c3] 54)).heap.size):=Nat.le_trans aW.out.1 af.out.size;obtain⟨_,_,g2,_,_,_⟩:=aA (aO.out _ aE.out);obtain⟨_,_,g3,_,_,_⟩:=aA (aO.out _ af.out);clear bE bF aC;go_wp2_with fail))
   all_goals (
    have aq:=zh (eX (j:=2) (x:=.slice A5 n5 k5) (fX aW.out ((af.out.mono aW.out.1).trans ap.out)))
    have a7:Hid ((W5.setCell ⟨b2,2,none⟩ (.slice A5 n5 k5)).heap[b2]?=some (.cells #[.string ⟨nm.toArray⟩,.string ⟨vr.toArray⟩,.slice A5 n5 k5,.slice C2 cn al,.slice none 0 0,.float .f64 wt] 34 (0,0))):=(aG ah.out).trans rfl
    have a8:Hid (DOwnF (W5.setCell ⟨b2,2,none⟩ (.slice A5 n5 k5)) wc.heap.size 54 (.slice A5 n5 k5) (ds++[(C3,m,c3)]) (deps.take (k+1))):=by
     show DOwnF _ _ _ _ _ _
     rw[bi.out]
     exact uv aP.out ao.out.2 (jY ah.out (ft HO.out.1) (isl _ _ _) (isl _ _ _))
    generalize W5.setCell ⟨b2,2,none⟩ (.slice A5 n5 k5)=W6 at *
    clear aP ap ah ae aE af aV aQ bs bu aF g2 g3 x2 z2 HH HO aW
    go_wp2_with fail
    go_roundw
    case rel=>exact⟨k+1,.slice A5 n5 k5,_,by omega,by go_num,a7,a8,aj,aq⟩
    case measure=>simp[intOf];omega)
  ·obtain rfl:k=dn:=by omega
   have ho:=HO.out
   rw[List.take_of_length_le (by rw[bl.out];exact Nat.le_refl _)] at ho
   obtain⟨D2,ax,rfl,hr,hf⟩:=down_row ho
   have bO:=zh hr
   have bv:=zh hf
   have a9:Hid (wc.heap.size<=wr.heap.size):=aW.out.1
   clear ho hr hf HO
   go_wp2_with fail
   clear y0 y1 y2 y3 y4 y5
   obtain⟨z1,bR⟩:∃ z1,z1=wr:=⟨_,rfl⟩
   subst bR
   go_loopw [5] (fun i ws=>∃ (j:Nat) (g:Value),j<=gn/\i=.int .i64 j/\Hid (ws.heap[b2]?=some (.cells #[.string ⟨nm.toArray⟩,.string ⟨vr.toArray⟩,.slice D2 deps.length ax,.slice C2 cn al,g,.float .f64 wt] 34 (0,0)))/\Hid (Rg.Own encG 2 ws z1.heap.size 58 g (prov.take j))/\Hid (Below U.heap.size U ws)/\Hid (But (some b2) z1 ws)) (fun i _=>gn-(intOf i).toNat)
   case atStart=>exact⟨0,.slice none 0 0,Nat.zero_le _,rfl,HH,Rg.aD _ _ _,a2,im (Below.refl _ _)⟩
   case round =>
    obtain⟨j,g,hj,rfl,a3,aH,aS,aB⟩:=hrel
    obtain⟨y0,y1,y2,y3,y4,y5⟩:=HY.out _ aS.out
    by_cases bn:j<gn
    ·have a0:j<prov.length:=by rw[bm.out];exact bn
     obtain⟨ad,rfl,hc⟩:=b8 HG.out j a0
     have aT:prov.take (j+1)=prov.take j++[prov[j]]:=by rw[List.take_succ_eq_append_getElem a0]
     have bh:Hid ((prov.take j).length+1<=1000000):=by
      rw[List.length_take]
      show _<=_
      omega
     obtain⟨a,ha⟩:=ex (prov[j])
     rw[ha] at hc aT
     obtain⟨aI,aJ⟩:=a
     dsimp only at hc
     have bi:=zh aT
     have am:=zh (fun W (h:Below U.heap.size U W)=>And.intro (HY.out _ h).2.2.2.2.1 (hc _ h))
     have ba:Hid (Below wr.heap.size wr (wr.alloc (.cells #[.string ⟨aI.toArray⟩,.string ⟨aJ.toArray⟩] 58))):=(Below.refl _ _).alloc (Nat.le_refl _) _
     have ab:Hid (Below wr.heap.size wr (wr.alloc (.cells #[.string ⟨aI.toArray⟩,.string ⟨aJ.toArray⟩] 58)).drew):=ba.out.drew
     have aM:Hid (Below U.heap.size U (wr.alloc (.cells #[.string ⟨aI.toArray⟩,.string ⟨aJ.toArray⟩] 58))):=aS.out.alloc aS.out.size _
     have ac:Hid (Below U.heap.size U (wr.alloc (.cells #[.string ⟨aI.toArray⟩,.string ⟨aJ.toArray⟩] 58)).drew):=aM.out.drew
     have aF:Hid (z1.heap.size<=(wr.alloc (.cells #[.string ⟨aI.toArray⟩,.string ⟨aJ.toArray⟩] 58)).heap.size):=Nat.le_trans aB.out.1 ba.out.size
     have aO:Hid (∀ W,Below wr.heap.size wr W->W.heap[b2]?=some (.cells #[.string ⟨nm.toArray⟩,.string ⟨vr.toArray⟩,.slice D2 deps.length ax,.slice C2 cn al,g,.float .f64 wt] 34 (0,0))):=fun W h=>ir a3.out h (block_lt a3.out)
     have bw:Hid (U.heap.size<=z1.heap.size):=a2.out.size
     obtain⟨_,_,_,_,e4,_⟩:=aA a3.out
     obtain⟨_,_,_,_,g4,_⟩:=aA (aO.out _ ba.out)
     obtain⟨q2,q3,q4⟩:=am.out _ aS.out
     obtain⟨r2,r3,r4⟩:=am.out _ aM.out
     clear ha hc aT y0 y1 y2 y3 y5
     go_wp2_with fail
     clear y4
     refine gL (fun ops hops=>?_)
     have aa:=zh hops
     have ag:=zh (nr hops (by kernel_rfl))
     have bx:=pU hops (n:=19) (by rfl)
     clear hops
     refine wp_region_held_drew (S:=fun u=>u.cell? ⟨b,4,none⟩=some (.slice (some ad) gn gc)/\u.cell? (ad.add (j*2))=some (.string ⟨aI.toArray⟩)/\u.cell? ⟨(ad.add (j*2)).block,(ad.add (j*2)).off+1,none⟩=some (.string ⟨aJ.toArray⟩)) (by kernel_rfl) ?_ (fun hH0=>?_)
     ·exact am.out _ aS.out.drew
     rw[bx]
     clear bx
     refine mv (by assumption) aa.out ag.out 0 ?_
     try simp only[Act.put,mvS]
     refine mv (by assumption) aa.out ag.out 2 ?_
     try simp only[Act.put,mvS]
     refine mv (by assumption) aa.out ag.out 3 ?_
     try simp only[Act.put,mvS]
     refine mv (by assumption) aa.out ag.out 4 ?_
     try simp only[Act.put,mvS]
     refine mv (by assumption) aa.out ag.out 5 ?_
     try simp only[Act.put,mvS]
     refine mv (by assumption) aa.out ag.out 6 ?_
     try simp only[Act.put,mvS]
     refine mv (by assumption) aa.out ag.out 7 ?_
     try simp only[Act.put,mvS]
     refine mv (by assumption) aa.out ag.out 8 ?_
     try simp only[Act.put,mvS]
     refine mv (by assumption) aa.out ag.out 9 ?_
     try simp only[Act.put,mvS]
     refine mv (by assumption) aa.out ag.out 10 ?_
     try simp only[Act.put,mvS]
     refine mv (by assumption) aa.out ag.out 11 ?_
     try simp only[Act.put,mvS]
     refine mv (by assumption) aa.out ag.out 12 ?_
     try simp only[Act.put,mvS]
     refine mv (by assumption) aa.out ag.out 13 ?_
     try simp only[Act.put,mvS]
     refine mv (by assumption) aa.out ag.out 14 ?_
     try simp only[Act.put,mvS]
     refine aaL aa.out 1 15 rfl rfl (by kernel_rfl) (by rfl) (by rfl) (fun K hK=>?_) (fun K hK=>?_)
     ·go_simp
      refine hK.out _ _ ?_ (fun hH1=>?_)
      ·exact am.out _ aS.out.drew
      clear hK K hH1
      try simp only[Act.put,mvS]
      refine aU aa.out 15 rfl (by kernel_rfl) (by rfl) (fun K hK=>?_)
      go_simp
      refine hK.out _ _ ?_ (fun hH2=>?_)
      ·exact am.out _ ac.out
      clear hK K hH2
      try simp only[Act.put,mvS]
      refine ma aa.out 16 rfl (by kernel_rfl) (by rfl) (fun K hK=>?_)
      refine Rg.bz sliceG (by rfl) (.tmp 42) (.tmp 56) (by rfl) z1.heap.size g (prov.take j) [(⟨aI,aJ⟩:Gv)] (by rfl) (Rg.own_below aH.out ab.out) _ _ (by rfl) (Rg.ay wr _ [(⟨aI,aJ⟩:Gv)] _ (by rfl)) (Nat.zero_lt_succ _) bh.out aF.out ?_
      intro v5 W5 ar an bc
      obtain⟨A5,n5,k5,rfl⟩:=ft ar
      have aP:=zh ar
      have ap:=zh (Rg.aw (Rg.own_below aH.out ab.out) aF.out an)
      have ah:=zh (dE (aO.out _ ab.out) an (fW (Rg.own_below aH.out ab.out) (Nat.lt_of_lt_of_le ao.out.2 a9.out)))
      have ae:=zh (ac.out.trans (ap.out.mono bw.out))
      have aj:Hid (Below U.heap.size U (W5.setCell ⟨b2,4,none⟩ (.slice A5 n5 k5))):=(ae.out.setCell ao.out.1 _)
      obtain⟨x0,x1,x2,x3,x4,x5⟩:=aA ah.out
      have z4:=av ah.out 4
      clear ar an bc x0 x1 x2 x3 x5
      refine hK.out _ _ ?_ (fun hH3=>?_)
      ·exact am.out _ ae.out
      clear hK K
      try simp only[Act.put,mvS]
      refine mv (by assumption) aa.out ag.out 17 ?_
      try simp only[Act.put,mvS]
      clear hH3
      refine aU aa.out 18 rfl (by kernel_rfl) (by rfl) (fun K hK=>?_)
      go_simp
      refine hK.out _ _ ?_ (fun hH4=>?_)
      ·exact am.out _ aj.out
      clear hK K hH4
      try simp only[Act.put,mvS]
      refine iZ aa.out (by kernel_rfl) ?_
      have aq:=zh (eX (j:=4) (x:=.slice A5 n5 k5) (fX aB.out ((ab.out.mono aB.out.1).trans ap.out)))
      have a7:Hid ((W5.setCell ⟨b2,4,none⟩ (.slice A5 n5 k5)).heap[b2]?=some (.cells #[.string ⟨nm.toArray⟩,.string ⟨vr.toArray⟩,.slice D2 deps.length ax,.slice C2 cn al,.slice A5 n5 k5,.float .f64 wt] 34 (0,0))):=(aG ah.out).trans rfl
      have a8:Hid (Rg.Own encG 2 (W5.setCell ⟨b2,4,none⟩ (.slice A5 n5 k5)) z1.heap.size 58 (.slice A5 n5 k5) (prov.take (j+1))):=by
       show Rg.Own _ _ _ _ _ _ _
       rw[bi.out]
       exact i7 aP.out (Nat.lt_of_lt_of_le ao.out.2 a9.out)
      generalize W5.setCell ⟨b2,4,none⟩ (.slice A5 n5 k5)=W6 at *
      clear aP ap ah ae ba aM ab ac aF e4 g4 q2 q3 q4 r2 r3 r4 x4 z4 a3 aH aB
      go_wp2_with fail
      go_roundw
      case rel=>exact⟨j+1,.slice A5 n5 k5,by omega,by go_num,a7,a8,aj,aq⟩
      case measure=>simp[intOf];omega
     ·go_simp
      refine hK.out _ _ ?_ (fun hH5=>?_)
      ·exact am.out _ ac.out
      clear hK K hH5
      try simp only[Act.put,mvS]
      refine aU aa.out 1 rfl (by kernel_rfl) (by rfl) (fun K hK=>?_)
      go_simp
      refine hK.out _ _ ?_ (fun hH6=>?_)
      ·exact am.out _ ac.out
      clear hK K hH6
      try simp only[Act.put,mvS]
      refine ma aa.out 16 rfl (by kernel_rfl) (by rfl) (fun K hK=>?_)
      refine Rg.bz sliceG (by rfl) (.tmp 42) (.tmp 56) (by rfl) z1.heap.size g (prov.take j) [(⟨aI,aJ⟩:Gv)] (by rfl) (Rg.own_below aH.out ab.out) _ _ (by rfl) (Rg.ay wr _ [(⟨aI,aJ⟩:Gv)] _ (by rfl)) (Nat.zero_lt_succ _) bh.out aF.out ?_
      intro v5 W5 ar an bc
      obtain⟨A5,n5,k5,rfl⟩:=ft ar
      have aP:=zh ar
      have ap:=zh (Rg.aw (Rg.own_below aH.out ab.out) aF.out an)
      have ah:=zh (dE (aO.out _ ab.out) an (fW (Rg.own_below aH.out ab.out) (Nat.lt_of_lt_of_le ao.out.2 a9.out)))
      have ae:=zh (ac.out.trans (ap.out.mono bw.out))
      have aj:Hid (Below U.heap.size U (W5.setCell ⟨b2,4,none⟩ (.slice A5 n5 k5))):=(ae.out.setCell ao.out.1 _)
      obtain⟨x0,x1,x2,x3,x4,x5⟩:=aA ah.out
      have z4:=av ah.out 4
      clear ar an bc x0 x1 x2 x3 x5
      refine hK.out _ _ ?_ (fun hH7=>?_)
      ·exact am.out _ ae.out
      clear hK K
      try simp only[Act.put,mvS]
      refine mv (by assumption) aa.out ag.out 17 ?_
      try simp only[Act.put,mvS]
      clear hH7
      refine aU aa.out 18 rfl (by kernel_rfl) (by rfl) (fun K hK=>?_)
      go_simp
      refine hK.out _ _ ?_ (fun hH8=>?_)
      ·exact am.out _ aj.out
      clear hK K hH8
      try simp only[Act.put,mvS]
      refine iZ aa.out (by kernel_rfl) ?_
      have aq:=zh (eX (j:=4) (x:=.slice A5 n5 k5) (fX aB.out ((ab.out.mono aB.out.1).trans ap.out)))
      have a7:Hid ((W5.setCell ⟨b2,4,none⟩ (.slice A5 n5 k5)).heap[b2]?=some (.cells #[.string ⟨nm.toArray⟩,.string ⟨vr.toArray⟩,.slice D2 deps.length ax,.slice C2 cn al,.slice A5 n5 k5,.float .f64 wt] 34 (0,0))):=(aG ah.out).trans rfl
      have a8:Hid (Rg.Own encG 2 (W5.setCell ⟨b2,4,none⟩ (.slice A5 n5 k5)) z1.heap.size 58 (.slice A5 n5 k5) (prov.take (j+1))):=by
       show Rg.Own _ _ _ _ _ _ _
       rw[bi.out]
       exact i7 aP.out (Nat.lt_of_lt_of_le ao.out.2 a9.out)
      generalize W5.setCell ⟨b2,4,none⟩ (.slice A5 n5 k5)=W6 at *
      clear aP ap ah ae ba aM ab ac aF e4 g4 q2 q3 q4 r2 r3 r4 x4 z4 a3 aH aB
      go_wp2_with fail
      go_roundw
      case rel=>exact⟨j+1,.slice A5 n5 k5,by omega,by go_num,a7,a8,aj,aq⟩
      case measure=>simp[intOf];omega
    ·obtain rfl:j=gn:=by omega
     have ho:=aH.out
     rw[List.take_of_length_le (by rw[bm.out];exact Nat.le_refl _)] at ho
     obtain⟨G2,aX,rfl,hr,hf⟩:=nj ho
     have bP:=zh hr
     have bQ:=zh hf
     have aN:Hid (wr.heap[b+1]?=some (.cells zeroC 34 (0,0))):=HZ.out _ aS.out
     obtain⟨c0,c1,c2,c3,c4,c5⟩:=aA a3.out
     obtain⟨k0,k1,k2,k3,k4,k5⟩:=aA aN.out
     have z0:=av aN.out 0
     have z1:=av aN.out 1
     have z2:=av aN.out 2
     have z3:=av aN.out 3
     have z4:=av aN.out 4
     have z5:=av aN.out 5
     obtain rfl:confl.length=cn:=bH.out
     clear ho hr hf aH y0 y1 y2 y3 y5
     go_wp2_with fail
     (try simp only[Exit.inBlock,Exit.then])
     refine bodyPost_ret (ad7 aN.out ⟨nm,vr,deps,confl,prov,wt⟩ D2 C2 G2 ax al aX rfl) rfl ?_
     have h1:=ao.out.1
     have h2:=ao.out.2
     have h3:=aY.out
     have h4:=a9.out
     have h5:=bG.out
     have e1:=bl.out
     have e3:=bm.out
     have bk:=fV wr (b+1) ⟨nm,vr,deps,confl,prov,wt⟩ D2 C2 G2 ax al aX
     have t1:Pg.DRow (stP wr (b+1) ⟨nm,vr,deps,confl,prov,wt⟩ D2 C2 G2 ax al aX) D2 deps:=ly (fo (fo bO.out bv.out aB.out h2 (jY HH.out (isl _ _ _) (isl _ _ _) (isl _ _ _))) bv.out bk (show b+1<wc.heap.size by omega) (du aN.out))
     have t2:ARow (stP wr (b+1) ⟨nm,vr,deps,confl,prov,wt⟩ D2 C2 G2 ax al aX) C2 confl:=bL.out _ (Nat.le_trans h4 (Nat.le_trans aB.out.1 bk.1)) (fun i hi n2 n1=>(bk.2 i (Nat.lt_of_lt_of_le hi (Nat.le_trans h4 aB.out.1)) (fun e=>n1 (Option.some.inj e).symm)).trans ((aB.out.2 i (Nat.lt_of_lt_of_le hi h4) (fun e=>n2 (Option.some.inj e).symm)).trans (aW.out.2 i hi (fun e=>n2 (Option.some.inj e).symm))))
     have t3:GRow (stP wr (b+1) ⟨nm,vr,deps,confl,prov,wt⟩ D2 C2 G2 ax al aX) G2 prov:=iX bP.out bk (fun _ a ha e=>by have:=bQ.out a ha;have:=Option.some.inj e;omega)
     have t4:Below w.heap.size w (stP wr (b+1) ⟨nm,vr,deps,confl,prov,wt⟩ D2 C2 G2 ax al aX):=iq (bt HU.out aS.out) (show w.heap.size<=b+1 by omega) _ _ _ _ _ _ _
     refine⟨D2,ax,C2,al,G2,⟨aX,by rw[<-e1,<-e3]⟩,t1,t2,t3,t4⟩
theorem Pg.ad9 {u:World}{b:Nat}(h:u.heap[b]?=some (.cells zeroC 27 (0,0)))(p:Pk)(D C G:Option Addr)(dc cc gc:Nat){tmps:Array Value}(ht:tmps.getD 2 undef=.pointer (some ⟨b,0,none⟩)) :
  (results Tryz.f16 tmps).run Tryz.prog (stP u b p D C G dc cc gc)=.ok (.agg (pCells p D C G dc cc gc)) (stP u b p D C G dc cc gc):=by
 obtain⟨g0,g1,g2,g3,g4,g5⟩:=aA (jU h p D C G dc cc gc)
 have hr:Tryz.f16.results=#[.cell 2 27]:=Tryz.results16
 simp only[results,hr]
 generalize stP u b p D C G dc cc gc=V at *
 simp only[Array.getD_eq_getD_getElem?] at ht ⊢
 simp[go_sem,ht,g0,g1,g2,g3,g4,g5]
theorem aea (p:Pk)(D C G:Option Addr)(dn dc cn cc gn gc:Nat)(w:World)(hd:Pg.DRow w D p.deps)(hdn:p.deps.length=dn)(hc:ARow w C p.confl)(hcn:p.confl.length=cn)(hg:GRow w G p.prov)(hgn:p.prov.length=gn)(hf:PSmall p) :
  Calls Tryz.prog 16 #[.agg #[.string ⟨p.name.toArray⟩,.string ⟨p.ver.toArray⟩,.slice D dn dc,.slice C cn cc,.slice G gn gc,.float .f64 p.wt]] w fun e w'=>∃ D' dc' C' cc' G' gc',e=.returned (.agg #[.string ⟨p.name.toArray⟩,.string ⟨p.ver.toArray⟩,.slice D' dn dc',.slice C' cn cc',.slice G' gn gc',.float .f64 p.wt])/\Pg.DRow w' D' p.deps/\ARow w' C' p.confl/\GRow w' G' p.prov/\Below w.heap.size w w':=by
 obtain⟨nm,vr,deps,confl,prov,wt⟩:=p
 obtain⟨f1,f2,f3,f4,f5⟩:=hf
 dsimp only at hd hdn hc hcn hg hgn f1 f2 f3 f4 f5 ⊢
 rw[hdn] at f1
 rw[hcn] at f3
 rw[hgn] at f5
 obtain⟨b,hb⟩:=ex w.heap.size
 obtain⟨V,hV⟩:=ex (w.alloc (.cells #[.string ⟨nm.toArray⟩,.string ⟨vr.toArray⟩,.slice D dn dc,.slice C cn cc,.slice G gn gc,.float .f64 wt] 34))
 have bd:V.heap.size=b+1:=by rw[<-hV,<-hb];simp
 obtain⟨U,hU⟩:=ex (V.alloc (.cells zeroC 27))
 have HV:Hid (Below w.heap.size w V):=ai hV
 have bp:Hid (Below V.heap.size V U):=ai hU
 have HU:Hid (Below w.heap.size w U):=bt HV.out bp.out
 have HY:=zh (fun W (h:Below U.heap.size U W)=>az hV (bt bp.out h))
 have HZ:Hid (∀ W,Below U.heap.size U W->W.heap[b+1]?=some (.cells zeroC 27 (0,0))):=fun W h=>(h.block _ (by rw[<-hU,<-bd];simp)).trans (by rw[<-hU,<-bd];exact heap_alloc_new V _)
 have aY:Hid (U.heap.size=b+2):=by show _=_;rw[<-hU];simp[bd]
 have bG:Hid (w.heap.size=b):=hb
 rw[hb] at HY
 have HD:Hid (Pg.DRow U D deps):=drowD_below hd HU.out
 have HG:Hid (GRow U G prov):=Rg.ak hg HU.out
 have HC:Hid (∀ W,Below U.heap.size U W->Calls Tryz.prog 52 #[.slice C cn cc] W fun e w'=>∃ C2 d,e=.returned (.slice C2 cn d)/\ARow w' C2 confl/\(∀ a,C2=some a->W.heap.size<=a.block)/\Below W.heap.size W w'):=fun W h=>oT C cn cc confl W hcn (au (au hc HU.out) h) f3 f4
 have bl:=zh hdn
 have bH:=zh hcn
 have bm:=zh hgn
 have be:=zh f2
 have a4:Hid (Below U.heap.size U U.drew):=(Below.refl _ _).drew
 obtain⟨y0,y1,y2,y3,y4,y5⟩:=HY.out _ a4.out
 clear hd hdn hc hcn hg hgn f2 f4
 have aK:Hid (Below U.heap.size U (U.alloc (.cells #[.string ⟨#[]⟩,.string ⟨#[]⟩,.slice none 0 0,.slice none 0 0,.slice none 0 0,.float .f64 0] 27)).drew):=((Below.refl _ _).alloc (Nat.le_refl _) _).drew
 have a5:Hid (Below U.heap.size U (U.alloc (.cells #[.string ⟨#[]⟩,.string ⟨#[]⟩,.slice none 0 0,.slice none 0 0,.slice none 0 0,.float .f64 0] 27))):=(Below.refl _ _).alloc (Nat.le_refl _) _
 have bq:Hid (∀ W,Below (U.alloc (.cells zeroC 27)).drew.heap.size (U.alloc (.cells zeroC 27)).drew W->W.heap[U.heap.size]?=some (.cells zeroC 27 (0,0))):=fun W h=>(h.block _ (by simp)).trans (heap_alloc_new U (.cells zeroC 27))
 go_enter Tryz.func16,Tryz.ntmps16
 go_upto_region 1 with fail
 clear hV hU hb bd
 go_cut [3] (fun v wx=>Hid (CutTo 27 U b nm vr cn confl wt v wx))
 case first =>
  go_region_held3 (fun u=>u.cell? ⟨b,0,none⟩=some (.string ⟨nm.toArray⟩)/\u.cell? ⟨b,1,none⟩=some (.string ⟨vr.toArray⟩)/\u.cell? ⟨b,3,none⟩=some (.slice C cn cc)/\u.cell? ⟨b,5,none⟩=some (.float .f64 wt))
   (first
    | with_reducible exact bN (HY.out _ a4.out)
    | with_reducible exact bN (HY.out _ aE.out)
    | with_reducible exact bN (HY.out _ (aE.out.alloc aE.out.size _))
    | with_reducible exact bN (HY.out _ aK.out)
    | with_reducible exact bN (HY.out _ bf.out)
    | with_reducible exact bN (HY.out _ a5.out)
    | exact bN (HY.out _ (Below.setCell (Below.setCell (Below.setCell (Below.setCell (Below.setCell (Below.setCell bf.out (p:=⟨U.heap.size,0,none⟩) (Nat.le_refl _) _) (p:=⟨U.heap.size,1,none⟩) (Nat.le_refl _) _) (p:=⟨U.heap.size,2,none⟩) (Nat.le_refl _) _) (p:=⟨U.heap.size,3,none⟩) (Nat.le_refl _) _) (p:=⟨U.heap.size,4,none⟩) (Nat.le_refl _) _) (p:=⟨U.heap.size,5,none⟩) (Nat.le_refl _) _))
    | (go_keep))
   (first
    | (go_at_call 52;refine (HC.out _ (by first | with_reducible exact a4.out | with_reducible exact aK.out)).mono ?_;rintro _ u3 ⟨C2,al,rfl,bA,bB,a1⟩;have br:=zh bA;have be:=zh bB;(first
      | (have aC:Below U.drew.heap.size U.drew u3:=(by with_reducible exact a1);have aE:=zh (bt a4.out aC);clear aC)
      | (have aC:Below (U.alloc (.cells #[.string ⟨#[]⟩,.string ⟨#[]⟩,.slice none 0 0,.slice none 0 0,.slice none 0 0,.float .f64 0] 27)).drew.heap.size (U.alloc (.cells #[.string ⟨#[]⟩,.string ⟨#[]⟩,.slice none 0 0,.slice none 0 0,.slice none 0 0,.float .f64 0] 27)).drew u3:=(by with_reducible exact a1);have bf:=zh (bt aK.out aC);have aL:=zh (bq.out _ aC);clear aC;obtain⟨e0,e1,e2,e3,e4,e5⟩:=aA aL.out;have z0:=av aL.out 0;have z1:=av aL.out 1;have z2:=av aL.out 2;have z3:=av aL.out 3;have z4:=av aL.out 4;have z5:=av aL.out 5));clear bA bB a1))
  ·go_wp2_with fail
   go_meet
   case rel=>exact uy aY.out aE.out br.out (fun a ha=>Nat.le_trans (Nat.le_of_eq aY.out.symm) (be.out a ha)) (HZ.out _ aE.out)
  ·go_wp2_with fail
   go_meet
   case rel=>exact uz aY.out aY.out bf.out br.out (fun a ha=>Nat.le_trans (by have:=aY.out;simp;omega) (be.out a ha)) (HZ.out _ bf.out) aL.out (xr u3 U.heap.size _ _ _ _ _ _) (qX (Below.refl _ _) (Nat.le_refl _) _ _ _ _ _ _) (ux aL.out _ _ _ _ _ _)
 case rest =>
 obtain⟨b2,C2,al,rfl,a1,bb,bC,bo,aR⟩:=hcut
 have ao:Hid (U.heap.size<=b2/\b2<wc.heap.size):=⟨a1,bb⟩
 have bI:Hid (U.heap.size<=wc.heap.size):=bo.size
 have bJ:=zh bC
 have bK:=zh bo
 have bL:=zh aR
 clear a1 bb bC bo aR y0 y1 y2 y3 y4 y5 a4 aK a5 HC bq
 go_wp2_with fail
 go_loopw [4] (fun i wr=>∃ (k:Nat) (v:Value) (ds:List Desc),k<=dn/\i=.int .i64 k/\Hid (wr.heap[b2]?=some (.cells #[.string ⟨nm.toArray⟩,.string ⟨vr.toArray⟩,v,.slice C2 cn al,.slice none 0 0,.float .f64 wt] 27 (0,0)))/\Hid (DOwnF wr wc.heap.size 23 v ds (deps.take k))/\Hid (Below U.heap.size U wr)/\Hid (But (some b2) wc wr)) (fun i _=>dn-(intOf i).toNat)
 case atStart=>exact⟨0,.slice none 0 0,[],Nat.zero_le _,rfl,bJ,nk _ _ _,bK,im (Below.refl _ _)⟩
 case round =>
  obtain⟨k,v,ds,hk,rfl,HH,HO,a2,aW⟩:=hrel
  obtain⟨y0,y1,y2,y3,y4,y5⟩:=HY.out _ a2.out
  by_cases bn:k<dn
  ·have a0:k<deps.length:=by rw[bl.out];exact bn
   obtain⟨ad,C1,m,d,rfl,hm,hs,hc⟩:=bT HD.out k a0
   have q0:=hc _ a2.out
   have bg:=be.out _ (List.getElem_mem a0)
   have aT:deps.take (k+1)=deps.take k++[deps[k]]:=by rw[List.take_succ_eq_append_getElem a0]
   have bh:Hid (ds.length+1<=1000000):=by
    have h1:=HO.out.2.1.1
    rw[List.length_take] at h1
    show _<=_
    omega
   obtain⟨a,ha⟩:=ex (deps[k])
   rw[ha] at hm hs bg aT
   have bi:=zh aT
   have HM:=zh hm
   have bM:Hid (∀ W,Below wr.heap.size wr W->Calls Tryz.prog 52 #[.slice C1 m d] W fun e w'=>∃ C2 d,e=.returned (.slice C2 m d)/\ARow w' C2 a/\(∀ x,C2=some x->W.heap.size<=x.block)/\Below W.heap.size W w'):=fun W h=>oT C1 m d a W hm (au (au hs a2.out) h) (by rw[<-hm];exact bg.1) bg.2
   have am:Hid (∀ W,Below U.heap.size U W->W.cell? ⟨b,2,none⟩=some (.slice (some ad) dn dc)/\W.cell? (ad.add k)=some (.slice C1 m d)):=fun W h=>⟨(HY.out _ h).2.2.1,hc _ h⟩
   have aO:Hid (∀ W,Below wr.heap.size wr W->W.heap[b2]?=some (.cells #[.string ⟨nm.toArray⟩,.string ⟨vr.toArray⟩,v,.slice C2 cn al,.slice none 0 0,.float .f64 wt] 27 (0,0))):=fun W h=>ir HH.out h (block_lt HH.out)
   have bj:Hid (Below wr.heap.size wr wr.drew):=(Below.refl _ _).drew
   have a6:Hid (Below U.heap.size U wr.drew):=a2.out.drew
   obtain⟨e0,e1,e2,e3,e4,e5⟩:=aA (aO.out _ bj.out)
   obtain⟨q2,q3⟩:=am.out _ a6.out
   clear ha hm hs bg aT hc y0 y1 y3 y4 y5 e0 e1 e3 e4 e5
   go_wp2_with fail
   go_region_law
    (first
     | (refine Pg.kg sliceRD aaM pP (by rfl) (.tmp 24) (.tmp 31) (by rfl) wc.heap.size v ds [(C3,m,c3)] (by rfl) (aZ HO.out af.out).1 (aZ HO.out af.out).2.2.2 _ _ (by rfl) (Rg.ay _ _ [(C3,m,c3)] _ (by rfl)) (Nat.zero_lt_succ _) bh.out aF.out ?_;intro v5 W5 ar bD an bc;obtain⟨A5,n5,k5,rfl⟩:=ft ar;have aP:=zh (nn (aZ HO.out af.out) (au bs.out ((Below.refl _ _).alloc (Nat.le_refl _) _)) HM.out bu.out ar bD an);have ap:=zh (Rg.aw (aZ HO.out af.out).1 aF.out an);have ah:=zh (dE (aO.out _ af.out) an (fW (aZ HO.out af.out).1 ao.out.2));have ae:=zh (aQ.out.trans (ap.out.mono bI.out));have aj:Hid (Below U.heap.size U (W5.setCell ⟨b2,2,none⟩ (.slice A5 n5 k5))):=(ae.out.setCell ao.out.1 _);obtain⟨x0,x1,x2,x3,x4,x5⟩:=aA ah.out;have z2:=av ah.out 2;clear ar bD an bc x0 x1 x3 x4 x5)
     | (rw[if_pos (by rfl)];go_simp;go_at_call 52;refine (bM.out _ bj.out).mono ?_;rintro _ u3 ⟨C3,c3,rfl,bE,bF,aC⟩;have aE:=zh (bt bj.out aC);have aV:=zh (bt a6.out aC);have af:Hid (Below wr.heap.size wr (u3.alloc (.cells #[.slice C3 m c3] 23))):=aE.out.alloc aE.out.size _;have aQ:Hid (Below U.heap.size U (u3.alloc (.cells #[.slice C3 m c3] 23))):=aV.out.alloc aV.out.size _;have bs:=zh bE;have bu:Hid (∀ a,C3=some a->wc.heap.size<=a.block):=(fun a ha=>Nat.le_trans (Nat.le_trans aW.out.1 bj.out.size) (bF a ha));have aF:Hid (wc.heap.size<=(u3.alloc (.cells #[.slice C3 m c3] 23)).heap.size):=Nat.le_trans aW.out.1 af.out.size;obtain⟨_,_,g2,_,_,_⟩:=aA (aO.out _ aE.out);obtain⟨_,_,g3,_,_,_⟩:=aA (aO.out _ af.out);clear bE bF aC;go_wp2_with fail))
   all_goals (
    have aq:=zh (eX (j:=2) (x:=.slice A5 n5 k5) (fX aW.out ((af.out.mono aW.out.1).trans ap.out)))
    have a7:Hid ((W5.setCell ⟨b2,2,none⟩ (.slice A5 n5 k5)).heap[b2]?=some (.cells #[.string ⟨nm.toArray⟩,.string ⟨vr.toArray⟩,.slice A5 n5 k5,.slice C2 cn al,.slice none 0 0,.float .f64 wt] 27 (0,0))):=(aG ah.out).trans rfl
    have a8:Hid (DOwnF (W5.setCell ⟨b2,2,none⟩ (.slice A5 n5 k5)) wc.heap.size 23 (.slice A5 n5 k5) (ds++[(C3,m,c3)]) (deps.take (k+1))):=by
     show DOwnF _ _ _ _ _ _
     rw[bi.out]
     exact uv aP.out ao.out.2 (jY ah.out (ft HO.out.1) (isl _ _ _) (isl _ _ _))
    generalize W5.setCell ⟨b2,2,none⟩ (.slice A5 n5 k5)=W6 at *
    clear aP ap ah ae aE af aV aQ bs bu aF g2 g3 x2 z2 HH HO aW
    go_wp2_with fail
    go_roundw
    case rel=>exact⟨k+1,.slice A5 n5 k5,_,by omega,by go_num,a7,a8,aj,aq⟩
    case measure=>simp[intOf];omega)
  ·obtain rfl:k=dn:=by omega
   have ho:=HO.out
   rw[List.take_of_length_le (by rw[bl.out];exact Nat.le_refl _)] at ho
   obtain⟨D2,ax,rfl,hr,hf⟩:=down_row ho
   have bO:=zh hr
   have bv:=zh hf
   have a9:Hid (wc.heap.size<=wr.heap.size):=aW.out.1
   clear ho hr hf HO
   go_wp2_with fail
   clear y0 y1 y2 y3 y4 y5
   obtain⟨z1,bR⟩:∃ z1,z1=wr:=⟨_,rfl⟩
   subst bR
   go_loopw [5] (fun i ws=>∃ (j:Nat) (g:Value),j<=gn/\i=.int .i64 j/\Hid (ws.heap[b2]?=some (.cells #[.string ⟨nm.toArray⟩,.string ⟨vr.toArray⟩,.slice D2 deps.length ax,.slice C2 cn al,g,.float .f64 wt] 27 (0,0)))/\Hid (Rg.Own encG 2 ws z1.heap.size 68 g (prov.take j))/\Hid (Below U.heap.size U ws)/\Hid (But (some b2) z1 ws)) (fun i _=>gn-(intOf i).toNat)
   case atStart=>exact⟨0,.slice none 0 0,Nat.zero_le _,rfl,HH,Rg.aD _ _ _,a2,im (Below.refl _ _)⟩
   case round =>
    obtain⟨j,g,hj,rfl,a3,aH,aS,aB⟩:=hrel
    obtain⟨y0,y1,y2,y3,y4,y5⟩:=HY.out _ aS.out
    by_cases bn:j<gn
    ·have a0:j<prov.length:=by rw[bm.out];exact bn
     obtain⟨ad,rfl,hc⟩:=b8 HG.out j a0
     have aT:prov.take (j+1)=prov.take j++[prov[j]]:=by rw[List.take_succ_eq_append_getElem a0]
     have bh:Hid ((prov.take j).length+1<=1000000):=by
      rw[List.length_take]
      show _<=_
      omega
     obtain⟨a,ha⟩:=ex (prov[j])
     rw[ha] at hc aT
     obtain⟨aI,aJ⟩:=a
     dsimp only at hc
     have bi:=zh aT
     have am:=zh (fun W (h:Below U.heap.size U W)=>And.intro (HY.out _ h).2.2.2.2.1 (hc _ h))
     have ba:Hid (Below wr.heap.size wr (wr.alloc (.cells #[.string ⟨aI.toArray⟩,.string ⟨aJ.toArray⟩] 68))):=(Below.refl _ _).alloc (Nat.le_refl _) _
     have ab:Hid (Below wr.heap.size wr (wr.alloc (.cells #[.string ⟨aI.toArray⟩,.string ⟨aJ.toArray⟩] 68)).drew):=ba.out.drew
     have aM:Hid (Below U.heap.size U (wr.alloc (.cells #[.string ⟨aI.toArray⟩,.string ⟨aJ.toArray⟩] 68))):=aS.out.alloc aS.out.size _
     have ac:Hid (Below U.heap.size U (wr.alloc (.cells #[.string ⟨aI.toArray⟩,.string ⟨aJ.toArray⟩] 68)).drew):=aM.out.drew
     have aF:Hid (z1.heap.size<=(wr.alloc (.cells #[.string ⟨aI.toArray⟩,.string ⟨aJ.toArray⟩] 68)).heap.size):=Nat.le_trans aB.out.1 ba.out.size
     have aO:Hid (∀ W,Below wr.heap.size wr W->W.heap[b2]?=some (.cells #[.string ⟨nm.toArray⟩,.string ⟨vr.toArray⟩,.slice D2 deps.length ax,.slice C2 cn al,g,.float .f64 wt] 27 (0,0))):=fun W h=>ir a3.out h (block_lt a3.out)
     have bw:Hid (U.heap.size<=z1.heap.size):=a2.out.size
     obtain⟨_,_,_,_,e4,_⟩:=aA a3.out
     obtain⟨_,_,_,_,g4,_⟩:=aA (aO.out _ ba.out)
     obtain⟨q2,q3,q4⟩:=am.out _ aS.out
     obtain⟨r2,r3,r4⟩:=am.out _ aM.out
     clear ha hc aT y0 y1 y2 y3 y5
     go_wp2_with fail
     clear y4
     refine gL (fun ops hops=>?_)
     have aa:=zh hops
     have ag:=zh (nr hops (by kernel_rfl))
     have bx:=pU hops (n:=19) (by rfl)
     clear hops
     refine wp_region_held_drew (S:=fun u=>u.cell? ⟨b,4,none⟩=some (.slice (some ad) gn gc)/\u.cell? (ad.add (j*2))=some (.string ⟨aI.toArray⟩)/\u.cell? ⟨(ad.add (j*2)).block,(ad.add (j*2)).off+1,none⟩=some (.string ⟨aJ.toArray⟩)) (by kernel_rfl) ?_ (fun hH0=>?_)
     ·exact am.out _ aS.out.drew
     rw[bx]
     clear bx
     refine mv (by assumption) aa.out ag.out 0 ?_
     try simp only[Act.put,mvS]
     refine mv (by assumption) aa.out ag.out 2 ?_
     try simp only[Act.put,mvS]
     refine mv (by assumption) aa.out ag.out 3 ?_
     try simp only[Act.put,mvS]
     refine mv (by assumption) aa.out ag.out 4 ?_
     try simp only[Act.put,mvS]
     refine mv (by assumption) aa.out ag.out 5 ?_
     try simp only[Act.put,mvS]
     refine mv (by assumption) aa.out ag.out 6 ?_
     try simp only[Act.put,mvS]
     refine mv (by assumption) aa.out ag.out 7 ?_
     try simp only[Act.put,mvS]
     refine mv (by assumption) aa.out ag.out 8 ?_
     try simp only[Act.put,mvS]
     refine mv (by assumption) aa.out ag.out 9 ?_
     try simp only[Act.put,mvS]
     refine mv (by assumption) aa.out ag.out 10 ?_
     try simp only[Act.put,mvS]
     refine mv (by assumption) aa.out ag.out 11 ?_
     try simp only[Act.put,mvS]
     refine mv (by assumption) aa.out ag.out 12 ?_
     try simp only[Act.put,mvS]
     refine mv (by assumption) aa.out ag.out 13 ?_
     try simp only[Act.put,mvS]
     refine mv (by assumption) aa.out ag.out 14 ?_
     try simp only[Act.put,mvS]
     refine aaL aa.out 1 15 rfl rfl (by kernel_rfl) (by rfl) (by rfl) (fun K hK=>?_) (fun K hK=>?_)
     ·go_simp
      refine hK.out _ _ ?_ (fun hH1=>?_)
      ·exact am.out _ aS.out.drew
      clear hK K hH1
      try simp only[Act.put,mvS]
      refine aU aa.out 15 rfl (by kernel_rfl) (by rfl) (fun K hK=>?_)
      go_simp
      refine hK.out _ _ ?_ (fun hH2=>?_)
      ·exact am.out _ ac.out
      clear hK K hH2
      try simp only[Act.put,mvS]
      refine ma aa.out 16 rfl (by kernel_rfl) (by rfl) (fun K hK=>?_)
      refine Rg.bz sliceRG (by rfl) (.tmp 42) (.tmp 56) (by rfl) z1.heap.size g (prov.take j) [(⟨aI,aJ⟩:Gv)] (by rfl) (Rg.own_below aH.out ab.out) _ _ (by rfl) (Rg.ay wr _ [(⟨aI,aJ⟩:Gv)] _ (by rfl)) (Nat.zero_lt_succ _) bh.out aF.out ?_
      intro v5 W5 ar an bc
      obtain⟨A5,n5,k5,rfl⟩:=ft ar
      have aP:=zh ar
      have ap:=zh (Rg.aw (Rg.own_below aH.out ab.out) aF.out an)
      have ah:=zh (dE (aO.out _ ab.out) an (fW (Rg.own_below aH.out ab.out) (Nat.lt_of_lt_of_le ao.out.2 a9.out)))
      have ae:=zh (ac.out.trans (ap.out.mono bw.out))
      have aj:Hid (Below U.heap.size U (W5.setCell ⟨b2,4,none⟩ (.slice A5 n5 k5))):=(ae.out.setCell ao.out.1 _)
      obtain⟨x0,x1,x2,x3,x4,x5⟩:=aA ah.out
      have z4:=av ah.out 4
      clear ar an bc x0 x1 x2 x3 x5
      refine hK.out _ _ ?_ (fun hH3=>?_)
      ·exact am.out _ ae.out
      clear hK K
      try simp only[Act.put,mvS]
      refine mv (by assumption) aa.out ag.out 17 ?_
      try simp only[Act.put,mvS]
      clear hH3
      refine aU aa.out 18 rfl (by kernel_rfl) (by rfl) (fun K hK=>?_)
      go_simp
      refine hK.out _ _ ?_ (fun hH4=>?_)
      ·exact am.out _ aj.out
      clear hK K hH4
      try simp only[Act.put,mvS]
      refine iZ aa.out (by kernel_rfl) ?_
      have aq:=zh (eX (j:=4) (x:=.slice A5 n5 k5) (fX aB.out ((ab.out.mono aB.out.1).trans ap.out)))
      have a7:Hid ((W5.setCell ⟨b2,4,none⟩ (.slice A5 n5 k5)).heap[b2]?=some (.cells #[.string ⟨nm.toArray⟩,.string ⟨vr.toArray⟩,.slice D2 deps.length ax,.slice C2 cn al,.slice A5 n5 k5,.float .f64 wt] 27 (0,0))):=(aG ah.out).trans rfl
      have a8:Hid (Rg.Own encG 2 (W5.setCell ⟨b2,4,none⟩ (.slice A5 n5 k5)) z1.heap.size 68 (.slice A5 n5 k5) (prov.take (j+1))):=by
       show Rg.Own _ _ _ _ _ _ _
       rw[bi.out]
       exact i7 aP.out (Nat.lt_of_lt_of_le ao.out.2 a9.out)
      generalize W5.setCell ⟨b2,4,none⟩ (.slice A5 n5 k5)=W6 at *
      clear aP ap ah ae ba aM ab ac aF e4 g4 q2 q3 q4 r2 r3 r4 x4 z4 a3 aH aB
      go_wp2_with fail
      go_roundw
      case rel=>exact⟨j+1,.slice A5 n5 k5,by omega,by go_num,a7,a8,aj,aq⟩
      case measure=>simp[intOf];omega
     ·go_simp
      refine hK.out _ _ ?_ (fun hH5=>?_)
      ·exact am.out _ ac.out
      clear hK K hH5
      try simp only[Act.put,mvS]
      refine aU aa.out 1 rfl (by kernel_rfl) (by rfl) (fun K hK=>?_)
      go_simp
      refine hK.out _ _ ?_ (fun hH6=>?_)
      ·exact am.out _ ac.out
      clear hK K hH6
      try simp only[Act.put,mvS]
      refine ma aa.out 16 rfl (by kernel_rfl) (by rfl) (fun K hK=>?_)
      refine Rg.bz sliceRG (by rfl) (.tmp 42) (.tmp 56) (by rfl) z1.heap.size g (prov.take j) [(⟨aI,aJ⟩:Gv)] (by rfl) (Rg.own_below aH.out ab.out) _ _ (by rfl) (Rg.ay wr _ [(⟨aI,aJ⟩:Gv)] _ (by rfl)) (Nat.zero_lt_succ _) bh.out aF.out ?_
      intro v5 W5 ar an bc
      obtain⟨A5,n5,k5,rfl⟩:=ft ar
      have aP:=zh ar
      have ap:=zh (Rg.aw (Rg.own_below aH.out ab.out) aF.out an)
      have ah:=zh (dE (aO.out _ ab.out) an (fW (Rg.own_below aH.out ab.out) (Nat.lt_of_lt_of_le ao.out.2 a9.out)))
      have ae:=zh (ac.out.trans (ap.out.mono bw.out))
      have aj:Hid (Below U.heap.size U (W5.setCell ⟨b2,4,none⟩ (.slice A5 n5 k5))):=(ae.out.setCell ao.out.1 _)
      obtain⟨x0,x1,x2,x3,x4,x5⟩:=aA ah.out
      have z4:=av ah.out 4
      clear ar an bc x0 x1 x2 x3 x5
      refine hK.out _ _ ?_ (fun hH7=>?_)
      ·exact am.out _ ae.out
      clear hK K
      try simp only[Act.put,mvS]
      refine mv (by assumption) aa.out ag.out 17 ?_
      try simp only[Act.put,mvS]
      clear hH7
      refine aU aa.out 18 rfl (by kernel_rfl) (by rfl) (fun K hK=>?_)
      go_simp
      refine hK.out _ _ ?_ (fun hH8=>?_)
      ·exact am.out _ aj.out
      clear hK K hH8
      try simp only[Act.put,mvS]
      refine iZ aa.out (by kernel_rfl) ?_
      have aq:=zh (eX (j:=4) (x:=.slice A5 n5 k5) (fX aB.out ((ab.out.mono aB.out.1).trans ap.out)))
      have a7:Hid ((W5.setCell ⟨b2,4,none⟩ (.slice A5 n5 k5)).heap[b2]?=some (.cells #[.string ⟨nm.toArray⟩,.string ⟨vr.toArray⟩,.slice D2 deps.length ax,.slice C2 cn al,.slice A5 n5 k5,.float .f64 wt] 27 (0,0))):=(aG ah.out).trans rfl
      have a8:Hid (Rg.Own encG 2 (W5.setCell ⟨b2,4,none⟩ (.slice A5 n5 k5)) z1.heap.size 68 (.slice A5 n5 k5) (prov.take (j+1))):=by
       show Rg.Own _ _ _ _ _ _ _
       rw[bi.out]
       exact i7 aP.out (Nat.lt_of_lt_of_le ao.out.2 a9.out)
      generalize W5.setCell ⟨b2,4,none⟩ (.slice A5 n5 k5)=W6 at *
      clear aP ap ah ae ba aM ab ac aF e4 g4 q2 q3 q4 r2 r3 r4 x4 z4 a3 aH aB
      go_wp2_with fail
      go_roundw
      case rel=>exact⟨j+1,.slice A5 n5 k5,by omega,by go_num,a7,a8,aj,aq⟩
      case measure=>simp[intOf];omega
    ·obtain rfl:j=gn:=by omega
     have ho:=aH.out
     rw[List.take_of_length_le (by rw[bm.out];exact Nat.le_refl _)] at ho
     obtain⟨G2,aX,rfl,hr,hf⟩:=nj ho
     have bP:=zh hr
     have bQ:=zh hf
     have aN:Hid (wr.heap[b+1]?=some (.cells zeroC 27 (0,0))):=HZ.out _ aS.out
     obtain⟨c0,c1,c2,c3,c4,c5⟩:=aA a3.out
     obtain⟨k0,k1,k2,k3,k4,k5⟩:=aA aN.out
     have z0:=av aN.out 0
     have z1:=av aN.out 1
     have z2:=av aN.out 2
     have z3:=av aN.out 3
     have z4:=av aN.out 4
     have z5:=av aN.out 5
     obtain rfl:confl.length=cn:=bH.out
     clear ho hr hf aH y0 y1 y2 y3 y5
     go_wp2_with fail
     (try simp only[Exit.inBlock,Exit.then])
     refine bodyPost_ret (ad9 aN.out ⟨nm,vr,deps,confl,prov,wt⟩ D2 C2 G2 ax al aX rfl) rfl ?_
     have h1:=ao.out.1
     have h2:=ao.out.2
     have h3:=aY.out
     have h4:=a9.out
     have h5:=bG.out
     have e1:=bl.out
     have e3:=bm.out
     have bk:=fV wr (b+1) ⟨nm,vr,deps,confl,prov,wt⟩ D2 C2 G2 ax al aX
     have t1:Pg.DRow (stP wr (b+1) ⟨nm,vr,deps,confl,prov,wt⟩ D2 C2 G2 ax al aX) D2 deps:=ly (fo (fo bO.out bv.out aB.out h2 (jY HH.out (isl _ _ _) (isl _ _ _) (isl _ _ _))) bv.out bk (show b+1<wc.heap.size by omega) (du aN.out))
     have t2:ARow (stP wr (b+1) ⟨nm,vr,deps,confl,prov,wt⟩ D2 C2 G2 ax al aX) C2 confl:=bL.out _ (Nat.le_trans h4 (Nat.le_trans aB.out.1 bk.1)) (fun i hi n2 n1=>(bk.2 i (Nat.lt_of_lt_of_le hi (Nat.le_trans h4 aB.out.1)) (fun e=>n1 (Option.some.inj e).symm)).trans ((aB.out.2 i (Nat.lt_of_lt_of_le hi h4) (fun e=>n2 (Option.some.inj e).symm)).trans (aW.out.2 i hi (fun e=>n2 (Option.some.inj e).symm))))
     have t3:GRow (stP wr (b+1) ⟨nm,vr,deps,confl,prov,wt⟩ D2 C2 G2 ax al aX) G2 prov:=iX bP.out bk (fun _ a ha e=>by have:=bQ.out a ha;have:=Option.some.inj e;omega)
     have t4:Below w.heap.size w (stP wr (b+1) ⟨nm,vr,deps,confl,prov,wt⟩ D2 C2 G2 ax al aX):=iq (bt HU.out aS.out) (show w.heap.size<=b+1 by omega) _ _ _ _ _ _ _
     refine⟨D2,ax,C2,al,G2,⟨aX,by rw[<-e1,<-e3]⟩,t1,t2,t3,t4⟩
end
end Go.Proofs.YtpfkphmldalmmaaGreatDoor
