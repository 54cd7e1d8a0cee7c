/- Part 28 of what the laws lean on. -/
import Derived.Test.YtgnaiidgjmicaaaGreatDoorM27
set_option maxRecDepth 100000
set_option maxHeartbeats 64000000
namespace Go.Proofs.YtgnaiidgjmicaaaGreatDoor
section
open Go.RowKit Rs At Pg
namespace Pg
theorem pR {α:Type}{enc:α->List Value}{K B b j:Nat}{T:TypeId}{w:World}{v x:Value}{l:List α}(h:Rg.Own enc K w B T v l)(hb:b<B):Rg.Own enc K (w.setCell ⟨b,j,none⟩ x) B T v l :=
 World.ownsRow.kept h (Sz.cB w ⟨b,j,none⟩ x) (by
  cases hv:v.ownBlock with
  | none=>exact .inl rfl
  | some g =>
   refine .inr fun e=>?_
   have h1:=(Rg.bw h g hv).1
   have h2:=Option.some.inj e
   simp only at h2
   omega)
theorem adE {B b j:Nat}{T:TypeId}{w:World}{v x:Value}{ds:List Desc}{t:List (List Atm)}(h:DOwnF w B T v ds t)(hb:b<B)(hg:∀ j x,w.cell? ⟨b,j,none⟩=some x->NoB x):DOwnF (w.setCell ⟨b,j,none⟩ x) B T v ds t:=by
 refine⟨pR h.1 hb,⟨h.2.1.1,fun i d l e1 e2=>⟨(h.2.1.2 i d l e1 e2).1,d9 (h.2.1.2 i d l e1 e2).2 (aP w ⟨b,j,none⟩ x) (lg (fun a ha=>h.2.2.1 i d e1 a ha) hb) (fun g e=>by cases e;exact hg)⟩⟩,h.2.2.1,fun g hgv k u hu=>?_⟩
 have h1:=(Rg.bw h.1 g hgv).1
 rw[World.cell?_setCell_far _ _ _ _ (by show b≠g;omega)] at hu
 exact h.2.2.2 g hgv k u hu
theorem rr {w u:World}{b:Nat}{o:Obj}(h:w.heap[b]?=some o){B:Nat}(hb:Below B w u)(hlt:b<B):u.heap[b]?=some o:=(hb.block _ hlt).trans h
theorem j4 {w u:World}{b:Nat}{o:Obj}{r:Option Nat}(h:w.heap[b]?=some o)(hg:w.grownBy u r)(hne:r≠some b):u.heap[b]?=some o:=(hg.block b (block_lt h) (fun e=>hne e.symm)).trans h
theorem pS {α:Type}{enc:α->List Value}{K B b:Nat}{T:TypeId}{w:World}{v:Value}{l:List α}(h:Rg.Own enc K w B T v l)(hb:b<B):v.ownBlock≠some b:=fun e=>by
 have:=(Rg.bw h b e).1
 omega
theorem afb {α:Type}{enc:α->List Value}{K:Nat}{w u:World}{A:Option Addr}{l:List α}(h:Rg.Row enc K w A l)(hs:w.heap.size<=u.heap.size)(hk:0<l.length->∀ a,A=some a->a.block<w.heap.size->u.heap[a.block]?=w.heap[a.block]?):Rg.Row enc K u A l:=fun h0=>by
 obtain⟨a,e,hl,hc⟩:=h h0
 refine⟨a,e,Nat.lt_of_lt_of_le hl hs,fun i hi j v hv=>?_⟩
 have h1:=hc i hi j v hv
 rw[World.cell?_of_block]
 ·exact h1
 ·have:(if j=0 then a.add (i*K) else (⟨(a.add (i*K)).block,(a.add (i*K)).off+j,none⟩:Addr)).block=a.block:=by split <;> simp[add_block]
  rw[this]
  exact hk h0 a e hl
theorem adF {w u:World}{A:Option Addr}{l:List Sp}(h:SRow w A l)(hs:w.heap.size<=u.heap.size)(hk:0<l.length->∀ a,A=some a->a.block<w.heap.size->u.heap[a.block]?=w.heap[a.block]?):SRow u A l:=fun h0=>by
 obtain⟨a,e,hl,hc⟩:=h h0
 have hk:=hk h0 a e hl
 refine⟨a,e,Nat.lt_of_lt_of_le hl hs,fun i hi=>?_⟩
 obtain⟨c0,c1,c2,c3⟩:=hc i hi
 refine⟨?_,?_,?_,?_⟩
 ·rw[World.cell?_of_block (by simpa [add_block] using hk)];exact c0
 ·rw[World.cell?_of_block (by simpa [add_block] using hk)];exact c1
 ·rw[World.cell?_of_block (by simpa [add_block] using hk)];exact c2
 ·rw[World.cell?_of_block (by simpa [add_block] using hk)];exact c3
theorem vb {S:Nat->Prop}{w u:World}{A:Option Addr}{l:List Atm}(h:ARow w A l)(hs:w.heap.size<=u.heap.size)(hk:∀ k,k<w.heap.size->¬ S k->u.heap[k]?=w.heap[k]?)(hA:∀ a,A=some a->¬ S a.block)(hg:∀ g,S g->∀ j x,w.cell? ⟨g,j,none⟩=some x->NoB x):ARow u A l:=by
 obtain⟨ds,h1,h2,h3⟩:=h
 refine⟨ds,afb h1 hs (fun _ a ha hl=>hk _ hl (hA a ha)),h2,fun i d a e1 e2=>⟨(h3 i d a e1 e2).1,(h3 i d a e1 e2).2.1,adF (h3 i d a e1 e2).2.2 hs (fun h0 q hq hl=>hk _ hl (fun hS=>m4 (h3 i d a e1 e2).2.2 (hg _ hS) h0 q hq rfl))⟩⟩
theorem pT {b2:Nat}{wc wr u:World}(h:But (some b2) wc wr)(hb:Below wc.heap.size wr u):But (some b2) wc u:=⟨Nat.le_trans h.1 hb.size,fun k hk hr=>(hb.block k hk).trans (h.2 k hk hr)⟩
theorem nd {b2 j:Nat}{wc wr:World}{x:Value}(h:But (some b2) wc wr):But (some b2) wc (wr.setCell ⟨b2,j,none⟩ x):=bL h (aP wr ⟨b2,j,none⟩ x)
theorem oR {α:Type}{enc:α->List Value}{K B:Nat}{T:TypeId}{w:World}{v:Value}{l:List α}(h:Rg.Own enc K w B T v l):IsSl v:=by
 rcases h.2 with⟨rfl,_⟩ | ⟨g,cap,cur,rfl,_⟩
 ·exact⟨_,_,_,rfl⟩
 ·exact⟨_,_,_,rfl⟩
theorem vd {u:World}{b:Nat}{T:TypeId}{s0 s1:ByteArray}{v2 v3 v4:Value}{f:Nat}(h:u.heap[b]?=some (.cells #[.string s0,.string s1,v2,v3,v4,.float .f64 f] T (0,0)))(h2:IsSl v2)(h3:IsSl v3)(h4:IsSl v4):∀ j x,u.cell? ⟨b,j,none⟩=some x->NoB x:=fun j x hx y e=>by
 rw[cell_of_row u b j _ T (0,0) h] at hx
 subst e
 have hm:=Array.mem_of_getElem? hx
 obtain⟨_,_,_,q2⟩:=h2
 obtain⟨_,_,_,q3⟩:=h3
 obtain⟨_,_,_,q4⟩:=h4
 subst q2 q3 q4
 simp at hm
theorem isl (A:Option Addr)(n c:Nat):IsSl (.slice A n c):=⟨_,_,_,rfl⟩
abbrev six (u:World) (b:Nat) (x0 x1 x2 x3 x4 x5:Value):World:=(((((u.setCell ⟨b,0,none⟩ x0).setCell ⟨b,1,none⟩ x1).setCell ⟨b,2,none⟩ x2).setCell ⟨b,3,none⟩ x3).setCell ⟨b,4,none⟩ x4).setCell ⟨b,5,none⟩ x5
theorem adG {u:World}{b:Nat}{T:TypeId}(h:u.heap[b]?=some (.cells zeroC T (0,0)))(x0 x1 x2 x3 x4 x5:Value):(six u b x0 x1 x2 x3 x4 x5).heap[b]?=some (.cells #[x0,x1,x2,x3,x4,x5] T (0,0)):=(aX (aX (aX (aX (aX (aX h)))))).trans rfl
theorem afc (u:World)(b:Nat)(x0 x1 x2 x3 x4 x5:Value):But (some b) u (six u b x0 x1 x2 x3 x4 x5) :=
 bL (bL (bL (bL (bL (aP u ⟨b,0,none⟩ _) (aP _ ⟨b,1,none⟩ _)) (aP _ ⟨b,2,none⟩ _)) (aP _ ⟨b,3,none⟩ _)) (aP _ ⟨b,4,none⟩ _)) (aP _ ⟨b,5,none⟩ _)
theorem abH {B:Nat}{w u:World}{b:Nat}(h:Below B w u)(hb:B<=b)(x0 x1 x2 x3 x4 x5:Value):Below B w (six u b x0 x1 x2 x3 x4 x5) :=
 (((((h.setCell (p:=⟨b,0,none⟩) hb _).setCell (p:=⟨b,1,none⟩) hb _).setCell (p:=⟨b,2,none⟩) hb _).setCell (p:=⟨b,3,none⟩) hb _).setCell (p:=⟨b,4,none⟩) hb _).setCell (p:=⟨b,5,none⟩) hb _
def CutTo (TP:TypeId) (U:World) (b:Nat) (nm vr:List UInt8) (cn:Nat) (confl:List Atm) (wt:Nat) (v:Value) (wx:World):Prop :=
 ∃ b2 C2 cc2,v=.pointer (some ⟨b2,0,none⟩)/\U.heap.size<=b2/\b2<wx.heap.size/\wx.heap[b2]?=some (.cells #[.string ⟨nm.toArray⟩,.string ⟨vr.toArray⟩,.slice none 0 0,.slice C2 cn cc2,.slice none 0 0,.float .f64 wt] TP (0,0))/\Below U.heap.size U wx /\
  ∀ x:World,wx.heap.size<=x.heap.size->(∀ k,k<wx.heap.size->k≠b2->k≠b+1->x.heap[k]?=wx.heap[k]?)->ARow x C2 confl/\∀ a,C2=some a->b+2<=a.block
theorem adH {TP:TypeId}{U u3:World}{b:Nat}{nm vr:List UInt8}{cn:Nat}{confl:List Atm}{wt:Nat}{C2:Option Addr}{cc2:Nat}(_:U.heap.size=b+2)(hb:Below U.heap.size U u3)(hr:ARow u3 C2 confl)(hf:∀ a,C2=some a->b+2<=a.block)(hz:u3.heap[b+1]?=some (.cells zeroC TP (0,0))) :
  CutTo TP U b nm vr cn confl wt (.pointer (some ⟨u3.heap.size,0,none⟩)) (u3.alloc (.cells #[.string ⟨nm.toArray⟩,.string ⟨vr.toArray⟩,.slice none 0 0,.slice C2 cn cc2,.slice none 0 0,.float .f64 wt] TP)):=by
 refine⟨u3.heap.size,C2,cc2,rfl,hb.size,by simp,heap_alloc_new u3 _,hb.alloc hb.size _,fun x hs hk=>?_⟩
 have aa:u3.heap.size<=x.heap.size:=Nat.le_trans (by simp) hs
 refine⟨?_,hf⟩
 refine vb (S:=fun k=>k=b+1) hr aa (fun k hk1 hk2=>?_) (fun a ha e=>by have:=hf a ha;omega) (fun g hg=>by subst hg;exact dE hz)
 rw[hk k (Nat.lt_of_lt_of_le hk1 (by simp)) (by omega) hk2]
 exact Below.heap_alloc u3 _ k hk1
theorem adI {TP:TypeId}{U u3 wx:World}{b b2:Nat}{nm vr:List UInt8}{cn:Nat}{confl:List Atm}{wt:Nat}{C2:Option Addr}{cc2:Nat}(_:U.heap.size=b+2)(hb2:b2=b+2)(hb:Below U.heap.size U u3)(hr:ARow u3 C2 confl)(hf:∀ a,C2=some a->b+3<=a.block)(hz:u3.heap[b+1]?=some (.cells zeroC TP (0,0)))(hz2:u3.heap[b2]?=some (.cells zeroC TP (0,0)))
  (hw:But (some b2) u3 wx) (hwb:Below b2 u3 wx) (hc:wx.heap[b2]?=some (.cells #[.string ⟨nm.toArray⟩,.string ⟨vr.toArray⟩,.slice none 0 0,.slice C2 cn cc2,.slice none 0 0,.float .f64 wt] TP (0,0))) :
  CutTo TP U b nm vr cn confl wt (.pointer (some ⟨b2,0,none⟩)) wx:=by
 refine⟨b2,C2,cc2,rfl,by omega,block_lt hc,hc,hb.trans (hwb.mono (by omega)),fun x hs hk=>?_⟩
 refine⟨?_,fun a ha=>by have:=hf a ha;omega⟩
 refine vb (S:=fun k=>k=b+1\/k=b2) hr (Nat.le_trans hw.1 hs) (fun k hk1 hk2=>?_) (fun a ha e=>by have:=hf a ha;omega) (fun g hg=>by
  rcases hg with rfl | rfl
  ·exact dE hz
  ·exact dE hz2)
 rw[hk k (Nat.lt_of_lt_of_le hk1 hw.1) (fun e=>hk2 (Or.inr e)) (fun e=>hk2 (Or.inl e))]
 exact hw.2 k hk1 (fun e=>hk2 (Or.inr (Option.some.inj e).symm))
section
variable {P:Program} {ops:Array Oper} {L:List Oper} {md:Region.Mode} {Q:Exit->Act->World->Prop} {S:World->Prop} {fuel:Nat} {listed:Array Bool} {a:Act} {w:World}
theorem afW (hL:L.toArray=ops)(i j:Nat){oi oj:Oper}(hi:L[i]?=some oi)(hj:L[j]?=some oj)(hr:Region.ready md L.toArray listed=[i,j])(hw:Region.wanted oi (yielded L.toArray a.tmps)=true)(hv:Region.wanted oj (yielded L.toArray a.tmps)=true)
  (h:∀ K:Act->World->Prop,Shut (∀ a w,S w->(S w->wpAnyH P md ops Q S fuel (listed.setIfInBounds i true) a w)->K a w)->Oper.wp P oi a w K Q)
  (k:∀ K:Act->World->Prop,Shut (∀ a w,S w->(S w->wpAnyH P md ops Q S fuel (listed.setIfInBounds j true) a w)->K a w)->Oper.wp P oj a w K Q):wpAnyH P md ops Q S (fuel+1) listed a w:=by
 subst hL
 refine wpAnyH_ready (rs:=[i,j]) hr (by simp) (AllReadyH.cons (by simpa using hi) (fun K hK=>?_) (AllReadyH.cons (by simpa using hj) (fun K hK=>?_) AllReadyH.nil))
 ·rw[if_pos hw]
  exact h K hK
 ·rw[if_pos hv]
  exact k K hK
theorem yu (hL:L.toArray=ops)(i:Nat){oi:Oper}(hi:L[i]?=some oi)(hr:Region.ready md L.toArray listed=[i])(hw:Region.wanted oi (yielded L.toArray a.tmps)=true)
  (h:∀ K:Act->World->Prop,Shut (∀ a w,S w->(S w->wpAnyH P md ops Q S fuel (listed.setIfInBounds i true) a w)->K a w)->if Region.wanted oi (yielded L.toArray a.tmps)=true then Oper.wp P oi a w K Q else True):wpAnyH P md ops Q S (fuel+1) listed a w :=
 cN hL i hi hr hw (fun K hK=>by
  have:=h K hK
  rwa [if_pos hw] at this)
end
end Pg
def Pg.PSmall (p:Pk):Prop:=p.deps.length<=1000/\(∀ d∈p.deps,d.length<=1000/\ASmall d)/\p.confl.length<=1000/\ASmall p.confl/\p.prov.length<=1000
theorem Pg.e9 {u:World}{b:Nat}{x0 x1 x2 x3 x4 x5:Value}(h:u.cell? ⟨b,0,none⟩=some x0/\u.cell? ⟨b,1,none⟩=some x1/\u.cell? ⟨b,2,none⟩=some x2/\u.cell? ⟨b,3,none⟩=some x3/\u.cell? ⟨b,4,none⟩=some x4/\u.cell? ⟨b,5,none⟩=some x5):u.cell? ⟨b,0,none⟩=some x0/\u.cell? ⟨b,1,none⟩=some x1/\u.cell? ⟨b,3,none⟩=some x3/\u.cell? ⟨b,5,none⟩=some x5:=⟨h.1,h.2.1,h.2.2.2.1,h.2.2.2.2.2⟩
attribute [local go_sem ↓] Go.wp_at_zero Go.wp_at_succ
attribute [local go_sem] Pg.av
theorem Pg.afd {u:World}{b:Nat}(h:u.heap[b]?=some (.cells zeroC 68 (0,0)))(p:Pk)(D C G:Option Addr)(dc cc gc:Nat){tmps:Array Value}(ht:tmps.getD 2 undef=.pointer (some ⟨b,0,none⟩)) :
  (results Tryz.f43 tmps).run Tryz.prog (stP u b p D C G dc cc gc)=.ok (.agg (pCells p D C G dc cc gc)) (stP u b p D C G dc cc gc):=by
 obtain⟨g0,g1,g2,g3,g4,g5⟩:=aS (jY h p D C G dc cc gc)
 have hr:Tryz.f43.results=#[.cell 2 68]:=Tryz.results43
 simp only[results,hr]
 generalize stP u b p D C G dc cc gc=V at *
 simp only[Array.getD_eq_getD_getElem?] at ht ⊢
 simp[go_sem,ht,g0,g1,g2,g3,g4,g5]
theorem adJ (p:Pk)(D C G:Option Addr)(dn dc cn cc gn gc:Nat)(w:World)(hd:Pg.DRow w D p.deps)(hdn:p.deps.length=dn)(hc:ARow w C p.confl)(hcn:p.confl.length=cn)(hg:GRow w G p.prov)(hgn:p.prov.length=gn)(hf:PSmall p) :
  Calls Tryz.prog 43 #[.agg #[.string ⟨p.name.toArray⟩,.string ⟨p.ver.toArray⟩,.slice D dn dc,.slice C cn cc,.slice G gn gc,.float .f64 p.wt]] w fun e w'=>∃ D' dc' C' cc' G' gc',e=.returned (.agg #[.string ⟨p.name.toArray⟩,.string ⟨p.ver.toArray⟩,.slice D' dn dc',.slice C' cn cc',.slice G' gn gc',.float .f64 p.wt])/\PRows w.heap.size w' p D' C' G'/\Below w.heap.size w w':=by
 obtain⟨nm,vr,deps,confl,prov,wt⟩:=p
 obtain⟨f1,f2,f3,f4,f5⟩:=hf
 dsimp only at hd hdn hc hcn hg hgn f1 f2 f3 f4 f5 ⊢
 rw[hdn] at f1
 rw[hcn] at f3
 rw[hgn] at f5
 obtain⟨b,hb⟩:=ex w.heap.size
 obtain⟨V,hV⟩:=ex (w.alloc (.cells #[.string ⟨nm.toArray⟩,.string ⟨vr.toArray⟩,.slice D dn dc,.slice C cn cc,.slice G gn gc,.float .f64 wt] 60))
 have bc:V.heap.size=b+1:=by rw[<-hV,<-hb];simp
 obtain⟨U,hU⟩:=ex (V.alloc (.cells zeroC 68))
 have HV:Hid (Below w.heap.size w V):=ai hV
 have bp:Hid (Below V.heap.size V U):=ai hU
 have HU:Hid (Below w.heap.size w U):=bt HV.out bp.out
 have HY:=zh (fun W (h:Below U.heap.size U W)=>aw hV (bt bp.out h))
 have HZ:Hid (∀ W,Below U.heap.size U W->W.heap[b+1]?=some (.cells zeroC 68 (0,0))):=fun W h=>(h.block _ (by rw[<-hU,<-bc];simp)).trans (by rw[<-hU,<-bc];exact heap_alloc_new V _)
 have aY:Hid (U.heap.size=b+2):=by show _=_;rw[<-hU];simp[bc]
 have bH:Hid (w.heap.size=b):=hb
 rw[hb] at HY
 have HD:Hid (Pg.DRow U D deps):=aJ hd HU.out
 have HG:Hid (GRow U G prov):=Rg.aj hg HU.out
 have HC:Hid (∀ W,Below U.heap.size U W->Calls Tryz.prog 82 #[.slice C cn cc] W fun e w'=>∃ C2 d,e=.returned (.slice C2 cn d)/\ARow w' C2 confl/\(∀ a,C2=some a->W.heap.size<=a.block)/\Below W.heap.size W w'):=fun W h=>oQ C cn cc confl W hcn (ay (ay hc HU.out) h) f3 f4
 have bk:=zh hdn
 have bI:=zh hcn
 have bl:=zh hgn
 have bd:=zh f2
 have a3:Hid (Below U.heap.size U U.drew):=(Below.refl _ _).drew
 obtain⟨y0,y1,y2,y3,y4,y5⟩:=HY.out _ a3.out
 clear hd hdn hc hcn hg hgn f2 f4
 have aI:Hid (Below U.heap.size U (U.alloc (.cells #[.string ⟨#[]⟩,.string ⟨#[]⟩,.slice none 0 0,.slice none 0 0,.slice none 0 0,.float .f64 0] 68)).drew):=((Below.refl _ _).alloc (Nat.le_refl _) _).drew
 have a4:Hid (Below U.heap.size U (U.alloc (.cells #[.string ⟨#[]⟩,.string ⟨#[]⟩,.slice none 0 0,.slice none 0 0,.slice none 0 0,.float .f64 0] 68))):=(Below.refl _ _).alloc (Nat.le_refl _) _
 have bq:Hid (∀ W,Below (U.alloc (.cells zeroC 68)).drew.heap.size (U.alloc (.cells zeroC 68)).drew W->W.heap[U.heap.size]?=some (.cells zeroC 68 (0,0))):=fun W h=>(h.block _ (by simp)).trans (heap_alloc_new U (.cells zeroC 68))
 go_enter Tryz.func43,Tryz.ntmps43
 go_upto_region 1 with fail
 clear hV hU hb bc
 go_cut [3] (fun v wx=>Hid (CutTo 68 U b nm vr cn confl wt v wx))
 case first =>
  go_region_held3 (fun u=>u.cell? ⟨b,0,none⟩=some (.string ⟨nm.toArray⟩)/\u.cell? ⟨b,1,none⟩=some (.string ⟨vr.toArray⟩)/\u.cell? ⟨b,3,none⟩=some (.slice C cn cc)/\u.cell? ⟨b,5,none⟩=some (.float .f64 wt))
   (first
    | with_reducible exact e9 (HY.out _ a3.out)
    | with_reducible exact e9 (HY.out _ aD.out)
    | with_reducible exact e9 (HY.out _ (aD.out.alloc aD.out.size _))
    | with_reducible exact e9 (HY.out _ aI.out)
    | with_reducible exact e9 (HY.out _ be.out)
    | with_reducible exact e9 (HY.out _ a4.out)
    | exact e9 (HY.out _ (Below.setCell (Below.setCell (Below.setCell (Below.setCell (Below.setCell (Below.setCell be.out (p:=⟨U.heap.size,0,none⟩) (Nat.le_refl _) _) (p:=⟨U.heap.size,1,none⟩) (Nat.le_refl _) _) (p:=⟨U.heap.size,2,none⟩) (Nat.le_refl _) _) (p:=⟨U.heap.size,3,none⟩) (Nat.le_refl _) _) (p:=⟨U.heap.size,4,none⟩) (Nat.le_refl _) _) (p:=⟨U.heap.size,5,none⟩) (Nat.le_refl _) _))
    | (go_keep))
   (first
    | (go_at_call 82;refine (HC.out _ (by first | with_reducible exact a3.out | with_reducible exact aI.out)).mono ?_;rintro _ u3 ⟨C2,al,rfl,bB,bC,a0⟩;have br:=zh bB;have bd:=zh bC;(first
      | (have ax:Below U.drew.heap.size U.drew u3:=(by with_reducible exact a0);have aD:=zh (bt a3.out ax);clear ax)
      | (have ax:Below (U.alloc (.cells #[.string ⟨#[]⟩,.string ⟨#[]⟩,.slice none 0 0,.slice none 0 0,.slice none 0 0,.float .f64 0] 68)).drew.heap.size (U.alloc (.cells #[.string ⟨#[]⟩,.string ⟨#[]⟩,.slice none 0 0,.slice none 0 0,.slice none 0 0,.float .f64 0] 68)).drew u3:=(by with_reducible exact a0);have be:=zh (bt aI.out ax);have aK:=zh (bq.out _ ax);clear ax;obtain⟨e0,e1,e2,e3,e4,e5⟩:=aS aK.out;have z0:=aC aK.out 0;have z1:=aC aK.out 1;have z2:=aC aK.out 2;have z3:=aC aK.out 3;have z4:=aC aK.out 4;have z5:=aC aK.out 5));clear bB bC a0))
  ·go_wp2_with fail
   go_meet
   case rel=>exact adH aY.out aD.out br.out (fun a ha=>Nat.le_trans (Nat.le_of_eq aY.out.symm) (bd.out a ha)) (HZ.out _ aD.out)
  ·go_wp2_with fail
   go_meet
   case rel=>exact adI aY.out aY.out be.out br.out (fun a ha=>Nat.le_trans (by have:=aY.out;simp;omega) (bd.out a ha)) (HZ.out _ be.out) aK.out (afc u3 U.heap.size _ _ _ _ _ _) (abH (Below.refl _ _) (Nat.le_refl _) _ _ _ _ _ _) (adG aK.out _ _ _ _ _ _)
 case rest =>
 obtain⟨b2,C2,al,rfl,a0,ba,bD,bo,aQ⟩:=hcut
 have ao:Hid (U.heap.size<=b2/\b2<wc.heap.size):=⟨a0,ba⟩
 have bs:Hid (U.heap.size<=wc.heap.size):=bo.size
 have bJ:=zh bD
 have bK:=zh bo
 have bu:=zh aQ
 clear a0 ba bD bo aQ y0 y1 y2 y3 y4 y5 a3 aI a4 HC bq
 go_wp2_with fail
 go_loopw [4] (fun i wr=>∃ (k:Nat) (v:Value) (ds:List Desc),k<=dn/\i=.int .i64 k/\Hid (wr.heap[b2]?=some (.cells #[.string ⟨nm.toArray⟩,.string ⟨vr.toArray⟩,v,.slice C2 cn al,.slice none 0 0,.float .f64 wt] 68 (0,0)))/\Hid (DOwnF wr wc.heap.size 81 v ds (deps.take k))/\Hid (Below U.heap.size U wr)/\Hid (But (some b2) wc wr)) (fun i _=>dn-(intOf i).toNat)
 case atStart=>exact⟨0,.slice none 0 0,[],Nat.zero_le _,rfl,bJ,uQ _ _ _,bK,qS (Below.refl _ _)⟩
 case round =>
  obtain⟨k,v,ds,hk,rfl,HH,HO,a1,aV⟩:=hrel
  obtain⟨y0,y1,y2,y3,y4,y5⟩:=HY.out _ a1.out
  by_cases bm:k<dn
  ·have aZ:k<deps.length:=by rw[bk.out];exact bm
   obtain⟨ad,C1,m,d,rfl,hm,hs,hc⟩:=dB HD.out k aZ
   have q0:=hc _ a1.out
   have bf:=bd.out _ (List.getElem_mem aZ)
   have aT:deps.take (k+1)=deps.take k++[deps[k]]:=by rw[List.take_succ_eq_append_getElem aZ]
   have bg:Hid (ds.length+1<=1000000):=by
    have h1:=HO.out.2.1.1
    rw[List.length_take] at h1
    show _<=_
    omega
   obtain⟨a,ha⟩:=ex (deps[k])
   rw[ha] at hm hs bf aT
   have bh:=zh aT
   have HM:=zh hm
   have bL:Hid (∀ W,Below wr.heap.size wr W->Calls Tryz.prog 82 #[.slice C1 m d] W fun e w'=>∃ C2 d,e=.returned (.slice C2 m d)/\ARow w' C2 a/\(∀ x,C2=some x->W.heap.size<=x.block)/\Below W.heap.size W w'):=fun W h=>oQ C1 m d a W hm (ay (ay hs a1.out) h) (by rw[<-hm];exact bf.1) bf.2
   have am:Hid (∀ W,Below U.heap.size U W->W.cell? ⟨b,2,none⟩=some (.slice (some ad) dn dc)/\W.cell? (ad.add k)=some (.slice C1 m d)):=fun W h=>⟨(HY.out _ h).2.2.1,hc _ h⟩
   have aN:Hid (∀ W,Below wr.heap.size wr W->W.heap[b2]?=some (.cells #[.string ⟨nm.toArray⟩,.string ⟨vr.toArray⟩,v,.slice C2 cn al,.slice none 0 0,.float .f64 wt] 68 (0,0))):=fun W h=>rr HH.out h (block_lt HH.out)
   have bi:Hid (Below wr.heap.size wr wr.drew):=(Below.refl _ _).drew
   have a5:Hid (Below U.heap.size U wr.drew):=a1.out.drew
   obtain⟨e0,e1,e2,e3,e4,e5⟩:=aS (aN.out _ bi.out)
   obtain⟨q2,q3⟩:=am.out _ a5.out
   clear ha hm hs bf aT hc y0 y1 y3 y4 y5 e0 e1 e3 e4 e5
   go_wp2_with fail
   go_region_law
    (first
     | (refine Pg.rS sliceD6 uS pO (by rfl) (.tmp 24) (.tmp 31) (by rfl) wc.heap.size v ds [(C3,m,c3)] (by rfl) (bW HO.out af.out).1 (bW HO.out af.out).2.2.2 _ _ (by rfl) (Rg.az _ _ [(C3,m,c3)] _ (by rfl)) (Nat.zero_lt_succ _) bg.out aE.out ?_;intro v5 W5 ar bE an bb;obtain⟨A5,n5,k5,rfl⟩:=oR ar;have aO:=zh (uR (bW HO.out af.out) (ay bv.out ((Below.refl _ _).alloc (Nat.le_refl _) _)) HM.out bw.out ar bE an);have ap:=zh (Rg.aA (bW HO.out af.out).1 aE.out an);have ah:=zh (j4 (aN.out _ af.out) an (pS (bW HO.out af.out).1 ao.out.2));have ae:=zh (aP.out.trans (ap.out.mono bs.out));have ak:Hid (Below U.heap.size U (W5.setCell ⟨b2,2,none⟩ (.slice A5 n5 k5))):=(ae.out.setCell ao.out.1 _);obtain⟨x0,x1,x2,x3,x4,x5⟩:=aS ah.out;have z2:=aC ah.out 2;clear ar bE an bb x0 x1 x3 x4 x5)
     | (rw[if_pos (by rfl)];go_simp;go_at_call 82;refine (bL.out _ bi.out).mono ?_;rintro _ u3 ⟨C3,c3,rfl,bF,bG,ax⟩;have aD:=zh (bt bi.out ax);have aU:=zh (bt a5.out ax);have af:Hid (Below wr.heap.size wr (u3.alloc (.cells #[.slice C3 m c3] 81))):=aD.out.alloc aD.out.size _;have aP:Hid (Below U.heap.size U (u3.alloc (.cells #[.slice C3 m c3] 81))):=aU.out.alloc aU.out.size _;have bv:=zh bF;have bw:Hid (∀ a,C3=some a->wc.heap.size<=a.block):=(fun a ha=>Nat.le_trans (Nat.le_trans aV.out.1 bi.out.size) (bG a ha));have aE:Hid (wc.heap.size<=(u3.alloc (.cells #[.slice C3 m c3] 81)).heap.size):=Nat.le_trans aV.out.1 af.out.size;obtain⟨_,_,g2,_,_,_⟩:=aS (aN.out _ aD.out);obtain⟨_,_,g3,_,_,_⟩:=aS (aN.out _ af.out);clear bF bG ax;go_wp2_with fail))
   all_goals (
    have aq:=zh (nd (j:=2) (x:=.slice A5 n5 k5) (pT aV.out ((af.out.mono aV.out.1).trans ap.out)))
    have a6:Hid ((W5.setCell ⟨b2,2,none⟩ (.slice A5 n5 k5)).heap[b2]?=some (.cells #[.string ⟨nm.toArray⟩,.string ⟨vr.toArray⟩,.slice A5 n5 k5,.slice C2 cn al,.slice none 0 0,.float .f64 wt] 68 (0,0))):=(aX ah.out).trans rfl
    have a7:Hid (DOwnF (W5.setCell ⟨b2,2,none⟩ (.slice A5 n5 k5)) wc.heap.size 81 (.slice A5 n5 k5) (ds++[(C3,m,c3)]) (deps.take (k+1))):=by
     show DOwnF _ _ _ _ _ _
     rw[bh.out]
     exact adE aO.out ao.out.2 (vd ah.out (oR HO.out.1) (isl _ _ _) (isl _ _ _))
    generalize W5.setCell ⟨b2,2,none⟩ (.slice A5 n5 k5)=W6 at *
    clear aO ap ah ae aD af aU aP bv bw aE g2 g3 x2 z2 HH HO aV
    go_wp2_with fail
    go_roundw
    case rel=>exact⟨k+1,.slice A5 n5 k5,_,by omega,by go_num,a6,a7,ak,aq⟩
    case measure=>simp[intOf];omega)
  ·obtain rfl:k=dn:=by omega
   have ho:=HO.out
   rw[List.take_of_length_le (by rw[bk.out];exact Nat.le_refl _)] at ho
   obtain⟨D2,au,rfl,hr,hf⟩:=down_row ho
   have bM:=zh hr
   have bn:=zh hf
   have a8:Hid (wc.heap.size<=wr.heap.size):=aV.out.1
   clear ho hr hf HO
   go_wp2_with fail
   clear y0 y1 y2 y3 y4 y5
   obtain⟨z1,bO⟩:∃ z1,z1=wr:=⟨_,rfl⟩
   subst bO
   go_loopw [5] (fun i ws=>∃ (j:Nat) (g:Value),j<=gn/\i=.int .i64 j/\Hid (ws.heap[b2]?=some (.cells #[.string ⟨nm.toArray⟩,.string ⟨vr.toArray⟩,.slice D2 deps.length au,.slice C2 cn al,g,.float .f64 wt] 68 (0,0)))/\Hid (Rg.Own encG 2 ws z1.heap.size 135 g (prov.take j))/\Hid (Below U.heap.size U ws)/\Hid (But (some b2) z1 ws)) (fun i _=>gn-(intOf i).toNat)
   case atStart=>exact⟨0,.slice none 0 0,Nat.zero_le _,rfl,HH,Rg.aB _ _ _,a1,qS (Below.refl _ _)⟩
   case round =>
    obtain⟨j,g,hj,rfl,a2,aF,aR,av⟩:=hrel
    obtain⟨y0,y1,y2,y3,y4,y5⟩:=HY.out _ aR.out
    by_cases bm:j<gn
    ·have aZ:j<prov.length:=by rw[bl.out];exact bm
     obtain⟨ad,rfl,hc⟩:=dJ HG.out j aZ
     have aT:prov.take (j+1)=prov.take j++[prov[j]]:=by rw[List.take_succ_eq_append_getElem aZ]
     have bg:Hid ((prov.take j).length+1<=1000000):=by
      rw[List.length_take]
      show _<=_
      omega
     obtain⟨a,ha⟩:=ex (prov[j])
     rw[ha] at hc aT
     obtain⟨aG,aH⟩:=a
     dsimp only at hc
     have bh:=zh aT
     have am:=zh (fun W (h:Below U.heap.size U W)=>And.intro (HY.out _ h).2.2.2.2.1 (hc _ h))
     have a9:Hid (Below wr.heap.size wr (wr.alloc (.cells #[.string ⟨aG.toArray⟩,.string ⟨aH.toArray⟩] 135))):=(Below.refl _ _).alloc (Nat.le_refl _) _
     have ab:Hid (Below wr.heap.size wr (wr.alloc (.cells #[.string ⟨aG.toArray⟩,.string ⟨aH.toArray⟩] 135)).drew):=a9.out.drew
     have aL:Hid (Below U.heap.size U (wr.alloc (.cells #[.string ⟨aG.toArray⟩,.string ⟨aH.toArray⟩] 135))):=aR.out.alloc aR.out.size _
     have ac:Hid (Below U.heap.size U (wr.alloc (.cells #[.string ⟨aG.toArray⟩,.string ⟨aH.toArray⟩] 135)).drew):=aL.out.drew
     have aE:Hid (z1.heap.size<=(wr.alloc (.cells #[.string ⟨aG.toArray⟩,.string ⟨aH.toArray⟩] 135)).heap.size):=Nat.le_trans av.out.1 a9.out.size
     have aN:Hid (∀ W,Below wr.heap.size wr W->W.heap[b2]?=some (.cells #[.string ⟨nm.toArray⟩,.string ⟨vr.toArray⟩,.slice D2 deps.length au,.slice C2 cn al,g,.float .f64 wt] 68 (0,0))):=fun W h=>rr a2.out h (block_lt a2.out)
     have bx:Hid (U.heap.size<=z1.heap.size):=a1.out.size
     obtain⟨_,_,_,_,e4,_⟩:=aS a2.out
     obtain⟨_,_,_,_,g4,_⟩:=aS (aN.out _ a9.out)
     obtain⟨q2,q3,q4⟩:=am.out _ aR.out
     obtain⟨r2,r3,r4⟩:=am.out _ aL.out
     clear ha hc aT y0 y1 y2 y3 y5
     go_wp2_with fail
     clear y4
     refine dF (fun ops hops=>?_)
     have aa:=zh hops
     have ag:=zh (gS hops (by kernel_rfl))
     have bz:=jm hops (n:=19) (by rfl)
     clear hops
     refine wp_region_held_drew (S:=fun u=>u.cell? ⟨b,4,none⟩=some (.slice (some ad) gn gc)/\u.cell? (ad.add (j*2))=some (.string ⟨aG.toArray⟩)/\u.cell? ⟨(ad.add (j*2)).block,(ad.add (j*2)).off+1,none⟩=some (.string ⟨aH.toArray⟩)) (by kernel_rfl) ?_ (fun hH0=>?_)
     ·exact am.out _ aR.out.drew
     rw[bz]
     clear bz
     refine mv (by assumption) aa.out ag.out 0 ?_
     try simp only[Act.put,mvS]
     refine mv (by assumption) aa.out ag.out 2 ?_
     try simp only[Act.put,mvS]
     refine mv (by assumption) aa.out ag.out 3 ?_
     try simp only[Act.put,mvS]
     refine mv (by assumption) aa.out ag.out 4 ?_
     try simp only[Act.put,mvS]
     refine mv (by assumption) aa.out ag.out 5 ?_
     try simp only[Act.put,mvS]
     refine mv (by assumption) aa.out ag.out 6 ?_
     try simp only[Act.put,mvS]
     refine mv (by assumption) aa.out ag.out 7 ?_
     try simp only[Act.put,mvS]
     refine mv (by assumption) aa.out ag.out 8 ?_
     try simp only[Act.put,mvS]
     refine mv (by assumption) aa.out ag.out 9 ?_
     try simp only[Act.put,mvS]
     refine mv (by assumption) aa.out ag.out 10 ?_
     try simp only[Act.put,mvS]
     refine mv (by assumption) aa.out ag.out 11 ?_
     try simp only[Act.put,mvS]
     refine mv (by assumption) aa.out ag.out 12 ?_
     try simp only[Act.put,mvS]
     refine mv (by assumption) aa.out ag.out 13 ?_
     try simp only[Act.put,mvS]
     refine mv (by assumption) aa.out ag.out 14 ?_
     try simp only[Act.put,mvS]
     refine afW aa.out 1 15 rfl rfl (by kernel_rfl) (by rfl) (by rfl) (fun K hK=>?_) (fun K hK=>?_)
     ·go_simp
      refine hK.out _ _ ?_ (fun hH1=>?_)
      ·exact am.out _ aR.out.drew
      clear hK K hH1
      try simp only[Act.put,mvS]
      refine cN aa.out 15 rfl (by kernel_rfl) (by rfl) (fun K hK=>?_)
      go_simp
      refine hK.out _ _ ?_ (fun hH2=>?_)
      ·exact am.out _ ac.out
      clear hK K hH2
      try simp only[Act.put,mvS]
      refine yu aa.out 16 rfl (by kernel_rfl) (by rfl) (fun K hK=>?_)
      refine Rg.cH sliceG (by rfl) (.tmp 42) (.tmp 56) (by rfl) z1.heap.size g (prov.take j) [(⟨aG,aH⟩:Gv)] (by rfl) (Rg.own_below aF.out ab.out) _ _ (by rfl) (Rg.az wr _ [(⟨aG,aH⟩:Gv)] _ (by rfl)) (Nat.zero_lt_succ _) bg.out aE.out ?_
      intro v5 W5 ar an bb
      obtain⟨A5,n5,k5,rfl⟩:=oR ar
      have aO:=zh ar
      have ap:=zh (Rg.aA (Rg.own_below aF.out ab.out) aE.out an)
      have ah:=zh (j4 (aN.out _ ab.out) an (pS (Rg.own_below aF.out ab.out) (Nat.lt_of_lt_of_le ao.out.2 a8.out)))
      have ae:=zh (ac.out.trans (ap.out.mono bx.out))
      have ak:Hid (Below U.heap.size U (W5.setCell ⟨b2,4,none⟩ (.slice A5 n5 k5))):=(ae.out.setCell ao.out.1 _)
      obtain⟨x0,x1,x2,x3,x4,x5⟩:=aS ah.out
      have z4:=aC ah.out 4
      clear ar an bb x0 x1 x2 x3 x5
      refine hK.out _ _ ?_ (fun hH3=>?_)
      ·exact am.out _ ae.out
      clear hK K
      try simp only[Act.put,mvS]
      refine mv (by assumption) aa.out ag.out 17 ?_
      try simp only[Act.put,mvS]
      clear hH3
      refine cN aa.out 18 rfl (by kernel_rfl) (by rfl) (fun K hK=>?_)
      go_simp
      refine hK.out _ _ ?_ (fun hH4=>?_)
      ·exact am.out _ ak.out
      clear hK K hH4
      try simp only[Act.put,mvS]
      refine gr aa.out (by kernel_rfl) ?_
      have aq:=zh (nd (j:=4) (x:=.slice A5 n5 k5) (pT av.out ((ab.out.mono av.out.1).trans ap.out)))
      have a6:Hid ((W5.setCell ⟨b2,4,none⟩ (.slice A5 n5 k5)).heap[b2]?=some (.cells #[.string ⟨nm.toArray⟩,.string ⟨vr.toArray⟩,.slice D2 deps.length au,.slice C2 cn al,.slice A5 n5 k5,.float .f64 wt] 68 (0,0))):=(aX ah.out).trans rfl
      have a7:Hid (Rg.Own encG 2 (W5.setCell ⟨b2,4,none⟩ (.slice A5 n5 k5)) z1.heap.size 135 (.slice A5 n5 k5) (prov.take (j+1))):=by
       show Rg.Own _ _ _ _ _ _ _
       rw[bh.out]
       exact pR aO.out (Nat.lt_of_lt_of_le ao.out.2 a8.out)
      generalize W5.setCell ⟨b2,4,none⟩ (.slice A5 n5 k5)=W6 at *
      clear aO ap ah ae a9 aL ab ac aE e4 g4 q2 q3 q4 r2 r3 r4 x4 z4 a2 aF av
      go_wp2_with fail
      go_roundw
      case rel=>exact⟨j+1,.slice A5 n5 k5,by omega,by go_num,a6,a7,ak,aq⟩
      case measure=>simp[intOf];omega
     ·go_simp
      refine hK.out _ _ ?_ (fun hH5=>?_)
      ·exact am.out _ ac.out
      clear hK K hH5
      try simp only[Act.put,mvS]
      refine cN aa.out 1 rfl (by kernel_rfl) (by rfl) (fun K hK=>?_)
      go_simp
      refine hK.out _ _ ?_ (fun hH6=>?_)
      ·exact am.out _ ac.out
      clear hK K hH6
      try simp only[Act.put,mvS]
      refine yu aa.out 16 rfl (by kernel_rfl) (by rfl) (fun K hK=>?_)
      refine Rg.cH sliceG (by rfl) (.tmp 42) (.tmp 56) (by rfl) z1.heap.size g (prov.take j) [(⟨aG,aH⟩:Gv)] (by rfl) (Rg.own_below aF.out ab.out) _ _ (by rfl) (Rg.az wr _ [(⟨aG,aH⟩:Gv)] _ (by rfl)) (Nat.zero_lt_succ _) bg.out aE.out ?_
      intro v5 W5 ar an bb
      obtain⟨A5,n5,k5,rfl⟩:=oR ar
      have aO:=zh ar
      have ap:=zh (Rg.aA (Rg.own_below aF.out ab.out) aE.out an)
      have ah:=zh (j4 (aN.out _ ab.out) an (pS (Rg.own_below aF.out ab.out) (Nat.lt_of_lt_of_le ao.out.2 a8.out)))
      have ae:=zh (ac.out.trans (ap.out.mono bx.out))
      have ak:Hid (Below U.heap.size U (W5.setCell ⟨b2,4,none⟩ (.slice A5 n5 k5))):=(ae.out.setCell ao.out.1 _)
      obtain⟨x0,x1,x2,x3,x4,x5⟩:=aS ah.out
      have z4:=aC ah.out 4
      clear ar an bb x0 x1 x2 x3 x5
      refine hK.out _ _ ?_ (fun hH7=>?_)
      ·exact am.out _ ae.out
      clear hK K
      try simp only[Act.put,mvS]
      refine mv (by assumption) aa.out ag.out 17 ?_
      try simp only[Act.put,mvS]
      clear hH7
      refine cN aa.out 18 rfl (by kernel_rfl) (by rfl) (fun K hK=>?_)
      go_simp
      refine hK.out _ _ ?_ (fun hH8=>?_)
      ·exact am.out _ ak.out
      clear hK K hH8
      try simp only[Act.put,mvS]
      refine gr aa.out (by kernel_rfl) ?_
      have aq:=zh (nd (j:=4) (x:=.slice A5 n5 k5) (pT av.out ((ab.out.mono av.out.1).trans ap.out)))
      have a6:Hid ((W5.setCell ⟨b2,4,none⟩ (.slice A5 n5 k5)).heap[b2]?=some (.cells #[.string ⟨nm.toArray⟩,.string ⟨vr.toArray⟩,.slice D2 deps.length au,.slice C2 cn al,.slice A5 n5 k5,.float .f64 wt] 68 (0,0))):=(aX ah.out).trans rfl
      have a7:Hid (Rg.Own encG 2 (W5.setCell ⟨b2,4,none⟩ (.slice A5 n5 k5)) z1.heap.size 135 (.slice A5 n5 k5) (prov.take (j+1))):=by
       show Rg.Own _ _ _ _ _ _ _
       rw[bh.out]
       exact pR aO.out (Nat.lt_of_lt_of_le ao.out.2 a8.out)
      generalize W5.setCell ⟨b2,4,none⟩ (.slice A5 n5 k5)=W6 at *
      clear aO ap ah ae a9 aL ab ac aE e4 g4 q2 q3 q4 r2 r3 r4 x4 z4 a2 aF av
      go_wp2_with fail
      go_roundw
      case rel=>exact⟨j+1,.slice A5 n5 k5,by omega,by go_num,a6,a7,ak,aq⟩
      case measure=>simp[intOf];omega
    ·obtain rfl:j=gn:=by omega
     have ho:=aF.out
     rw[List.take_of_length_le (by rw[bl.out];exact Nat.le_refl _)] at ho
     obtain⟨G2,aW,rfl,hr,hf⟩:=uP ho
     have bN:=zh hr
     have bA:=zh hf
     have aM:Hid (wr.heap[b+1]?=some (.cells zeroC 68 (0,0))):=HZ.out _ aR.out
     obtain⟨c0,c1,c2,c3,c4,c5⟩:=aS a2.out
     obtain⟨k0,k1,k2,k3,k4,k5⟩:=aS aM.out
     have z0:=aC aM.out 0
     have z1:=aC aM.out 1
     have z2:=aC aM.out 2
     have z3:=aC aM.out 3
     have z4:=aC aM.out 4
     have z5:=aC aM.out 5
     obtain rfl:confl.length=cn:=bI.out
     clear ho hr hf aF y0 y1 y2 y3 y5
     go_wp2_with fail
     (try simp only[Exit.inBlock,Exit.then])
     refine bodyPost_ret (afd aM.out ⟨nm,vr,deps,confl,prov,wt⟩ D2 C2 G2 au al aW rfl) rfl ?_
     have h1:=ao.out.1
     have h2:=ao.out.2
     have h3:=aY.out
     have h4:=a8.out
     have h5:=bH.out
     have e1:=bk.out
     have e3:=bl.out
     have bj:=gq wr (b+1) ⟨nm,vr,deps,confl,prov,wt⟩ D2 C2 G2 au al aW
     have t1:Pg.DRowF wc.heap.size (stP wr (b+1) ⟨nm,vr,deps,confl,prov,wt⟩ D2 C2 G2 au al aW) D2 deps:=(lh (lh bM.out bn.out av.out h2 (vd HH.out (isl _ _ _) (isl _ _ _) (isl _ _ _))) bn.out bj (show b+1<wc.heap.size by omega) (dE aM.out))
     have t2:ARow (stP wr (b+1) ⟨nm,vr,deps,confl,prov,wt⟩ D2 C2 G2 au al aW) C2 confl:=(bu.out _ (Nat.le_trans h4 (Nat.le_trans av.out.1 bj.1)) (fun i hi n2 n1=>(bj.2 i (Nat.lt_of_lt_of_le hi (Nat.le_trans h4 av.out.1)) (fun e=>n1 (Option.some.inj e).symm)).trans ((av.out.2 i (Nat.lt_of_lt_of_le hi h4) (fun e=>n2 (Option.some.inj e).symm)).trans (aV.out.2 i hi (fun e=>n2 (Option.some.inj e).symm))))).1
     have t3:GRow (stP wr (b+1) ⟨nm,vr,deps,confl,prov,wt⟩ D2 C2 G2 au al aW) G2 prov:=cq bN.out bj (fun _ a ha e=>by have:=bA.out a ha;have:=Option.some.inj e;omega)
     have t4:Below w.heap.size w (stP wr (b+1) ⟨nm,vr,deps,confl,prov,wt⟩ D2 C2 G2 au al aW):=iF (bt HU.out aR.out) (show w.heap.size<=b+1 by omega) _ _ _ _ _ _ _
     have t5:wc.heap.size ≥ w.heap.size:=by have:=HU.out.size;have:=bs.out;omega
     have t6:∀ a,C2=some a->b+2<=a.block:=(bu.out wc (Nat.le_refl _) (fun _ _ _ _=>rfl)).2
     refine⟨D2,au,C2,al,G2,⟨aW,by rw[<-e1,<-e3]⟩,⟨⟨gg t1 t5,fun a ha=>Nat.le_trans t5 (bn.out a ha)⟩,⟨t2,fun a ha=>by have:=t6 a ha;omega⟩,t3,fun a ha=>by have:=bA.out a ha;omega⟩,t4⟩
end
section
open Go.RowKit Rs At Pg Rp
attribute [local go_sem ↓] Go.wp_at_zero Go.wp_at_succ
attribute [local go_sem] Pg.av
theorem Rp.or2 (x y:Int):orL [x,y]=Vm.both x y:=by rw[orL,orL,orL,g9]
theorem iI (nm vr nm2 vr2:List UInt8)(D C G D2 C2 G2:Option Addr)(dn dc cn cc gn gc dn2 dc2 cn2 cc2 gn2 gc2 wt wt2:Nat)(w:World)(hw:MaxOk w)(h1:Vm.check vr=0)(h2:Vm.check vr2=0) :
  Calls Tryz.prog 107 #[.agg #[.string ⟨nm.toArray⟩,.string ⟨vr.toArray⟩,.slice D dn dc,.slice C cn cc,.slice G gn gc,.float .f64 wt],.agg #[.string ⟨nm2.toArray⟩,.string ⟨vr2.toArray⟩,.slice D2 dn2 dc2,.slice C2 cn2 cc2,.slice G2 gn2 gc2,.float .f64 wt2]] w fun e w'=>e=.returned (.int .i64 (Vm.both (Lib.compareBytes nm nm2) (Vm.cmpV vr vr2)))/\Below w.heap.size w w':=by
 obtain⟨W1,ae⟩:=ex (w.alloc (.cells #[.string ⟨nm.toArray⟩,.string ⟨vr.toArray⟩,.slice D dn dc,.slice C cn cc,.slice G gn gc,.float .f64 wt] 68))
 obtain⟨W2,af⟩:=ex (W1.alloc (.cells #[.string ⟨nm2.toArray⟩,.string ⟨vr2.toArray⟩,.slice D2 dn2 dc2,.slice C2 cn2 cc2,.slice G2 gn2 gc2,.float .f64 wt2] 68))
 have ah:=ai ae
 have aa:=ai af
 have HB:Hid (Below w.heap.size w W2):=bt ah aa
 have aj:Hid (∀ u,Below W2.heap.size W2 u->Below w.heap.size w u):=fun u h=>bt HB.out h
 have am:Hid (∀ u,Below W2.heap.size W2 u->MaxOk u):=fun u h=>ag hw (aj.out u h)
 obtain⟨b,hb⟩:=ex w.heap.size
 obtain⟨b1,al⟩:=ex W1.heap.size
 have ab:Hid (∀ u,Below W2.heap.size W2 u->u.cell? ⟨b,0,none⟩=some (.string ⟨nm.toArray⟩)/\u.cell? ⟨b,1,none⟩=some (.string ⟨vr.toArray⟩)/\u.cell? ⟨b1,0,none⟩=some (.string ⟨nm2.toArray⟩)/\u.cell? ⟨b1,1,none⟩=some (.string ⟨vr2.toArray⟩)):=fun u h=>by
  rw[<-hb,<-al]
  have q1:=aw ae (bt aa h)
  have q2:=aw af h
  exact⟨q1.1,q1.2.1,q2.1,q2.2.1⟩
 have ac:Hid (Below W2.heap.size W2 W2.drew):=(Below.refl _ _).drew
 have F1:Hid (∀ u,Calls Tryz.prog 143 #[.string ⟨nm.toArray⟩,.string ⟨nm2.toArray⟩] u fun e w'=>e=.returned (.int .i64 (Lib.compareBytes nm nm2))/\u=w'):=fun u=>kt nm nm2 u
 have F2:Hid (∀ u,Below W2.heap.size W2 u->Calls Tryz.prog 47 #[.string ⟨vr.toArray⟩,.string ⟨vr2.toArray⟩] u fun e w'=>e=.returned (.int .i64 (Vm.cmpV vr vr2))/\Below u.heap.size u w'):=fun u h=>iP vr vr2 u (am.out u h) h1 h2
 obtain⟨x,hx⟩:=ex (Lib.compareBytes nm nm2)
 obtain⟨y,hy⟩:=ex (Vm.cmpV vr vr2)
 rw[hx] at F1
 rw[hy] at F2
 rw[hx,hy]
 clear hw h1 h2 hx hy ah aa
 go_enter Tryz.func107,Tryz.ntmps107
 go_wp2_with fail
 clear ae af hb al
 go_region_held3 (fun u=>u.cell? ⟨b,0,none⟩=some (.string ⟨nm.toArray⟩)/\u.cell? ⟨b,1,none⟩=some (.string ⟨vr.toArray⟩)/\u.cell? ⟨b1,0,none⟩=some (.string ⟨nm2.toArray⟩)/\u.cell? ⟨b1,1,none⟩=some (.string ⟨vr2.toArray⟩))
  (first
   | with_reducible exact ab.out _ ac.out
   | with_reducible exact ab.out _ ad.out
   | with_reducible exact ab.out _ ak.out)
  (first
   | (go_at_call 125;refine (gZ [x,y] _ _ _ (by simp) (cells2 _ _ _)).mono ?_;rintro _ u3 ⟨rfl,rfl⟩)
   | (go_at_call 47;refine (F2.out _ ac.out).mono ?_;rintro _ u2 ⟨rfl,hb⟩;have ad:=zh (bt ac.out hb);have ak:Hid (Below W2.heap.size W2 (u2.alloc (.cells #[.int .i64 x,.int .i64 y] 3))):=ad.out.alloc ad.out.size _;clear hb)
   | (go_at_call 143;refine (F1.out _).mono ?_;rintro _ u1 ⟨rfl,rfl⟩))
 go_wp2_with fail
 go_ret
 exact⟨by show Ending.returned (.int .i64 (orL [x,y]))=_;rw[Rp.or2],aj.out _ ak.out⟩
def Rp.samL:List Pk->List Pk->Bool
 | [],[]=>true
 | p :: l,q :: k=>samP p q&&samL l k
 | _,_=>false
theorem Rp.ve:∀ (l k:List Pk),l.length≠k.length->samL l k=false
 | [],[],h=>absurd rfl h
 | _ :: l,_ :: k,h=>by
  rw[samL,ve l k (fun e=>h (by simpa using e)),Bool.and_false]
 | [],_ :: _,_=>rfl
 | _ :: _,[],_=>rfl
theorem Rp.afe {l k:List Pk}{j:Nat}{X:Bool}(h1:j<l.length)(h2:j<k.length)(h:samL (l.drop j) (k.drop j)=X):(samP l[j] k[j]=true->samL (l.drop (j+1)) (k.drop (j+1))=X)/\(samP l[j] k[j]=false->X=false):=by
 rw[List.drop_eq_getElem_cons h1,List.drop_eq_getElem_cons h2,samL] at h
 refine⟨fun e=>?_,fun e=>?_⟩
 ·rw[e,Bool.true_and] at h;exact h
 ·rw[e,Bool.false_and] at h;exact h.symm
theorem zK (A B:Option Addr)(n m c d:Nat)(l k:List Pk)(w:World)(hn:l.length=n)(hm:k.length=m)(hr:RRow w A l)(hq:RRow w B k)(hl:n<=1000000)(hf:RFew l)(hg:RFew k) :
  Calls Tryz.prog 72 #[.slice A n c,.slice B m d,.func (.func 73) #[] #[]] w fun e w'=>e=.returned (.bool (samL l k))/\Below w.heap.size w w':=by
 obtain⟨X,hX⟩:=ex (samL l k)
 rw[hX]
 have HX:=zh hX
 have HR:=zh hr
 have HQ:=zh hq
 have HN:=zh hn
 have HM:=zh hm
 have HF:=zh hf
 have HG:=zh hg
 clear hX hr hq hn hm hf hg
 by_cases hlen:n=m
 ·have hd:((n:Int) != m)=false:=by rw[hlen];simp
  have HL:=zh hlen
  clear hlen
  go_enter Tryz.func72,Tryz.ntmps72
  go_wp2_with fail
  clear hd
  go_loopw [17] (fun i wr=>∃ j:Nat,j<=n/\i=.int .i64 j/\Hid (samL (l.drop j) (k.drop j)=X)/\Hid (Below w.heap.size w wr)) (fun i _=>n-(intOf i).toNat)
  case atStart=>exact⟨0,Nat.zero_le _,rfl,HX.out,Below.refl _ _⟩
  case round =>
   obtain⟨j,hj,rfl,HT,HW⟩:=hrel
   by_cases aM:j<n
   ·have af:j<m:=by have:=HL.out;omega
    have h1:j<l.length:=by rw[HN.out];exact aM
    have h2:j<k.length:=by rw[HM.out];exact af
    obtain⟨ad,D,dc,C,cc,G,gc,rfl,pd,pc,pg,hc⟩:=aY HR.out j h1
    obtain⟨ae,D',aC,C',aD,G',aE,rfl,qd,qc,qg,he⟩:=aY HQ.out j h2
    have f1:=pK HF.out j h1
    have g1:=pK HG.out j h2
    obtain⟨ab,ac⟩:=afe h1 h2 HT.out
    obtain⟨a,ha⟩:=ex (l[j])
    obtain⟨b,hb⟩:=ex (k[j])
    rw[ha,hb] at ab ac
    rw[ha] at pd pc pg f1 hc
    rw[hb] at qd qc qg g1 he
    obtain⟨s,hs⟩:=ex (samP a b)
    rw[hs] at ab ac
    have ag:=zh ab
    have ah:=zh ac
    obtain⟨c0,c1,c2,c3,c4,c5⟩:=hc _ HW.out
    obtain⟨aP,am⟩:=ex a.name
    obtain⟨aQ,an⟩:=ex a.ver
    obtain⟨aF,ao⟩:=ex a.deps.length
    obtain⟨aG,ap⟩:=ex a.confl.length
    obtain⟨aH,aq⟩:=ex a.prov.length
    obtain⟨aR,ar⟩:=ex a.wt
    rw[am] at c0
    rw[an] at c1
    rw[ao] at c2
    rw[ap] at c3
    rw[aq] at c4
    rw[ar] at c5
    obtain⟨V,hV⟩:=ex (wr.alloc (.cells #[.string ⟨aP.toArray⟩,.string ⟨aQ.toArray⟩,.slice D aF dc,.slice C aG cc,.slice G aH gc,.float .f64 aR] 68))
    have ak:Hid (Below w.heap.size w V):=HW.out.trans ((ai hV).mono HW.out.size)
    obtain⟨e0,e1,e2,e3,e4,e5⟩:=he _ ak.out
    obtain⟨aS,au⟩:=ex b.name
    obtain⟨aT,av⟩:=ex b.ver
    obtain⟨aI,ax⟩:=ex b.deps.length
    obtain⟨aK,az⟩:=ex b.confl.length
    obtain⟨aL,aA⟩:=ex b.prov.length
    obtain⟨aU,aB⟩:=ex b.wt
    rw[au] at e0
    rw[av] at e1
    rw[ax] at e2
    rw[az] at e3
    rw[aA] at e4
    rw[aB] at e5
    obtain⟨U,hU⟩:=ex (V.alloc (.cells #[.string ⟨aS.toArray⟩,.string ⟨aT.toArray⟩,.slice D' aI aC,.slice C' aK aD,.slice G' aL aE,.float .f64 aU] 68))
    have aa:Hid (Below w.heap.size w U):=ak.out.trans ((ai hU).mono ak.out.size)
    obtain⟨u0,u1,u2,u3,u4,u5⟩:=aw hV (ai hU)
    obtain⟨v0,v1,v2,v3,v4,v5⟩:=aw hU (Below.refl _ _)
    have HS:=zh (ae9 a D C G aF dc aG cc aH gc b D' C' G' aI aC aK aD aL aE (aJ pd aa.out) ao (ay pc aa.out) ap (Rg.aj pg aa.out) aq f1 (aJ qd aa.out) ax (ay qc aa.out) az (Rg.aj qg aa.out) aA g1 am an ar au av aB hs)
    clear hc he pd pc pg qd qc qg f1 g1 am an ao ap aq ar au av ax az aA aB hs ha hb ab ac h1 h2
    go_wp2_with fail
    clear hV hU
    refine HS.out.mono ?_
    rintro _ u ⟨rfl,hb⟩
    have HU:Hid (Below w.heap.size w u):=bt aa.out hb
    clear hb HS c0 c1 c2 c3 c4 c5 e0 e1 e2 e3 e4 e5 u0 u1 u2 u3 u4 u5 v0 v1 v2 v3 v4 v5
    cases s with
    | true =>
     have aN:=zh (ag.out rfl)
     clear ag ah
     go_wp2_with fail
     go_roundw
     case rel=>exact⟨j+1,by omega,by go_num,aN.out,HU.out⟩
     case measure=>simp[intOf];omega
    | false =>
     have al:=zh (ah.out rfl)
     clear ag ah
     go_wp2_with fail
     go_ret
     exact⟨by rw[al.out];rfl,HU.out⟩
   ·obtain rfl:j=n:=by omega
    have aO:Hid (X=true):=by
     show _=_
     have:=HT.out
     rw[List.drop_eq_nil_of_le (by rw[HN.out];exact Nat.le_refl _),List.drop_eq_nil_of_le (by rw[HM.out,HL.out];exact Nat.le_refl _)] at this
     exact this.symm
    clear HT
    go_wp2_with fail
    go_ret
    exact⟨by rw[aO.out];rfl,HW.out⟩
 ·have hd:((n:Int) != m)=true:=by simp;omega
  have al:Hid (X=false):=by show _=_;rw[<-HX.out];exact ve l k (by rw[HN.out,HM.out];exact hlen)
  go_enter Tryz.func72,Tryz.ntmps72
  go_wp2_with fail
  go_ret
  exact⟨by rw[al.out];rfl,Below.refl _ _⟩
theorem vf (A B:Option Addr)(n m c d:Nat)(l k:List Pk)(w:World)(hn:l.length=n)(hm:k.length=m)(hr:RRow w A l)(hq:RRow w B k)(hl:n<=1000000)(hf:RFew l)(hg:RFew k) :
  Calls Tryz.prog 34 #[.slice A n c,.slice B m d] w fun e w'=>e=.returned (.bool (samL l k))/\Below w.heap.size w w':=by
 have HC:=zh (zK A B n m c d l k w hn hm hr hq hl hf hg)
 clear hn hm hr hq hf hg
 go_enter Tryz.func34,Tryz.ntmps34
 go_wp2_with fail
 refine HC.out.mono ?_
 rintro _ u ⟨rfl,hb⟩
 have HB:=zh hb
 clear hb
 go_wp2_with fail
 go_ret
 exact⟨rfl,HB.out⟩
end
end Go.Proofs.YtgnaiidgjmicaaaGreatDoor
