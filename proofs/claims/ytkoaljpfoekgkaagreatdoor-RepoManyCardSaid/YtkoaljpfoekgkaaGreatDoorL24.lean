/- Part 24 of what the laws lean on. -/
import Derived.Test.YtkoaljpfoekgkaaGreatDoorL23
set_option maxRecDepth 100000
set_option maxHeartbeats 6400000
namespace Go.Proofs.YtkoaljpfoekgkaaGreatDoor
section
open Go.RowKit Rs At Pg Rp
attribute [local go_sem ↓] Go.wp_at_zero Go.wp_at_succ
attribute [local go_sem] Pg.aA
def Rp.encI (x:Int):List Value:=[.int .i64 x]
theorem Rp.fitsI:Rg.Fits Rp.encI 1:=⟨fun _=>rfl,fun x u hu=>by
 obtain rfl:u=.int .i64 x:=by simpa [Rp.encI] using hu
 rfl⟩
theorem Rp.sliceI:Rg.SliceT Tryz.prog Rp.encI 1 48 3:=⟨fitsI,by decide,by kernel_rfl,Rg.bI (z:=.int .i64 0) (b:=8) (by kernel_rfl) (by rfl) (by decide)⟩
abbrev Rp.IRow (w:World) (A:Option Addr) (l:List Int):Prop:=Rg.Row Rp.encI 1 w A l
def Rp.numF (f:Pk->Bool):Nat->List Pk->List Int
 | _,[]=>[]
 | i,p :: l=>if f p=true then (i:Int) :: numF f (i+1) l else numF f (i+1) l
theorem Rp.yL {f:Pk->Bool}{l:List Pk}{k:Nat}{X out:List Int}(hk:k<l.length)(h:out++numF f k (l.drop k)=X):(f l[k]=true->(out++[(k:Int)])++numF f (k+1) (l.drop (k+1))=X)/\(f l[k]=false->out++numF f (k+1) (l.drop (k+1))=X):=by
 rw[List.drop_eq_getElem_cons hk,numF] at h
 refine⟨fun e=>?_,fun e=>?_⟩
 ·rw[if_pos e] at h;rw[List.append_assoc];exact h
 ·rw[if_neg (by rw[e];decide)] at h;exact h
theorem Rp.ee {α:Type}{enc:α->List Value}{K:Nat}{T:TypeId}{v:Value}{l:List α}{w wr W5:World}{o:Obj}(hB:Hid (Below w.heap.size w wr/\w.heap.size<=wr.heap.size))(hO:Hid (Rg.Own enc K wr w.heap.size T v l))(hg:(wr.alloc o).grownBy W5 v.ownBlock) :
  Hid (Below w.heap.size w W5/\w.heap.size<=W5.heap.size):=by
 have h1:Below w.heap.size w (wr.alloc o):=hB.out.1.alloc hB.out.2 _
 have e:(wr.alloc o).heap.size=wr.heap.size+1:=by simp
 have h2:w.heap.size<=(wr.alloc o).heap.size:=by have:=hB.out.2;omega
 exact⟨h1.trans (Rg.aw (Rg.own_below hO.out ((Below.refl _ _).alloc (Nat.le_refl _) _)) h2 hg),Nat.le_trans h2 hg.size⟩
def Rp.NumRet (w:World) (X:List Int) (e:Ending) (w':World):Prop:=∃ v,e=.returned v/\Rg.Own Rp.encI 1 w' w.heap.size 3 v X/\Below w.heap.size w w'
theorem wA (p:Pk)(D C G:Option Addr)(dn dc cn cc gn gc b1:Nat)(nm pn pv:List UInt8)(wt:Nat)(w:World)(e0:p.name=pn)(hx1:w.cell? ⟨b1,0,none⟩=some (.string ⟨nm.toArray⟩))(hb1:b1<w.heap.size) :
  Calls Tryz.prog 51 #[.agg #[.string ⟨pn.toArray⟩,.string ⟨pv.toArray⟩,.slice D dn dc,.slice C cn cc,.slice G gn gc,.float .f64 wt],.pointer (some ⟨b1,0,none⟩)] w fun e w'=>e=.returned (.bool (decide (p.name=nm)))/\Below w.heap.size w w':=by
 rw[e0]
 obtain⟨V,hV⟩:=ex (w.alloc (.cells #[.string ⟨pn.toArray⟩,.string ⟨pv.toArray⟩,.slice D dn dc,.slice C cn cc,.slice G gn gc,.float .f64 wt] 39))
 have HB:Hid (Below w.heap.size w V):=ab hV
 have k1:=(HB.out.cell (p:=⟨b1,0,none⟩) hb1).trans hx1
 obtain⟨c0,-,-,-,-,-⟩:=ak hV (Below.refl _ _)
 obtain⟨x,hx⟩:=ex (pn==nm)
 have HX:Hid (decide (pn=nm)=x):=by
  show _=_
  rw[<-hx,Bool.eq_iff_iff,decide_eq_true_iff,beq_iff_eq]
 clear e0 hx1 hb1
 go_enter Tryz.func51,Tryz.ntmps51
 go_wp2_with fail
 go_ret
 exact⟨by rw[HX.out];rfl,HB.out⟩
theorem rL (A:Option Addr)(n c:Nat)(l:List Pk)(b1:Nat)(nm:List UInt8)(w:World)(hn:l.length=n)(hr:RRow w A l)(hl:n<=100000)(hx1:w.cell? ⟨b1,0,none⟩=some (.string ⟨nm.toArray⟩))(hb1:b1<w.heap.size) :
  Calls Tryz.prog 43 #[.slice A n c,.func (.func 51) #[] #[.pointer (some ⟨b1,0,none⟩)]] w (NumRet w (numF (fun p=>decide (p.name=nm)) 0 l)):=by
 have HR:=zh hr
 have HN:=zh hn
 have HC:=zh (fun (p:Pk) (D C G:Option Addr) (dn dc cn cc gn gc:Nat) (pn pv:List UInt8) (wt:Nat) (e0:p.name=pn) (W:World) (h:Below w.heap.size w W)=>wA p D C G dn dc cn cc gn gc b1 nm pn pv wt W e0 ((h.cell (p:=⟨b1,0,none⟩) hb1).trans hx1) (Nat.lt_of_lt_of_le hb1 h.size))
 obtain⟨f,hf⟩:∃ f:Pk->Bool,(fun p=>decide (p.name=nm))=f:=⟨_,rfl⟩
 have HF:Hid (∀ p,(fun p=>decide (p.name=nm)) p=f p):=fun p=>by rw[<-hf]
 rw[hf]
 obtain⟨X,hX⟩:=ex (numF f 0 l)
 rw[hX]
 have HX:=zh hX
 clear hr hn hx1 hb1 hX hf
 go_enter Tryz.func43,Tryz.ntmps43
 go_wp2_with fail
 go_loopw [5,10] (fun v i wr=>∃ (k:Nat) (out:List Int),k<=n/\i=.int .i64 k/\Hid (out++numF f k (l.drop k)=X)/\Hid (out.length<=k)/\Hid (Rg.Own Rp.encI 1 wr w.heap.size 3 v out)/\Hid (Below w.heap.size w wr/\w.heap.size<=wr.heap.size)) (fun _ i _=>n-(intOf i).toNat)
 case atStart=>exact⟨0,[],Nat.zero_le _,rfl,HX.out,Nat.le_refl _,Rg.ao _ _ _,Below.refl _ _,Nat.le_refl _⟩
 case round =>
  obtain⟨k,out,hk,rfl,HA,ae,HO,HB⟩:=hrel
  by_cases aK:k<n
  ·have af:k<l.length:=by rw[HN.out];exact aK
   obtain⟨ad,D,dc,C,cc,G,gc,rfl,pd,pc,pg,hc⟩:=bq HR.out k af
   obtain⟨c0,c1,c2,c3,c4,c5⟩:=hc _ HB.out.1
   obtain⟨hy,an⟩:=yL af HA.out
   have ac:=List.getElem_mem af
   obtain⟨a,ha⟩:=ex (l[k])
   rw[ha] at c0 c1 c2 c3 c4 c5 hy an ac pd pc pg
   have HY:=zh hy
   have ai:=zh an
   obtain⟨av,ap⟩:=ex a.name
   obtain⟨aw,ay⟩:=ex a.ver
   obtain⟨az,aA⟩:=ex a.deps.length
   obtain⟨aB,aC⟩:=ex a.confl.length
   obtain⟨aD,aE⟩:=ex a.prov.length
   obtain⟨aF,aG⟩:=ex a.wt
   rw[ap] at c0
   rw[ay] at c1
   rw[aA] at c2
   rw[aC] at c3
   rw[aE] at c4
   rw[aG] at c5
   obtain⟨V,hV⟩:=ex (wr.alloc (.cells #[.string ⟨av.toArray⟩,.string ⟨aw.toArray⟩,.slice D az dc,.slice C aB cc,.slice G aD gc,.float .f64 aF] 39))
   have HV:Hid (Below wr.heap.size wr V):=ab hV
   have aq:Hid (Below w.heap.size w V):=HB.out.1.trans (HV.out.mono HB.out.2)
   obtain⟨g0,g1,g2,g3,g4,g5⟩:=ak hV (Below.refl _ _)
   have aj:=HC.out a D C G az dc aB cc aD gc av aw aF ap V aq.out
   rw[HF.out] at aj
   have ar:=zh aj
   clear hc hy an af ha ap ay aA aC aE aG aj ac pd pc pg
   go_wp2_with fail
   clear hV
   refine ar.out.mono ?_
   rintro _ w1 ⟨rfl,aH⟩
   have al:Hid (Below wr.heap.size wr w1):=bt HV.out aH
   have ag:Hid (Below w.heap.size w w1/\w.heap.size<=w1.heap.size):=⟨HB.out.1.trans (al.out.mono HB.out.2),Nat.le_trans HB.out.2 al.out.size⟩
   have ah:=zh (Rg.own_below HO.out al.out)
   clear aH c0 c1 c2 c3 c4 c5 g0 g1 g2 g3 g4 g5 ar HB HO HV aq
   cases hp:f a
   ·have am:=zh (ai.out hp)
    have aa:Hid (out.length<=k+1):=Nat.le_succ_of_le ae.out
    clear hp HY ai ae
    go_wp2_with fail
    go_roundw
    case rel=>exact⟨k+1,out,by omega,by go_num,am.out,aa.out,ah.out,ag.out⟩
    case measure=>simp[intOf];omega
   ·have am:=zh (HY.out hp)
    have aa:Hid ((out++[(k:Int)]).length<=k+1):=by show _<=_;rw[List.length_append];exact Nat.succ_le_succ ae.out
    have au:Hid (out.length+1<=1000000):=by show _<=_;have:=ae.out;omega
    clear hp HY ai ae
    go_wp2_with (at_builtin;refine Rg.aL sliceI rfl (.tmp 18) (.tmp 20) rfl w.heap.size _ out [(k:Int)] rfl (Rg.own_below ah.out ((Below.refl _ _).alloc (Nat.le_refl _) _)) _ _ rfl (Rg.ax w1 _ _ _ (by rfl)) (Nat.zero_lt_succ _) au.out ?b1 ?_)
    case b1=>have:=ag.out.2;simp;omega
    intro v5 W5 aI aJ aQ
    have aM:=ee ag ah aJ
    have aN:=zh aI
    clear aI aJ aQ ah ag au
    go_wp2_with fail
    go_roundw
    case rel=>exact⟨k+1,out++[(k:Int)],by omega,by go_num,am.out,aa.out,aN.out,aM.out⟩
    case measure=>simp[intOf];omega
  ·obtain rfl:k=n:=by omega
   have aO:Hid (out=X):=by
    show _=_
    have:=HA.out
    rw[List.drop_eq_nil_of_le (by rw[HN.out];exact Nat.le_refl _)] at this
    rw[<-this];exact (List.append_nil _).symm
   have aP:=zh (aO.out ▸ HO.out)
   go_wp2_with fail
   go_ret
   exact⟨_,rfl,aP.out,HB.out.1⟩
theorem po (A:Option Addr)(n c:Nat)(l:List Pk)(nm:List UInt8)(w:World)(hn:l.length=n)(hr:RRow w A l)(hl:n<=100000) :
  Calls Tryz.prog 24 #[.slice A n c,.string ⟨nm.toArray⟩] w (NumRet w (numF (fun p=>decide (p.name=nm)) 0 l)):=by
 have aa:∀ (fn:Fn) (first cap:Array Value) (w:World),(Instr.makeFunc fn first cap).run Tryz.prog w=.ok (.func fn first cap) w:=fun _ _ _ _=>rfl
 obtain⟨V,hV⟩:=ex (w.alloc (.cells #[.string ⟨nm.toArray⟩] 9))
 have HB:Hid (Below w.heap.size w V):=ab hV
 have HC:=zh (rL A n c l w.heap.size nm V hn (bc hr HB.out) hl (by rw[<-hV];simp[go_sem]) (by rw[<-hV];simp))
 obtain⟨X,hX⟩:=ex (numF (fun p=>decide (p.name=nm)) 0 l)
 rw[hX] at HC ⊢
 clear hn hr hX
 go_enter Tryz.func24,Tryz.ntmps24
 go_wp2_with fail
 clear hV
 refine HC.out.mono ?_
 rintro _ u ⟨v,rfl,ho,hb⟩
 have HU:Hid (Below w.heap.size w u):=bt HB.out hb
 have HO:=zh (Rg.pZ HB.out.size ho)
 clear ho hb HC
 go_wp2_with fail
 go_ret
 exact⟨_,rfl,HO.out,HU.out⟩
theorem rM (p:Pk)(D C G:Option Addr)(dn dc cn cc gn gc b1:Nat)(nm:List UInt8)(B:Option Addr)(m d:Nat)(r:List Sp)(pn pv:List UInt8)(wt:Nat)(w:World)(hw:MaxOk w)(hg:GRow w G p.prov)(hgn:p.prov.length=gn)(hgl:gn<=1000000)(ho:∀ g∈p.prov,g.ver=[]\/Vm.check g.ver=0)(hv:Vm.check p.ver=0)(hm:r.length=m)(hq:SRow w B r)(hm2:m<=64)(hk:checkR r=0)(e0:p.name=pn)(e1:p.ver=pv)(e5:p.wt=wt)(hx1:Bx2 b1 nm B m d w)(hb1:b1<w.heap.size) :
  Calls Tryz.prog 44 #[.agg #[.string ⟨pn.toArray⟩,.string ⟨pv.toArray⟩,.slice D dn dc,.slice C cn cc,.slice G gn gc,.float .f64 wt],.pointer (some ⟨b1,0,none⟩)] w fun e w'=>e=.returned (.bool (metP p ⟨nm,r⟩))/\Below w.heap.size w w':=by
 obtain⟨V,hV⟩:=ex (w.alloc (.cells #[.string ⟨pn.toArray⟩,.string ⟨pv.toArray⟩,.slice D dn dc,.slice C cn cc,.slice G gn gc,.float .f64 wt] 39))
 have HB:Hid (Below w.heap.size w V):=ab hV
 have HC:=zh (aaY (aa hw HB.out) p D C G dn dc cn cc gn gc nm B m d r (Rg.ah hg HB.out) hgn hgl ho hv hm (aj hq HB.out) hm2 hk e0 e1 e5 (b:=metP p ⟨nm,r⟩) rfl)
 obtain⟨k0,k1⟩:=aK hx1 hb1 HB.out
 obtain⟨c0,c1,c2,c3,c4,c5⟩:=ak hV (Below.refl _ _)
 clear hw hg hgn hgl ho hv hm hq hm2 hk e0 e1 e5 hx1 hb1
 go_enter Tryz.func44,Tryz.ntmps44
 go_wp2_with fail
 refine HC.out.mono ?_
 rintro _ u ⟨rfl,hb⟩
 have HU:Hid (Below w.heap.size w u):=bt HB.out hb
 clear hb
 go_wp2_with fail
 go_ret
 exact⟨rfl,HU.out⟩
theorem nj (A:Option Addr)(n c:Nat)(l:List Pk)(b1:Nat)(nm:List UInt8)(B:Option Addr)(m d:Nat)(r:List Sp)(w:World)(hn:l.length=n)(hr:RRow w A l)(hl:n<=100000)(hw:MaxOk w)(hO:∀ p∈l,Vm.check p.ver=0/\(∀ g∈p.prov,g.ver=[]\/Vm.check g.ver=0)/\p.prov.length<=1000000)(hm:r.length=m)(hq:SRow w B r)(hm2:m<=64)(hk:checkR r=0)(hx1:Bx2 b1 nm B m d w)(hb1:b1<w.heap.size) :
  Calls Tryz.prog 43 #[.slice A n c,.func (.func 44) #[] #[.pointer (some ⟨b1,0,none⟩)]] w (NumRet w (numF (fun p=>metP p ⟨nm,r⟩) 0 l)):=by
 have HR:=zh hr
 have HN:=zh hn
 have HC:=zh (fun (p:Pk) (hp:p∈l) (D C G:Option Addr) (dn dc cn cc gn gc:Nat) (pn pv:List UInt8) (wt:Nat) (hgn:p.prov.length=gn) (e0:p.name=pn) (e1:p.ver=pv) (e5:p.wt=wt) (W:World) (h:Below w.heap.size w W) (hg:GRow W G p.prov)=>rM p D C G dn dc cn cc gn gc b1 nm B m d r pn pv wt W (aa hw h) hg hgn (hgn ▸ (hO p hp).2.2) (hO p hp).2.1 (hO p hp).1 hm (aj hq h) hm2 hk e0 e1 e5 (aK hx1 hb1 h) (Nat.lt_of_lt_of_le hb1 h.size))
 obtain⟨f,hf⟩:∃ f:Pk->Bool,(fun p=>metP p ⟨nm,r⟩)=f:=⟨_,rfl⟩
 have HF:Hid (∀ p,(fun p=>metP p ⟨nm,r⟩) p=f p):=fun p=>by rw[<-hf]
 rw[hf]
 obtain⟨X,hX⟩:=ex (numF f 0 l)
 rw[hX]
 have HX:=zh hX
 clear hr hn hw hO hm hq hm2 hk hx1 hb1 hX hf
 go_enter Tryz.func43,Tryz.ntmps43
 go_wp2_with fail
 go_loopw [5,10] (fun v i wr=>∃ (k:Nat) (out:List Int),k<=n/\i=.int .i64 k/\Hid (out++numF f k (l.drop k)=X)/\Hid (out.length<=k)/\Hid (Rg.Own Rp.encI 1 wr w.heap.size 3 v out)/\Hid (Below w.heap.size w wr/\w.heap.size<=wr.heap.size)) (fun _ i _=>n-(intOf i).toNat)
 case atStart=>exact⟨0,[],Nat.zero_le _,rfl,HX.out,Nat.le_refl _,Rg.ao _ _ _,Below.refl _ _,Nat.le_refl _⟩
 case round =>
  obtain⟨k,out,hk,rfl,HA,af,HO,HB⟩:=hrel
  by_cases aP:k<n
  ·have ag:k<l.length:=by rw[HN.out];exact aP
   obtain⟨ad,D,dc,C,cc,G,gc,rfl,pd,pc,pg,hc⟩:=bq HR.out k ag
   obtain⟨c0,c1,c2,c3,c4,c5⟩:=hc _ HB.out.1
   obtain⟨hy,au⟩:=yL ag HA.out
   have ac:=List.getElem_mem ag
   obtain⟨a,ha⟩:=ex (l[k])
   rw[ha] at c0 c1 c2 c3 c4 c5 hy au ac pd pc pg
   have HY:=zh hy
   have am:=zh au
   obtain⟨aC,av⟩:=ex a.name
   obtain⟨aD,aw⟩:=ex a.ver
   obtain⟨aE,aF⟩:=ex a.deps.length
   obtain⟨aG,aH⟩:=ex a.confl.length
   obtain⟨aI,ay⟩:=ex a.prov.length
   obtain⟨aJ,az⟩:=ex a.wt
   rw[av] at c0
   rw[aw] at c1
   rw[aF] at c2
   rw[aH] at c3
   rw[ay] at c4
   rw[az] at c5
   obtain⟨V,hV⟩:=ex (wr.alloc (.cells #[.string ⟨aC.toArray⟩,.string ⟨aD.toArray⟩,.slice D aE dc,.slice C aG cc,.slice G aI gc,.float .f64 aJ] 39))
   have HV:Hid (Below wr.heap.size wr V):=ab hV
   have an:Hid (Below w.heap.size w V):=HB.out.1.trans (HV.out.mono HB.out.2)
   obtain⟨g0,g1,g2,g3,g4,g5⟩:=ak hV (Below.refl _ _)
   have ap:=HC.out a ac D C G aE dc aG cc aI gc aC aD aJ ay av aw az V an.out (Rg.ah pg an.out)
   rw[HF.out] at ap
   have aA:=zh ap
   clear hc hy au ag ha av aw aF aH ay az ap ac pd pc pg
   go_wp2_with fail
   clear hV
   refine aA.out.mono ?_
   rintro _ w1 ⟨rfl,aM⟩
   have aq:Hid (Below wr.heap.size wr w1):=bt HV.out aM
   have ai:Hid (Below w.heap.size w w1/\w.heap.size<=w1.heap.size):=⟨HB.out.1.trans (aq.out.mono HB.out.2),Nat.le_trans HB.out.2 aq.out.size⟩
   have al:=zh (Rg.own_below HO.out aq.out)
   clear aM c0 c1 c2 c3 c4 c5 g0 g1 g2 g3 g4 g5 aA HB HO HV an
   cases hp:f a
   ·have ar:=zh (am.out hp)
    have ae:Hid (out.length<=k+1):=Nat.le_succ_of_le af.out
    clear hp HY am af
    go_wp2_with fail
    go_roundw
    case rel=>exact⟨k+1,out,by omega,by go_num,ar.out,ae.out,al.out,ai.out⟩
    case measure=>simp[intOf];omega
   ·have ar:=zh (HY.out hp)
    have ae:Hid ((out++[(k:Int)]).length<=k+1):=by show _<=_;rw[List.length_append];exact Nat.succ_le_succ af.out
    have aB:Hid (out.length+1<=1000000):=by show _<=_;have:=af.out;omega
    clear hp HY am af
    go_wp2_with (at_builtin;refine Rg.aL sliceI rfl (.tmp 18) (.tmp 20) rfl w.heap.size _ out [(k:Int)] rfl (Rg.own_below al.out ((Below.refl _ _).alloc (Nat.le_refl _) _)) _ _ rfl (Rg.ax w1 _ _ _ (by rfl)) (Nat.zero_lt_succ _) aB.out ?b1 ?_)
    case b1=>have:=ai.out.2;simp;omega
    intro v5 W5 aN aO aU
    have aQ:=ee ai al aO
    have aR:=zh aN
    clear aN aO aU al ai aB
    go_wp2_with fail
    go_roundw
    case rel=>exact⟨k+1,out++[(k:Int)],by omega,by go_num,ar.out,ae.out,aR.out,aQ.out⟩
    case measure=>simp[intOf];omega
  ·obtain rfl:k=n:=by omega
   have aS:Hid (out=X):=by
    show _=_
    have:=HA.out
    rw[List.drop_eq_nil_of_le (by rw[HN.out];exact Nat.le_refl _)] at this
    rw[<-this];exact (List.append_nil _).symm
   have aT:=zh (aS.out ▸ HO.out)
   go_wp2_with fail
   go_ret
   exact⟨_,rfl,aT.out,HB.out.1⟩
theorem fW (A:Option Addr)(n c:Nat)(l:List Pk)(nm:List UInt8)(B:Option Addr)(m d:Nat)(r:List Sp)(w:World)(hw:MaxOk w)(hn:l.length=n)(hr:RRow w A l)(hl:n<=100000)(hO:∀ p∈l,Vm.check p.ver=0/\(∀ g∈p.prov,g.ver=[]\/Vm.check g.ver=0)/\p.prov.length<=1000000)(hm:r.length=m)(hq:SRow w B r)(hm2:m<=64)(hk:checkR r=0) :
  Calls Tryz.prog 15 #[.slice A n c,.agg #[.string ⟨nm.toArray⟩,.slice B m d]] w (NumRet w (numF (fun p=>metP p ⟨nm,r⟩) 0 l)):=by
 have ac:∀ (fn:Fn) (first cap:Array Value) (w:World),(Instr.makeFunc fn first cap).run Tryz.prog w=.ok (.func fn first cap) w:=fun _ _ _ _=>rfl
 obtain⟨V,hV⟩:=ex (w.alloc (.cells #[.string ⟨nm.toArray⟩,.slice B m d] 54))
 have HB:Hid (Below w.heap.size w V):=ab hV
 have HC:=zh (nj A n c l w.heap.size nm B m d r V hn (bc hr HB.out) hl (aa hw HB.out) hO hm (aj hq HB.out) hm2 hk (by rw[<-hV];exact dE w nm B m d _) (by rw[<-hV];simp))
 obtain⟨X,hX⟩:=ex (numF (fun p=>metP p ⟨nm,r⟩) 0 l)
 rw[hX] at HC ⊢
 clear hw hn hr hO hm hq hm2 hk hX
 go_enter Tryz.func15,Tryz.ntmps15
 go_wp2_with fail
 clear hV
 refine HC.out.mono ?_
 rintro _ u ⟨v,rfl,ho,hb⟩
 have HU:Hid (Below w.heap.size w u):=bt HB.out hb
 have HO:=zh (Rg.pZ HB.out.size ho)
 clear ho hb HC
 go_wp2_with fail
 go_ret
 exact⟨_,rfl,HO.out,HU.out⟩
end
section
open Go.RowKit Rs At Pg Rp
attribute [local go_sem ↓] Go.wp_at_zero Go.wp_at_succ
attribute [local go_sem] Pg.aA
namespace Rp
theorem sliceST:Rg.SliceT Tryz.prog encO 1 77 103:=⟨fitsO,by decide,by kernel_rfl,Rg.bI (z:=.slice none 0 0) (b:=24) (by kernel_rfl) (by rfl) (by decide)⟩
theorem zeroST:∀ i,Tryz.prog.info? 103=some i->∀ z,i.zero=some z->∀ u∈z.cells,IsSl u:=jV (z0:=.slice none 0 0) (by kernel_rfl) (fun u hu=>by simp[Value.cells] at hu;exact⟨_,_,_,hu⟩)
def GOwn (w:World) (B:Nat) (v:Value) (t:List (List Sz.Fld)):Prop:=∃ ds,Rg.Own encO 1 w B 103 v ds/\Pure IsSl w v/\Gr.In Sz.encF 3 w ds t
theorem aaZ (w:World)(B:Nat):GOwn w B (.slice none 0 0) []:=⟨[],Rg.ao _ _ _,pure_nil _ _,rfl,fun i d l h=>by simp at h⟩
theorem wB {w w':World}{B:Nat}{v:Value}{t:List (List Sz.Fld)}(h:GOwn w B v t)(hb:Below w.heap.size w w'):GOwn w' B v t:=by
 obtain⟨ds,h1,h2,h3⟩:=h
 exact⟨ds,Rg.own_below h1 hb,cP h2 h1 hb,Gr.gY h3 hb⟩
theorem aa0 {w:World}{B:Nat}{v:Value}{t:List (List Sz.Fld)}(h:GOwn w B v t):∃ A c,v=.slice A t.length c/\Gr.Row Sz.encF 3 w A t:=by
 obtain⟨ds,h1,_,h3⟩:=h
 obtain⟨A,c,hv,hr,_,_⟩:=Rg.az fitsO h1
 rw[h3.1] at hv
 exact⟨A,c,hv,ds,hr,h3⟩
theorem aa1 (f:Sz.Fld):∃ t,(Sz.encF f)[0]?=some (.string t):=⟨_,rfl⟩
theorem acy {w u:World}{v:Value}{ds:List Desc}{t:List (List Sz.Fld)}{A:Option Addr}{n c:Nat}{l:List Sz.Fld}(h:Gr.In Sz.encF 3 w ds t)(hr:Rg.Row Sz.encF 3 w A l)(hn:l.length=n)(hp:Pure IsSl w v)(hg:w.grownBy u v.ownBlock):Gr.In Sz.encF 3 u (ds++[(A,n,c)]) (t++[l]):=by
 have far:∀ {B:Option Addr} {m:List Sz.Fld},Rg.Row Sz.encF 3 w B m->Rg.Row Sz.encF 3 u B m:=fun hm=>by
  refine bT hm (cK hg) fun h0 a ha e=>?_
  cases ho:v.ownBlock with
  | none=>rw[ho] at e;cases e
  | some g=>rw[ho] at e;exact yl hm aa1 (hp g ho) h0 a ha e
 refine⟨by rw[List.length_append,List.length_append,h.1];rfl,fun i d m e1 e2=>?_⟩
 rcases aI e1 with⟨q1,q2⟩ | ⟨q1,q2⟩
 ·rcases aI e2 with⟨_,p2⟩ | ⟨p1,_⟩
  ·exact⟨(h.2 i d m q2 p2).1,far (h.2 i d m q2 p2).2⟩
  ·have:=h.1;omega
 ·rcases aI e2 with⟨p1,_⟩ | ⟨_,p2⟩
  ·have:=h.1;omega
  ·subst q2 p2;exact⟨hn.symm,far hr⟩
def SofRet (w:World) (t:List (List Sz.Fld)) (e:Ending) (w':World):Prop:=∃ A c,e=.returned (.slice A t.length c)/\Gr.Row Sz.encF 3 w' A t/\Below w.heap.size w w'
def textR (l:List Pk):List UInt8:=Sz.textS (l.map toPk)
def printR (l:List Pk):List UInt8 × Int:=if (chkR l).2≠0 then ([],(chkR l).2) else if 65536<(textR l).length then ([],4) else (textR l,0)
end Rp
theorem pq (A:Option Addr)(n c:Nat)(l:List Pk)(w:World)(hk:KOk w)(hn:l.length=n)(hr:RRow w A l)(hl:n<=1000)(ht:∀ p∈l,PTxt p) :
  Calls Tryz.prog 37 #[.slice A n c] w (SofRet w (l.map toPk)):=by
 have HK:=zh hk
 have HR:=zh hr
 have HN:=zh hn
 have HT:=zh ht
 clear hk hr hn ht
 go_enter Tryz.func37,Tryz.ntmps37
 go_wp2_with fail
 go_loopw [3,8] (fun v i wr=>∃ k:Nat,k<=n/\i=.int .i64 k/\Hid (GOwn wr w.heap.size v ((l.take k).map toPk))/\Hid (Below w.heap.size w wr/\w.heap.size<=wr.heap.size)) (fun _ i _=>n-(intOf i).toNat)
 case atStart=>exact⟨0,Nat.zero_le _,rfl,aaZ _ _,Below.refl _ _,Nat.le_refl _⟩
 case round =>
  obtain⟨k,hk,rfl,HO,HB⟩:=hrel
  by_cases aQ:k<n
  ·have ai:k<l.length:=by rw[HN.out];exact aQ
   obtain⟨ad,D,dc,C,cc,G,gc,rfl,pd,pc,pg,hc⟩:=bq HR.out k ai
   obtain⟨c0,c1,c2,c3,c4,c5⟩:=hc _ HB.out.1
   have ac:=HT.out _ (List.getElem_mem ai)
   have ae:(l.take (k+1)).map toPk=(l.take k).map toPk++[toPk l[k]]:=by rw[List.take_succ_eq_append_getElem ai,List.map_append];rfl
   obtain⟨a,ha⟩:=ex (l[k])
   rw[ha] at c0 c1 c2 c3 c4 c5 ac ae pd pc pg
   obtain⟨aW,ar⟩:=ex a.name
   obtain⟨aY,au⟩:=ex a.ver
   obtain⟨aH,aw⟩:=ex a.deps.length
   obtain⟨aI,ay⟩:=ex a.confl.length
   obtain⟨aJ,az⟩:=ex a.prov.length
   obtain⟨aZ,aA⟩:=ex a.wt
   rw[ar] at c0
   rw[au] at c1
   rw[aw] at c2
   rw[ay] at c3
   rw[az] at c4
   rw[aA] at c5
   obtain⟨t0,aC⟩:=ex ((l.take k).map toPk)
   have aF:t0.length=k:=by rw[<-aC,List.length_map,List.length_take];omega
   rw[aC] at HO ae
   obtain⟨V,hV⟩:=ex (wr.alloc (.cells #[.string ⟨aW.toArray⟩,.string ⟨aY.toArray⟩,.slice D aH dc,.slice C aI cc,.slice G aJ gc,.float .f64 aZ] 39))
   have HV:Hid (Below wr.heap.size wr V):=ab hV
   have af:Hid (Below w.heap.size w V):=HB.out.1.trans (HV.out.mono HB.out.2)
   obtain⟨ts,aD⟩:=ex (toPk a)
   have aj:=zh (adu (av HK.out af.out) a D C G aH dc aI cc aJ gc (aX pd af.out) aw (aB pc af.out) ay (Rg.ah pg af.out) az ac ar au aA (n:=ts.length) (by rw[aD]))
   rw[aD] at aj ae
   obtain⟨m,hm⟩:=ex ts.length
   rw[hm] at aj
   have HM:=zh hm
   obtain⟨g0,g1,g2,g3,g4,g5⟩:=ak hV (Below.refl _ _)
   have aR:=zh ae
   have aS:=zh aF
   clear hc ai ha ar au aw ay az aA ac pd pc pg ae aC aF aD hm
   go_wp2_with fail
   clear hV
   refine aj.out.mono ?_
   rintro _ w1 ⟨F,fc,rfl,aa,aK⟩
   have al:Hid (Below wr.heap.size wr w1):=bt HV.out aK
   have am:Hid (Below w.heap.size w w1/\w.heap.size<=w1.heap.size):=⟨HB.out.1.trans (al.out.mono HB.out.2),Nat.le_trans HB.out.2 al.out.size⟩
   have aG:=zh (wB HO.out al.out)
   have an:=zh aa
   clear aK aa c0 c1 c2 c3 c4 c5 g0 g1 g2 g3 g4 g5 HB HO HV aj af
   obtain⟨ds,aL,aM,aN⟩:=aG.out
   have ag:=zh aL
   have ao:=zh aM
   have ap:=zh aN
   have aT:Hid (ds.length+1<=1000000):=by show _<=_;have h1:=ap.out.1;have h2:=aS.out;omega
   clear aL aM aN
   go_wp2_with (at_builtin;refine dv sliceST zeroST uV rfl (.tmp 12) (.tmp 15) rfl w.heap.size _ ds [(F,m,fc)] rfl (Rg.own_below ag.out ((Below.refl _ _).alloc (Nat.le_refl _) _)) (cP ao.out ag.out ((Below.refl _ _).alloc (Nat.le_refl _) _)) _ _ rfl (Rg.ax w1 _ _ _ (by rfl)) (Nat.zero_lt_succ _) aT.out ?b1 ?_)
   case b1=>have:=am.out.2;simp;omega
   intro v5 W5 aO aP aE a0
   have aU:=ee am ag aE
   have aV:Hid (GOwn W5 w.heap.size v5 ((l.take (k+1)).map toPk)):=by
    show GOwn _ _ _ _
    rw[aR.out]
    exact⟨_,aO,aP,acy (Gr.gY ap.out ((Below.refl _ _).alloc (Nat.le_refl _) _)) (Rg.ah an.out ((Below.refl _ _).alloc (Nat.le_refl _) _)) HM.out (cP ao.out ag.out ((Below.refl _ _).alloc (Nat.le_refl _) _)) aE⟩
   clear aO aP aE a0 aG am ag ao ap
   go_wp2_with fail
   go_roundw
   case rel=>exact⟨k+1,by omega,by go_num,aV.out,aU.out⟩
   case measure=>simp[intOf];omega
  ·obtain rfl:k=n:=by omega
   have hO:=HO.out
   rw[List.take_of_length_le (by rw[HN.out];exact Nat.le_refl _)] at hO
   obtain⟨A',c',hv,aa⟩:=aa0 hO
   have aq:Hid (SofRet w (l.map toPk) (.returned (.slice A' (l.map toPk).length c')) _):=⟨A',c',rfl,aa,HB.out.1⟩
   clear hO HO aa
   subst hv
   go_wp2_with fail
   go_ret
   exact aq.out
theorem nk (k n:Int){o:Int}(w:World) :
  Calls Tryz.prog 35 #[.iface 98 (.agg #[.int .i64 k,.int .i64 n]),.int .i64 o] w fun e w'=>e=.returned (.int .i64 n)/\Below w.heap.size w w':=by
 go_enter Tryz.func35,Tryz.ntmps35
 go_wp2_with fail
 refine (bo k n _).mono ?_
 rintro _ w' ⟨rfl,hb⟩
 have HB:=zh hb
 clear hb
 go_wp2_with fail
 go_ret
 exact⟨rfl,HB.out⟩
theorem jD (p:Addr)(x:Int)(n:Int)(w:World)(hc:w.cell? p=some (.int .i64 x))(hz:w.frozen? p=false) :
  CallsD Tryz.prog 34 #[.pointer (some p)] (.panicking [{ v:=.iface 29 (.int .i64 n),recovered:=false }]) w fun e u' w' =>
   e=.returned (.tuple #[])/\u'=.panicking [{ v:=.iface 29 (.int .i64 n),recovered:=true }]/\w'=w.setCell p (.int .i64 n):=by
 refine callsD_of_wpS Tryz.func34 rfl fun c₀ cs hu=>?_
 apply wpS_region
 simp[wpOpsS,go_sem,recoverD,hu,Tryz.ntmps34]
 refine (bD n _).mono ?_
 rintro e w' ⟨rfl,rfl⟩
 simp[go_sem,hc,hz,bodyPostS,results,Tryz.results34]
theorem pr (p:Addr)(x:Int)(k n:Int)(w:World)(hc:∀ u,Below w.heap.size w u->u.cell? p=some (.int .i64 x))(hz:∀ u,Below w.heap.size w u->u.frozen? p=false) :
  CallsD Tryz.prog 34 #[.pointer (some p)] (.panicking [{ v:=.iface 98 (.agg #[.int .i64 k,.int .i64 n]),recovered:=false }]) w fun e u' w' =>
   e=.returned (.tuple #[])/\u'=.panicking [{ v:=.iface 98 (.agg #[.int .i64 k,.int .i64 n]),recovered:=true }]/\∃ u,Below w.heap.size w u/\w'=u.setCell p (.int .i64 n):=by
 refine callsD_of_wpS Tryz.func34 rfl fun c₀ cs hu=>?_
 apply wpS_region
 simp[wpOpsS,go_sem,recoverD,hu,Tryz.ntmps34]
 refine (nk k n _).mono ?_
 rintro e w' ⟨rfl,hb⟩
 simp[go_sem,hc _ hb,hz _ hb,bodyPostS,results,Tryz.results34]
 exact⟨w',hb,rfl⟩
theorem tQ (p:Addr)(x:Int)(w:World)(hc:w.cell? p=some (.int .i64 x))(hz:w.frozen? p=false) :
  CallsD Tryz.prog 34 #[.pointer (some p)] .returning w fun e u' w'=>e=.returned (.tuple #[])/\u'=.returning/\w'=w.setCell p (.int .i64 0):=by
 refine callsD_of_wpS Tryz.func34 rfl fun c₀ cs hu=>?_
 apply wpS_region
 simp[wpOpsS,go_sem,recoverD,hu,Tryz.ntmps34]
 refine (bC _).mono ?_
 rintro e w' ⟨rfl,rfl⟩
 cases c₀
 simp_all [go_sem,bodyPostS,results,Tryz.results34]
theorem Rp.tR (l:List Pk)(n:Nat)(hn:l.length=n):((chkR l).2=0/\okR n (chkF 0 none l)=.returned (.tuple #[]))\/(∃ k,k≠0/\(chkR l).2=k/\okR n (chkF 0 none l)=pan k)\/(∃ (i k:Int),k≠0/\(chkR l).2=k/\okR n (chkF 0 none l)=panAt i k):=by
 obtain⟨x1,x2⟩:=rI hn
 unfold okR
 by_cases aa:64<n
 ·rw[if_pos aa,x1 aa]
  exact Or.inr (Or.inl ⟨4,by decide,rfl,rfl⟩)
 ·rw[if_neg aa,x2 aa]
  by_cases h0:(chkF 0 none l).2=0
  ·exact Or.inl ⟨h0,by rw[h0];rfl⟩
  ·exact Or.inr (Or.inr ⟨_,_,h0,rfl,nh h0⟩)
theorem iQ (A:Option Addr)(n c:Nat)(l:List Pk)(w:World)(hk:KOk w)(hn:l.length=n)(hr:RRow w A l)(hf:RFew l)(ht:(chkR l).2=0->(∀ p∈l,PTxt p)/\(textR l).length<=1000000) :
  Calls Tryz.prog 12 #[.slice A n c] w fun e w'=>e=.returned (.tuple #[.string ⟨(printR l).1.toArray⟩,.int .i64 (printR l).2])/\Below w.heap.size w w':=by
 have aC:∀ (fn:Fn) (first cap:Array Value) (w:World),(Instr.makeFunc fn first cap).run Tryz.prog w=.ok (.func fn first cap) w:=fun _ _ _ _=>rfl
 obtain⟨W1,an⟩:=ex (w.alloc (.cells #[.int .i64 0] 29))
 have ae:Hid (Below w.heap.size w W1):=ab an
 have ah:Hid (∀ u,Below W1.heap.size W1 u->u.cell? ⟨w.heap.size,0,none⟩=some (.int .i64 0)/\u.frozen? ⟨w.heap.size,0,none⟩=false):=fun u hb=>by
  have hs:W1.heap.size=w.heap.size+1:=by rw[<-an];simp
  rw[hs,<-an] at hb
  exact aT w u _ _ hb
 have HQ:=zh (fV A n c l W1 (aa hk.1 ae.out) hn (bc hr ae.out) hf)
 have aj:=zh (tR l n hn)
 have ac:Hid ((chkR l).2=0->n<=64):=fun h=>by
  rcases Nat.lt_or_ge 64 n with h1 | h1
  ·rw[(rI hn).1 h1] at h;exact absurd h (by decide)
  ·exact h1
 have af:Hid ((chkR l).2=0->printR l=if 65536<(textR l).length then ([],4) else (textR l,0)):=fun h=>by unfold printR;rw[if_neg (fun e=>e h)]
 have ad:Hid ((chkR l).2≠0->printR l=([],(chkR l).2)):=fun h=>by unfold printR;rw[if_pos h]
 obtain⟨O,hO⟩:=ex (printR l)
 rw[hO] at af ad ⊢
 obtain⟨X,hX⟩:=ex ((chkR l).2)
 rw[hX] at aj ac af ad ht
 have HK:=zh hk
 have HR:=zh hr
 have HN:=zh hn
 have HT:=zh ht
 clear hk hr hf hX hn hO ht
 go_enter_defers Tryz.func12,Tryz.ntmps12
 go_wp2_with fail
 clear an
 refine HQ.out.mono ?_
 rintro _ z1 ⟨rfl,hb⟩
 have HB:=zh hb
 clear hb HQ
 rcases aj.out with⟨k0,e0⟩ | ⟨k,k0,k1,e0⟩ | ⟨i,k,k0,k1,e0⟩
 ·rw[e0]
  obtain⟨t1,t2⟩:=HT.out k0
  have ao:=ac.out k0
  have am:=af.out k0
  have au:=zh (bt ae.out HB.out)
  have ap:=zh (pq A n c l z1 (av HK.out au.out) HN.out (bc HR.out au.out) (by omega) t1)
  obtain⟨G,hG⟩:=ex (l.map toPk)
  have aw:G.length<=1000000:=by rw[<-hG,List.length_map,HN.out];omega
  have ax:∀ s∈G,s.length<=1000000:=fun s hs=>by
   rw[<-hG] at hs
   obtain⟨p,_,rfl⟩:=List.mem_map.1 hs
   have:=acm p
   omega
  rw[show textR l=Sz.textS (l.map toPk) from rfl,hG] at t2 am
  rw[hG] at ap
  have aq:Hid (∀ (A':Option Addr) (c':Nat) (u:World),Gr.Row Sz.encF 3 u A' G->Calls Tryz.prog 36 #[.slice A' G.length c'] u fun e w'=>e=.returned (.string ⟨(Sz.textS G).toArray⟩)/\Below u.heap.size u w'):=fun A' c' u h=>mu A' G.length c' G u rfl h aw ax t2
  obtain⟨T,hT⟩:=ex (Sz.textS G)
  rw[hT] at aq am
  subst k0
  have ay:=zh am
  clear e0 t1 t2 hG aw ax hT aj ao af ad ac HT am
  go_wp2_with fail
  refine ap.out.mono ?_
  rintro _ z2 ⟨A',c',rfl,al,hb⟩
  have ar:=zh al
  have aB:=zh (bt HB.out hb)
  clear hb al ap
  go_wp2_with fail
  refine (aq.out _ _ _ ar.out).mono ?_
  rintro _ z3 ⟨rfl,hb⟩
  have az:=zh (bt aB.out hb)
  have ak:Hid (Below w.heap.size w z3):=bt ae.out az.out
  obtain⟨c0,f0⟩:=ah.out _ az.out
  clear hb aq
  by_cases hlen:65536<T.length
  ·have d:decide ((T.length:Int)<=65536)=false:=decide_eq_false (by omega)
   have HE:Hid (O=([],4)):=by show _=_;rw[ay.out,if_pos hlen]
   clear hlen
   go_wp2_with fail
   refine (ai _).mono ?_
   rintro _ u ⟨rfl,rfl⟩
   go_wp2_with fail
   refine leaves_cons (f:=34) (args:=#[.pointer (some ⟨w.heap.size,0,none⟩)]) (by simp) (by simp[go_sem]) ?_
   refine (jD ⟨w.heap.size,0,none⟩ 0 _ _ ?_ ?_).mono ?_
   ·simp[go_sem,c0]
   ·simp[go_sem,f0]
   rintro e u' w2 ⟨rfl,rfl,rfl⟩
   simp[Leaves,settle,results,Tryz.results12,go_sem,c0]
   rw[HE.out]
   exact⟨⟨rfl,rfl⟩,ak.out.setCell (Nat.le_refl _) _⟩
  ·have d:decide ((T.length:Int)<=65536)=true:=decide_eq_true (by omega)
   have HE:Hid (O=(T,0)):=by show _=_;rw[ay.out,if_neg hlen]
   clear hlen
   go_wp2_with fail
   refine (ag _).mono ?_
   rintro _ u ⟨rfl,rfl⟩
   go_wp2_with fail
   refine leaves_cons (f:=34) (args:=#[.pointer (some ⟨w.heap.size,0,none⟩)]) (by simp) (by simp[go_sem]) ?_
   refine (tQ ⟨w.heap.size,0,none⟩ 0 _ ?_ ?_).mono ?_
   ·simp[go_sem,c0]
   ·simp[go_sem,f0]
   rintro e u' w3 ⟨rfl,rfl,rfl⟩
   simp[Leaves,settle,results,Tryz.results12,go_sem,c0]
   rw[HE.out]
   exact⟨⟨rfl,rfl⟩,(ak.out.setCell (Nat.le_refl _) _).setCell (Nat.le_refl _) _⟩
 ·rw[e0]
  have HE:Hid (O=([],k)):=by show _=_;rw[ad.out (by rw[k1];exact k0),k1]
  obtain⟨c0,f0⟩:=ah.out _ HB.out
  clear e0 k0 k1 aj af ad
  go_wp2_with fail
  refine leaves_cons (f:=34) (args:=#[.pointer (some ⟨w.heap.size,0,none⟩)]) (by simp) (by simp[go_sem]) ?_
  refine (jD ⟨w.heap.size,0,none⟩ 0 _ _ ?_ ?_).mono ?_
  ·simp[go_sem,c0]
  ·simp[go_sem,f0]
  rintro e u' w2 ⟨rfl,rfl,rfl⟩
  simp[Leaves,settle,results,Tryz.results12,go_sem,c0]
  rw[HE.out]
  exact⟨⟨rfl,rfl⟩,(bt ae.out HB.out).setCell (Nat.le_refl _) _⟩
 ·rw[e0]
  have HE:Hid (O=([],k)):=by show _=_;rw[ad.out (by rw[k1];exact k0),k1]
  clear e0 k0 k1 aj af ad
  go_wp2_with fail
  refine leaves_cons (f:=34) (args:=#[.pointer (some ⟨w.heap.size,0,none⟩)]) (by simp) (by simp[go_sem]) ?_
  refine (pr ⟨w.heap.size,0,none⟩ 0 i _ _ (fun u hb=>(ah.out _ (bt HB.out hb)).1) (fun u hb=>(ah.out _ (bt HB.out hb)).2)).mono ?_
  rintro e u' w2 ⟨rfl,rfl,u,hb,rfl⟩
  have aA:=zh (bt HB.out hb)
  obtain⟨c0,f0⟩:=ah.out _ aA.out
  simp[Leaves,settle,results,Tryz.results12,go_sem,c0]
  rw[HE.out]
  exact⟨⟨rfl,rfl⟩,(bt ae.out aA.out).setCell (Nat.le_refl _) _⟩
end
section
open Go.RowKit Rs At Pg
namespace Pg
theorem yM {s m:List UInt8}(hm:m≠[]):1<=(Lib.split s m).length:=by
 unfold Lib.split
 rw[(dw hm _ _ s rfl).2];omega
theorem oz {β:Type}{rd:List UInt8->Except Int β}{Q:β->Prop}(hr:∀ t x,rd t=.ok x->Q x):∀ (l:List (List UInt8)) (acc r:List β),rdL rd acc l=.ok r->(∀ x∈acc,Q x)->∀ x∈r,Q x
 | [],acc,r,h,ha=>by cases h;exact ha
 | t :: l,acc,r,h,ha=>by
  cases ht:rd t with
  | error e=>rw[dk ht] at h;cases h
  | ok x =>
   rw[gM ht] at h
   refine oz hr l _ r h fun y hy=>?_
   rcases List.mem_append.1 hy with hy | hy
   ·exact ha y hy
   ·rw[List.mem_singleton.1 hy];exact hr t x ht
theorem dy {β:Type}{rd:List UInt8->Except Int β}{Q:β->Prop}(hr:∀ t x,rd t=.ok x->Q x){sep t:List UInt8}(hs:sep≠[]){most:Nat}{r:List β}(h:partsR rd sep most t=.ok r):1<=r.length/\r.length<=most/\∀ x∈r,Q x:=by
 unfold partsR at h
 split at h
 ·rename_i hl
  have h1:=uN _ _ _ h
  have h2:=yM (s:=t) hs
  rw[List.length_nil,Nat.zero_add] at h1
  exact⟨by omega,by omega,oz hr _ _ _ h (by simp)⟩
 ·cases h
theorem oA {t:List UInt8}{a:Atm}(h:atomR t=.ok a):checkA a=0:=by
 unfold atomR at h
 split at h
 ·rename_i h0
  cases h
  exact tm (s:=t) (Prod.ext h0 rfl)
 ·cases h
theorem jE:∀ {l:List Atm},(∀ a∈l,checkA a=0)->atomsE l=0
 | [],_=>rfl
 | a :: l,h=>by
  unfold atomsE
  rw[if_pos (h a (by simp))]
  exact jE fun x hx=>h x (by simp[hx])
theorem oB:∀ {l:List Gv},(∀ a∈l,giveE a=0)->givesE l=0
 | [],_=>rfl
 | a :: l,h=>by
  unfold givesE
  rw[if_pos (h a (by simp))]
  exact oB fun x hx=>h x (by simp[hx])
theorem rN:∀ {l:List (List Atm)},(∀ d∈l,1<=d.length/\d.length<=8/\atomsE d=0)->depsE l=0
 | [],_=>rfl
 | a :: l,h=>by
  obtain⟨h1,h2,h3⟩:=h a (by simp)
  unfold depsE
  rw[if_pos ⟨h1,h2⟩,if_pos h3]
  exact rN fun x hx=>h x (by simp[hx])
theorem aa2 {t:List UInt8}{d:List Atm}(h:depR t=.ok d):1<=d.length/\d.length<=8/\atomsE d=0:=by
 obtain⟨h1,h2,h3⟩:=dy (Q:=fun a=>checkA a=0) (fun _ _=>oA) (by decide) h
 exact⟨h1,h2,jE h3⟩
theorem jF {v:List UInt8}(h:Vm.check v=0):verE (canonOf v)=0:=by
 rw[canonOf,if_pos h]
 unfold verE
 rw[if_pos (Vm.j8 h),if_pos (Vm.j9 h)]
theorem acz {t:List UInt8}{g:Gv}(h:gvR t=.ok g):giveE g=0:=by
 unfold gvR at h
 split at h
 ·rename_i h1
  split at h
  ·split at h
   ·rename_i h3
    cases h
    unfold giveE
    rw[if_pos h1]
    split
    ·rfl
    ·exact jF h3
   ·cases h
  ·cases h
   unfold giveE
   rw[if_pos h1,if_pos rfl]
 ·cases h
theorem acA {t:List UInt8}{b:Nat}(h:wtR t=.ok b):chkW b=0:=by
 unfold wtR at h
 split at h
 ·split at h
  ·rename_i h1;cases h;exact h1
  ·cases h
 ·cases h
def PInv (q:Pk):Prop:=q.deps.length<=16/\depsE q.deps=0/\q.confl.length<=16/\atomsE q.confl=0/\q.prov.length<=16/\givesE q.prov=0/\chkW q.wt=0
theorem yN:PInv zeroP:=by unfold PInv;decide +kernel
theorem aa3 {p q:Pk}{k v:List UInt8}(h:takeR p k v=.ok q)(hp:PInv p):PInv q/\(nameB q.name=true\/(k≠kPkg/\q.name=p.name))/\(verE q.ver=0\/(k≠kVer/\q.ver=p.ver)):=by
 obtain⟨p1,p2,p3,p4,p5,p6,p7⟩:=hp
 unfold takeR at h
 by_cases k1:k=kPkg
 ·rw[if_pos k1] at h
  split at h
  ·rename_i h1;cases h
   exact⟨⟨p1,p2,p3,p4,p5,p6,p7⟩,Or.inl h1,Or.inr ⟨by rw[k1];decide,rfl⟩⟩
  ·cases h
 rw[if_neg k1] at h
 by_cases k2:k=kVer
 ·rw[if_pos k2] at h
  split at h
  ·rename_i h1;cases h
   exact⟨⟨p1,p2,p3,p4,p5,p6,p7⟩,Or.inr ⟨k1,rfl⟩,Or.inl (jF h1)⟩
  ·cases h
 rw[if_neg k2] at h
 by_cases k3:k=kDep
 ·rw[if_pos k3] at h
  split at h
  ·rename_i l h1;cases h
   obtain⟨_,h2,h3⟩:=dy (fun _ _=>aa2) (by decide) h1
   exact⟨⟨h2,rN h3,p3,p4,p5,p6,p7⟩,Or.inr ⟨k1,rfl⟩,Or.inr ⟨k2,rfl⟩⟩
  ·cases h
 rw[if_neg k3] at h
 by_cases k4:k=kCon
 ·rw[if_pos k4] at h
  split at h
  ·rename_i l h1;cases h
   obtain⟨_,h2,h3⟩:=dy (fun _ _=>oA) (by decide) h1
   exact⟨⟨p1,p2,h2,jE h3,p5,p6,p7⟩,Or.inr ⟨k1,rfl⟩,Or.inr ⟨k2,rfl⟩⟩
  ·cases h
 rw[if_neg k4] at h
 by_cases k5:k=kPro
 ·rw[if_pos k5] at h
  split at h
  ·rename_i l h1;cases h
   obtain⟨_,h2,h3⟩:=dy (fun _ _=>acz) (by decide) h1
   exact⟨⟨p1,p2,p3,p4,h2,oB h3,p7⟩,Or.inr ⟨k1,rfl⟩,Or.inr ⟨k2,rfl⟩⟩
  ·cases h
 rw[if_neg k5] at h
 by_cases k6:k=kWei
 ·rw[if_pos k6] at h
  split at h
  ·rename_i l h1;cases h
   exact⟨⟨p1,p2,p3,p4,p5,p6,acA h1⟩,Or.inr ⟨k1,rfl⟩,Or.inr ⟨k2,rfl⟩⟩
  ·cases h
 rw[if_neg k6] at h
 cases h
 exact⟨⟨p1,p2,p3,p4,p5,p6,p7⟩,Or.inr ⟨k1,rfl⟩,Or.inr ⟨k2,rfl⟩⟩
theorem oC (f:Sz.Fld)(l:List Sz.Fld)(k:List UInt8):Sz.hasK (f :: l) k=(f.key==k||Sz.hasK l k):=rfl
theorem oD:∀ (l:List Sz.Fld) (i:Nat) (p q:Pk),readR i p l=.ok q->PInv p->PInv q/\(nameB p.name=true\/Sz.hasK l kPkg=true->nameB q.name=true)/\(verE p.ver=0\/Sz.hasK l kVer=true->verE q.ver=0)
 | [],i,p,q,h,hp=>by
  cases h
  exact⟨hp,fun h=>h.resolve_right (by decide),fun h=>h.resolve_right (by decide)⟩
 | f :: l,i,p,q,h,hp=>by
  cases ht:takeR p f.key f.val with
  | error e=>rw[dQ ht] at h;cases h
  | ok r =>
   rw[dK ht] at h
   obtain⟨t1,t2,t3⟩:=aa3 ht hp
   obtain⟨r1,r2,r3⟩:=oD l _ _ _ h t1
   refine⟨r1,fun hh=>r2 ?_,fun hh=>r3 ?_⟩
   ·rcases t2 with t2 | ⟨t2,t4⟩
    ·exact Or.inl t2
    ·rw[t4]
     refine hh.imp id fun hh=>?_
     rw[oC,beq_eq_false_iff_ne.2 t2,Bool.false_or] at hh
     exact hh
   ·rcases t3 with t3 | ⟨t3,t4⟩
    ·exact Or.inl t3
    ·rw[t4]
     refine hh.imp id fun hh=>?_
     rw[oC,beq_eq_false_iff_ne.2 t3,Bool.false_or] at hh
     exact hh
theorem yO {s:List Sz.Fld}{p:Pk}(h:readP s=.ok p):checkP p=0:=by
 unfold readP at h
 split at h
 ·split at h
  ·rename_i hk
   rw[Sz.rn,Sz.rn,Bool.and_eq_true] at hk
   obtain⟨⟨q1,q2,q3,q4,q5,q6,q7⟩,h1,h2⟩:=oD s 0 zeroP p h yN
   have n:=h1 (Or.inr hk.1)
   have v:=h2 (Or.inr hk.2)
   unfold checkP
   rw[if_neg (by rw[n];decide),if_neg (by rw[v];decide),if_neg (by omega),if_neg (by rw[q2];decide),if_neg (by omega),if_neg (by rw[q4];decide),if_neg (by omega),if_neg (by rw[q6];decide),q7]
  ·cases h
 ·cases h
theorem aa4 {s:List Sz.Fld}{i:Int}{p:Pk}(h:fromP s=(0,i,p)):checkP p=0:=by
 unfold fromP at h
 cases hr:readP s with
 | ok q=>rw[hr] at h;cases h;exact yO hr
 | error x =>
  rw[hr] at h
  have:=aaA hr
  obtain⟨j,e⟩:=x
  simp only[Prod.mk.injEq] at h
  exact absurd h.1 this
end Pg
end
namespace Rp
open Go.RowKit Rs At Pg
theorem b6:Vm.Cmp3 cmpP:=(Vm.pF.pull Pk.name).both (Vm.dB.pull Pk.ver)
theorem iR {a b c:Pk}(h1:cmpP a b<0)(h2:cmpP b c<=0):cmpP a c<0:=by
 rcases Int.lt_or_le (cmpP a c) 0 with h | h
 ·exact h
 ·have e1:=b6.1 a c
  have e2:=b6.1 a b
  have:=b6.2 b c a h2 (by omega)
  omega
def ins (p:Pk):List Pk->Option (List Pk)
 | []=>some [p]
 | q :: l=>if cmpP q p<0 then (ins p l).map (q :: ·) else if cmpP q p=0 then none else some (p :: q :: l)
def Ord (l:List Pk):Prop:=∀ (i j:Nat) (hi:i<l.length) (hj:j<l.length),i<j->cmpP l[i] l[j]<0
def Place (p:Pk) (l:List Pk) (i:Nat):Prop:=i<=l.length/\(∀ (j:Nat) (h:j<l.length),j+1=i->cmpP l[j] p<0)/\∀ h:i<l.length,¬ cmpP l[i] p<0
theorem iB {q:Pk}{l:List Pk}(h:Ord (q :: l)):Ord l:=fun i j hi hj hij=>by
 have:=h (i+1) (j+1) (Nat.succ_lt_succ hi) (Nat.succ_lt_succ hj) (Nat.succ_lt_succ hij)
 simpa using this
theorem oE {p:Pk}:∀ {l:List Pk} {i:Nat},Ord l->Place p l i->ins p l=if ∃ h:i<l.length,cmpP l[i] p=0 then none else some (l.take i++p :: l.drop i)
 | [],i,_,h=>by
  have:i=0:=by have:=h.1;simpa using this
  subst this
  simp[ins]
 | q :: l,0,ho,h=>by
  have h2:=h.2.2 (by simp)
  have h3:¬ cmpP q p<0:=by simpa using h2
  unfold ins
  rw[if_neg h3]
  by_cases he:cmpP q p=0
  ·rw[if_pos he,if_pos ⟨by simp,by simpa using he⟩]
  ·rw[if_neg he,if_neg (fun⟨_,e⟩=>he (by simpa using e))]
   rfl
 | q :: l,i+1,ho,h=>by
  have hq:cmpP q p<0:=by
   have hi:=h.1
   rw[List.length_cons] at hi
   have h1:=h.2.1 i (by rw[List.length_cons];omega) rfl
   by_cases h0:i=0
   ·subst h0;simpa using h1
   ·have h2:=ho 0 i (by simp) (by rw[List.length_cons];omega) (by omega)
    exact iR (by simpa using h2) (Int.le_of_lt h1)
  have hp:Place p l i:=⟨by have:=h.1;rw[List.length_cons] at this;omega,fun j hj e=>by
   have:=h.2.1 (j+1) (by rw[List.length_cons];omega) (by omega)
   simpa using this,fun hi=>by
   have:=h.2.2 (by rw[List.length_cons];omega)
   simpa using this⟩
  unfold ins
  rw[if_pos hq,oE (iB ho) hp]
  by_cases he:∃ h:i<l.length,cmpP l[i] p=0
  ·rw[if_pos he,if_pos (by obtain⟨a,b⟩:=he;exact⟨by rw[List.length_cons];omega,by simpa using b⟩)]
   rfl
  ·rw[if_neg he,if_neg (fun⟨a,b⟩=>he ⟨by rw[List.length_cons] at a;omega,by simpa using b⟩)]
   rfl
theorem nn {p:Pk}:∀ {l r:List Pk},ins p l=some r->∀ x,x∈r↔x=p\/x∈l
 | [],r,h,x=>by cases h;simp
 | q :: l,r,h,x=>by
  unfold ins at h
  split at h
  ·cases hi:ins p l with
   | none=>rw[hi] at h;cases h
   | some s =>
    rw[hi] at h
    cases h
    have:=nn hi x
    simp only[List.mem_cons,this]
    constructor
    ·rintro (h | h | h)
     ·exact Or.inr (Or.inl h)
     ·exact Or.inl h
     ·exact Or.inr (Or.inr h)
    ·rintro (h | h | h)
     ·exact Or.inr (Or.inl h)
     ·exact Or.inl h
     ·exact Or.inr (Or.inr h)
  ·split at h
   ·cases h
   ·cases h;simp
theorem vb {p:Pk}:∀ {l r:List Pk},ins p l=some r->r.length=l.length+1
 | [],r,h=>by cases h;rfl
 | q :: l,r,h=>by
  unfold ins at h
  split at h
  ·cases hi:ins p l with
   | none=>rw[hi] at h;cases h
   | some s=>rw[hi] at h;cases h;simp[vb hi]
  ·split at h
   ·cases h
   ·cases h;simp
theorem rO {q:Pk}{l:List Pk}(h:Ord l)(hq:∀ x∈l,cmpP q x<0):Ord (q :: l):=fun i j hi hj hij=>by
 cases j with
 | zero=>omega
 | succ j =>
  rw[List.length_cons] at hj
  cases i with
  | zero=>simpa using hq _ (List.getElem_mem (by omega))
  | succ i=>simpa using h i j (by rw[List.length_cons] at hi;omega) (by omega) (by omega)
theorem kU {q:Pk}{l:List Pk}(h:Ord (q :: l)):∀ x∈l,cmpP q x<0:=fun x hx=>by
 obtain⟨i,hi,rfl⟩:=List.mem_iff_getElem.1 hx
 exact h 0 (i+1) (by simp) (by rw[List.length_cons];omega) (by omega)
theorem vd {p:Pk}:∀ {l r:List Pk},Ord l->ins p l=some r->Ord r
 | [],r,_,h=>by
  cases h
  intro i j hi hj hij
  simp at hi hj
  omega
 | q :: l,r,ho,h=>by
  unfold ins at h
  split at h
  ·rename_i hq
   cases hi:ins p l with
   | none=>rw[hi] at h;cases h
   | some s =>
    rw[hi] at h
    cases h
    exact rO (vd (iB ho) hi) fun x hx=>by
     rcases (nn hi x).1 hx with rfl | hx
     ·exact hq
     ·exact kU ho x hx
  ·rename_i hq
   split at h
   ·cases h
   ·rename_i hz
    cases h
    have hpq:cmpP p q<0:=by have:=b6.1 q p;omega
    exact rO ho fun x hx=>by
     rcases List.mem_cons.1 hx with rfl | hx
     ·exact hpq
     ·exact iR hpq (Int.le_of_lt (kU ho x hx))
def lineAt (s:List Sz.Fld) (i:Int):Int:=match s[i.toNat]? with
 | some f=>f.line
 | none=>0
def takeL:List (List Sz.Fld)->List Pk->Int × Int × List Pk
 | [],acc=>(0,0,acc)
 | s :: l,acc=>if (fromP s).1≠0 then ((fromP s).1,lineAt s (fromP s).2.1,[]) else match ins (fromP s).2.2 acc with
  | none=>(6,lineAt s 0,[])
  | some r=>takeL l r
def parseR (t:List UInt8):Int × Int × List Pk :=
 if (Sz.parseS t).1≠0 then ((Sz.parseS t).1,(Sz.parseS t).2.1,[]) else if 64<(Sz.parseS t).2.2.length then (4,0,[]) else takeL (Sz.parseS t).2.2 []
theorem ve (ks:List (List UInt8)):∀ (l:List Sz.Fld) (i:Nat) (last:Int),(Sz.ordP ks i last l).2≠0->(i:Int)<=(Sz.ordP ks i last l).1/\(Sz.ordP ks i last l).1<i+l.length
 | [],i,last,h=>by exact absurd rfl h
 | f :: l,i,last,h=>by
  unfold Sz.ordP at h ⊢
  split
  ·simp;omega
  ·split
   ·rename_i h1 h2
    rw[h1] at h
    dsimp only at h
    rw[if_pos h2] at h
    have:=ve ks l (i+1) _ h
    simp only[List.length_cons]
    omega
   ·simp;omega
theorem rP:∀ (l:List Sz.Fld) (i:Nat) (p:Pk) (j e:Int),readR i p l=.error (j,e)->(i:Int)<=j/\j<i+l.length/\e≠0
 | [],i,p,j,e,h=>by cases h
 | f :: l,i,p,j,e,h=>by
  cases ht:takeR p f.key f.val with
  | ok q =>
   rw[dK ht] at h
   have:=rP l (i+1) q j e h
   simp only[List.length_cons]
   omega
  | error x =>
   rw[dQ ht] at h
   cases h
   exact⟨Int.le_refl _,by simp only[List.length_cons];omega,rz ht⟩
theorem acB {s:List Sz.Fld}{k i:Int}{p:Pk}(h:fromP s=(k,i,p))(h0:s≠[]):0<=i/\i<s.length/\(k≠0->p=zeroP):=by
 have hl:0<s.length:=List.length_pos_iff.2 h0
 unfold fromP at h
 cases hr:readP s with
 | ok q=>rw[hr] at h;cases h;exact⟨Int.le_refl _,by omega,fun e=>absurd rfl e⟩
 | error x =>
  obtain⟨j,e⟩:=x
  rw[hr] at h
  cases h
  unfold readP at hr
  split at hr
  ·split at hr
   ·have:=rP _ _ _ _ _ hr
    exact⟨by omega,by omega,fun _=>rfl⟩
   ·cases hr;exact⟨Int.le_refl _,by omega,fun _=>rfl⟩
  ·rename_i hc
   have:=ve keys6 s 0 (-1) hc
   injection hr with hr
   rw[hr] at this
   exact⟨by simpa using this.1,by simpa using this.2,fun _=>rfl⟩
theorem dN:∀ (ls:List (List UInt8)) (n:Nat) (acc:List (List Sz.Fld)) (last:List Sz.Fld) (k m:Int) (r:List (List Sz.Fld)),Sz.readL n ls acc last=(k,m,r)->(∀ s∈acc,s≠[])->∀ s∈r,s≠[]
 | [],n,acc,last,k,m,r,h,ha=>by
  rw[Sz.jw] at h
  cases h
  split
  ·exact ha
  ·rename_i hl
   intro s hs
   rcases List.mem_append.1 hs with hs | hs
   ·exact ha s hs
   ·rw[List.mem_singleton.1 hs];intro e;rw[e] at hl;exact hl rfl
 | x :: ls,n,acc,last,k,m,r,h,ha=>by
  rw[Sz.eB] at h
  split at h
  ·split at h
   ·cases h;intro s hs;cases hs
   ·rename_i hc
    refine dN ls _ _ _ k m r h fun s hs=>?_
    rcases List.mem_append.1 hs with hs | hs
    ·exact ha s hs
    ·rw[List.mem_singleton.1 hs];intro e;rw[e] at hc;exact hc rfl
  ·cases hf:Sz.fieldP x n with
   | none=>rw[hf] at h;cases h;intro s hs;cases hs
   | some f =>
    rw[hf] at h
    dsimp only at h
    split at h
    ·cases h;intro s hs;cases hs
    ·exact dN ls _ _ _ k m r h ha
theorem np (t:List UInt8):∀ s∈(Sz.parseS t).2.2,s≠[]:=by
 obtain⟨X,hX⟩:=ex (Sz.parseS t)
 rw[hX]
 obtain⟨k,m,r⟩:=X
 unfold Sz.parseS at hX
 split at hX
 ·cases hX;intro s hs;cases hs
 ·split at hX
  ·exact dN _ _ _ _ k m r hX (fun s hs=>by cases hs)
  ·cases hX;intro s hs;cases hs
end Rp
end Go.Proofs.YtkoaljpfoekgkaaGreatDoor
