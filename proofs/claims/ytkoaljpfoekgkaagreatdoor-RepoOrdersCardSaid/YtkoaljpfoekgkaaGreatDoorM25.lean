/- Part 25 of what the laws lean on. -/
import Derived.Test.YtkoaljpfoekgkaaGreatDoorM24
import Derived.Laws.CopyOwn
import Derived.Lib.AppendZerosOnto
import Derived.Lib.Overlaps
set_option maxRecDepth 100000
set_option maxHeartbeats 6400000
namespace Go.Proofs.YtkoaljpfoekgkaaGreatDoor
section
open Go.RowKit Rs At Pg Rp
attribute [local go_sem ↓] Go.wp_at_zero Go.wp_at_succ
attribute [local go_sem] Pg.av
def Rp.encI (x:Int):List Value:=[.int .i64 x]
theorem Rp.fitsI:Rg.Fits Rp.encI 1:=⟨fun _=>rfl,fun x u hu=>by
 obtain rfl:u=.int .i64 x:=by simpa [Rp.encI] using hu
 rfl⟩
theorem Rp.sliceI:Rg.SliceT Tryz.prog Rp.encI 1 48 3:=⟨fitsI,by decide,by kernel_rfl,Rg.bL (z:=.int .i64 0) (b:=8) (by kernel_rfl) (by rfl) (by decide)⟩
abbrev Rp.IRow (w:World) (A:Option Addr) (l:List Int):Prop:=Rg.Row Rp.encI 1 w A l
def Rp.numF (f:Pk->Bool):Nat->List Pk->List Int
 | _,[]=>[]
 | i,p :: l=>if f p=true then (i:Int) :: numF f (i+1) l else numF f (i+1) l
theorem Rp.y6 {f:Pk->Bool}{l:List Pk}{k:Nat}{X out:List Int}(hk:k<l.length)(h:out++numF f k (l.drop k)=X):(f l[k]=true->(out++[(k:Int)])++numF f (k+1) (l.drop (k+1))=X)/\(f l[k]=false->out++numF f (k+1) (l.drop (k+1))=X):=by
 rw[List.drop_eq_getElem_cons hk,numF] at h
 refine⟨fun e=>?_,fun e=>?_⟩
 ·rw[if_pos e] at h;rw[List.append_assoc];exact h
 ·rw[if_neg (by rw[e];decide)] at h;exact h
theorem Rp.fZ {α:Type}{enc:α->List Value}{K:Nat}{T:TypeId}{v:Value}{l:List α}{w wr W5:World}{o:Obj}(hB:Hid (Below w.heap.size w wr/\w.heap.size<=wr.heap.size))(hO:Hid (Rg.Own enc K wr w.heap.size T v l))(hg:(wr.alloc o).grownBy W5 v.ownBlock) :
  Hid (Below w.heap.size w W5/\w.heap.size<=W5.heap.size):=by
 have h1:Below w.heap.size w (wr.alloc o):=hB.out.1.alloc hB.out.2 _
 have e:(wr.alloc o).heap.size=wr.heap.size+1:=by simp
 have h2:w.heap.size<=(wr.alloc o).heap.size:=by have:=hB.out.2;omega
 exact⟨h1.trans (Rg.au (Rg.own_below hO.out ((Below.refl _ _).alloc (Nat.le_refl _) _)) h2 hg),Nat.le_trans h2 hg.size⟩
def Rp.NumRet (w:World) (X:List Int) (e:Ending) (w':World):Prop:=∃ v,e=.returned v/\Rg.Own Rp.encI 1 w' w.heap.size 3 v X/\Below w.heap.size w w'
theorem wH (p:Pk)(D C G:Option Addr)(dn dc cn cc gn gc b1:Nat)(nm pn pv:List UInt8)(wt:Nat)(w:World)(e0:p.name=pn)(hx1:w.cell? ⟨b1,0,none⟩=some (.string ⟨nm.toArray⟩))(hb1:b1<w.heap.size) :
  Calls Tryz.prog 51 #[.agg #[.string ⟨pn.toArray⟩,.string ⟨pv.toArray⟩,.slice D dn dc,.slice C cn cc,.slice G gn gc,.float .f64 wt],.pointer (some ⟨b1,0,none⟩)] w fun e w'=>e=.returned (.bool (decide (p.name=nm)))/\Below w.heap.size w w':=by
 rw[e0]
 obtain⟨V,hV⟩:=ex (w.alloc (.cells #[.string ⟨pn.toArray⟩,.string ⟨pv.toArray⟩,.slice D dn dc,.slice C cn cc,.slice G gn gc,.float .f64 wt] 39))
 have HB:Hid (Below w.heap.size w V):=ab hV
 have k1:=(HB.out.cell (p:=⟨b1,0,none⟩) hb1).trans hx1
 obtain⟨c0,-,-,-,-,-⟩:=ak hV (Below.refl _ _)
 obtain⟨x,hx⟩:=ex (pn==nm)
 have HX:Hid (decide (pn=nm)=x):=by
  show _=_
  rw[<-hx,Bool.eq_iff_iff,decide_eq_true_iff,beq_iff_eq]
 clear e0 hx1 hb1
 go_enter Tryz.func51,Tryz.ntmps51
 go_wp2_with fail
 go_ret
 exact⟨by rw[HX.out];rfl,HB.out⟩
theorem rZ (A:Option Addr)(n c:Nat)(l:List Pk)(b1:Nat)(nm:List UInt8)(w:World)(hn:l.length=n)(hr:RRow w A l)(hl:n<=100000)(hx1:w.cell? ⟨b1,0,none⟩=some (.string ⟨nm.toArray⟩))(hb1:b1<w.heap.size) :
  Calls Tryz.prog 43 #[.slice A n c,.func (.func 51) #[] #[.pointer (some ⟨b1,0,none⟩)]] w (NumRet w (numF (fun p=>decide (p.name=nm)) 0 l)):=by
 have HR:=zh hr
 have HN:=zh hn
 have HC:=zh (fun (p:Pk) (D C G:Option Addr) (dn dc cn cc gn gc:Nat) (pn pv:List UInt8) (wt:Nat) (e0:p.name=pn) (W:World) (h:Below w.heap.size w W)=>wH p D C G dn dc cn cc gn gc b1 nm pn pv wt W e0 ((h.cell (p:=⟨b1,0,none⟩) hb1).trans hx1) (Nat.lt_of_lt_of_le hb1 h.size))
 obtain⟨f,hf⟩:∃ f:Pk->Bool,(fun p=>decide (p.name=nm))=f:=⟨_,rfl⟩
 have HF:Hid (∀ p,(fun p=>decide (p.name=nm)) p=f p):=fun p=>by rw[<-hf]
 rw[hf]
 obtain⟨X,hX⟩:=ex (numF f 0 l)
 rw[hX]
 have HX:=zh hX
 clear hr hn hx1 hb1 hX hf
 go_enter Tryz.func43,Tryz.ntmps43
 go_wp2_with fail
 go_loopw [5,10] (fun v i wr=>∃ (k:Nat) (out:List Int),k<=n/\i=.int .i64 k/\Hid (out++numF f k (l.drop k)=X)/\Hid (out.length<=k)/\Hid (Rg.Own Rp.encI 1 wr w.heap.size 3 v out)/\Hid (Below w.heap.size w wr/\w.heap.size<=wr.heap.size)) (fun _ i _=>n-(intOf i).toNat)
 case atStart=>exact⟨0,[],Nat.zero_le _,rfl,HX.out,Nat.le_refl _,Rg.aw _ _ _,Below.refl _ _,Nat.le_refl _⟩
 case round =>
  obtain⟨k,out,hk,rfl,HA,ae,HO,HB⟩:=hrel
  by_cases aK:k<n
  ·have af:k<l.length:=by rw[HN.out];exact aK
   obtain⟨ad,D,dc,C,cc,G,gc,rfl,pd,pc,pg,hc⟩:=bn HR.out k af
   obtain⟨c0,c1,c2,c3,c4,c5⟩:=hc _ HB.out.1
   obtain⟨hy,an⟩:=y6 af HA.out
   have ac:=List.getElem_mem af
   obtain⟨a,ha⟩:=ex (l[k])
   rw[ha] at c0 c1 c2 c3 c4 c5 hy an ac pd pc pg
   have HY:=zh hy
   have ai:=zh an
   obtain⟨au,ao⟩:=ex a.name
   obtain⟨av,ax⟩:=ex a.ver
   obtain⟨az,aA⟩:=ex a.deps.length
   obtain⟨aB,aC⟩:=ex a.confl.length
   obtain⟨aD,aE⟩:=ex a.prov.length
   obtain⟨aF,aG⟩:=ex a.wt
   rw[ao] at c0
   rw[ax] at c1
   rw[aA] at c2
   rw[aC] at c3
   rw[aE] at c4
   rw[aG] at c5
   obtain⟨V,hV⟩:=ex (wr.alloc (.cells #[.string ⟨au.toArray⟩,.string ⟨av.toArray⟩,.slice D az dc,.slice C aB cc,.slice G aD gc,.float .f64 aF] 39))
   have HV:Hid (Below wr.heap.size wr V):=ab hV
   have ap:Hid (Below w.heap.size w V):=HB.out.1.trans (HV.out.mono HB.out.2)
   obtain⟨g0,g1,g2,g3,g4,g5⟩:=ak hV (Below.refl _ _)
   have aj:=HC.out a D C G az dc aB cc aD gc au av aF ao V ap.out
   rw[HF.out] at aj
   have aq:=zh aj
   clear hc hy an af ha ao ax aA aC aE aG aj ac pd pc pg
   go_wp2_with fail
   clear hV
   refine aq.out.mono ?_
   rintro _ w1 ⟨rfl,aH⟩
   have al:Hid (Below wr.heap.size wr w1):=bt HV.out aH
   have ag:Hid (Below w.heap.size w w1/\w.heap.size<=w1.heap.size):=⟨HB.out.1.trans (al.out.mono HB.out.2),Nat.le_trans HB.out.2 al.out.size⟩
   have ah:=zh (Rg.own_below HO.out al.out)
   clear aH c0 c1 c2 c3 c4 c5 g0 g1 g2 g3 g4 g5 aq HB HO HV ap
   cases hp:f a
   ·have am:=zh (ai.out hp)
    have aa:Hid (out.length<=k+1):=Nat.le_succ_of_le ae.out
    clear hp HY ai ae
    go_wp2_with fail
    go_roundw
    case rel=>exact⟨k+1,out,by omega,by go_num,am.out,aa.out,ah.out,ag.out⟩
    case measure=>simp[intOf];omega
   ·have am:=zh (HY.out hp)
    have aa:Hid ((out++[(k:Int)]).length<=k+1):=by show _<=_;rw[List.length_append];exact Nat.succ_le_succ ae.out
    have ar:Hid (out.length+1<=1000000):=by show _<=_;have:=ae.out;omega
    clear hp HY ai ae
    go_wp2_with (at_builtin;refine Rg.aO sliceI rfl (.tmp 18) (.tmp 20) rfl w.heap.size _ out [(k:Int)] rfl (Rg.own_below ah.out ((Below.refl _ _).alloc (Nat.le_refl _) _)) _ _ rfl (Rg.ay w1 _ _ _ (by rfl)) (Nat.zero_lt_succ _) ar.out ?b1 ?_)
    case b1=>have:=ag.out.2;simp;omega
    intro v5 W5 aI aJ aQ
    have aL:=fZ ag ah aJ
    have aM:=zh aI
    clear aI aJ aQ ah ag ar
    go_wp2_with fail
    go_roundw
    case rel=>exact⟨k+1,out++[(k:Int)],by omega,by go_num,am.out,aa.out,aM.out,aL.out⟩
    case measure=>simp[intOf];omega
  ·obtain rfl:k=n:=by omega
   have aN:Hid (out=X):=by
    show _=_
    have:=HA.out
    rw[List.drop_eq_nil_of_le (by rw[HN.out];exact Nat.le_refl _)] at this
    rw[<-this];exact (List.append_nil _).symm
   have aP:=zh (aN.out ▸ HO.out)
   go_wp2_with fail
   go_ret
   exact⟨_,rfl,aP.out,HB.out.1⟩
theorem px (A:Option Addr)(n c:Nat)(l:List Pk)(nm:List UInt8)(w:World)(hn:l.length=n)(hr:RRow w A l)(hl:n<=100000) :
  Calls Tryz.prog 24 #[.slice A n c,.string ⟨nm.toArray⟩] w (NumRet w (numF (fun p=>decide (p.name=nm)) 0 l)):=by
 have aa:∀ (fn:Fn) (first cap:Array Value) (w:World),(Instr.makeFunc fn first cap).run Tryz.prog w=.ok (.func fn first cap) w:=fun _ _ _ _=>rfl
 obtain⟨V,hV⟩:=ex (w.alloc (.cells #[.string ⟨nm.toArray⟩] 9))
 have HB:Hid (Below w.heap.size w V):=ab hV
 have HC:=zh (rZ A n c l w.heap.size nm V hn (bH hr HB.out) hl (by rw[<-hV];simp[go_sem]) (by rw[<-hV];simp))
 obtain⟨X,hX⟩:=ex (numF (fun p=>decide (p.name=nm)) 0 l)
 rw[hX] at HC ⊢
 clear hn hr hX
 go_enter Tryz.func24,Tryz.ntmps24
 go_wp2_with fail
 clear hV
 refine HC.out.mono ?_
 rintro _ u ⟨v,rfl,ho,hb⟩
 have HU:Hid (Below w.heap.size w u):=bt HB.out hb
 have HO:=zh (Rg.qi HB.out.size ho)
 clear ho hb HC
 go_wp2_with fail
 go_ret
 exact⟨_,rfl,HO.out,HU.out⟩
theorem r5 (p:Pk)(D C G:Option Addr)(dn dc cn cc gn gc b1:Nat)(nm:List UInt8)(B:Option Addr)(m d:Nat)(r:List Sp)(pn pv:List UInt8)(wt:Nat)(w:World)(hw:MaxOk w)(hg:GRow w G p.prov)(hgn:p.prov.length=gn)(hgl:gn<=1000000)(ho:∀ g∈p.prov,g.ver=[]\/Vm.check g.ver=0)(hv:Vm.check p.ver=0)(hm:r.length=m)(hq:SRow w B r)(hm2:m<=64)(hk:checkR r=0)(e0:p.name=pn)(e1:p.ver=pv)(e5:p.wt=wt)(hx1:Bx2 b1 nm B m d w)(hb1:b1<w.heap.size) :
  Calls Tryz.prog 44 #[.agg #[.string ⟨pn.toArray⟩,.string ⟨pv.toArray⟩,.slice D dn dc,.slice C cn cc,.slice G gn gc,.float .f64 wt],.pointer (some ⟨b1,0,none⟩)] w fun e w'=>e=.returned (.bool (metP p ⟨nm,r⟩))/\Below w.heap.size w w':=by
 obtain⟨V,hV⟩:=ex (w.alloc (.cells #[.string ⟨pn.toArray⟩,.string ⟨pv.toArray⟩,.slice D dn dc,.slice C cn cc,.slice G gn gc,.float .f64 wt] 39))
 have HB:Hid (Below w.heap.size w V):=ab hV
 have HC:=zh (abe (aa hw HB.out) p D C G dn dc cn cc gn gc nm B m d r (Rg.ah hg HB.out) hgn hgl ho hv hm (aj hq HB.out) hm2 hk e0 e1 e5 (b:=metP p ⟨nm,r⟩) rfl)
 obtain⟨k0,k1⟩:=aK hx1 hb1 HB.out
 obtain⟨c0,c1,c2,c3,c4,c5⟩:=ak hV (Below.refl _ _)
 clear hw hg hgn hgl ho hv hm hq hm2 hk e0 e1 e5 hx1 hb1
 go_enter Tryz.func44,Tryz.ntmps44
 go_wp2_with fail
 refine HC.out.mono ?_
 rintro _ u ⟨rfl,hb⟩
 have HU:Hid (Below w.heap.size w u):=bt HB.out hb
 clear hb
 go_wp2_with fail
 go_ret
 exact⟨rfl,HU.out⟩
theorem nr (A:Option Addr)(n c:Nat)(l:List Pk)(b1:Nat)(nm:List UInt8)(B:Option Addr)(m d:Nat)(r:List Sp)(w:World)(hn:l.length=n)(hr:RRow w A l)(hl:n<=100000)(hw:MaxOk w)(hO:∀ p∈l,Vm.check p.ver=0/\(∀ g∈p.prov,g.ver=[]\/Vm.check g.ver=0)/\p.prov.length<=1000000)(hm:r.length=m)(hq:SRow w B r)(hm2:m<=64)(hk:checkR r=0)(hx1:Bx2 b1 nm B m d w)(hb1:b1<w.heap.size) :
  Calls Tryz.prog 43 #[.slice A n c,.func (.func 44) #[] #[.pointer (some ⟨b1,0,none⟩)]] w (NumRet w (numF (fun p=>metP p ⟨nm,r⟩) 0 l)):=by
 have HR:=zh hr
 have HN:=zh hn
 have HC:=zh (fun (p:Pk) (hp:p∈l) (D C G:Option Addr) (dn dc cn cc gn gc:Nat) (pn pv:List UInt8) (wt:Nat) (hgn:p.prov.length=gn) (e0:p.name=pn) (e1:p.ver=pv) (e5:p.wt=wt) (W:World) (h:Below w.heap.size w W) (hg:GRow W G p.prov)=>r5 p D C G dn dc cn cc gn gc b1 nm B m d r pn pv wt W (aa hw h) hg hgn (hgn ▸ (hO p hp).2.2) (hO p hp).2.1 (hO p hp).1 hm (aj hq h) hm2 hk e0 e1 e5 (aK hx1 hb1 h) (Nat.lt_of_lt_of_le hb1 h.size))
 obtain⟨f,hf⟩:∃ f:Pk->Bool,(fun p=>metP p ⟨nm,r⟩)=f:=⟨_,rfl⟩
 have HF:Hid (∀ p,(fun p=>metP p ⟨nm,r⟩) p=f p):=fun p=>by rw[<-hf]
 rw[hf]
 obtain⟨X,hX⟩:=ex (numF f 0 l)
 rw[hX]
 have HX:=zh hX
 clear hr hn hw hO hm hq hm2 hk hx1 hb1 hX hf
 go_enter Tryz.func43,Tryz.ntmps43
 go_wp2_with fail
 go_loopw [5,10] (fun v i wr=>∃ (k:Nat) (out:List Int),k<=n/\i=.int .i64 k/\Hid (out++numF f k (l.drop k)=X)/\Hid (out.length<=k)/\Hid (Rg.Own Rp.encI 1 wr w.heap.size 3 v out)/\Hid (Below w.heap.size w wr/\w.heap.size<=wr.heap.size)) (fun _ i _=>n-(intOf i).toNat)
 case atStart=>exact⟨0,[],Nat.zero_le _,rfl,HX.out,Nat.le_refl _,Rg.aw _ _ _,Below.refl _ _,Nat.le_refl _⟩
 case round =>
  obtain⟨k,out,hk,rfl,HA,af,HO,HB⟩:=hrel
  by_cases aP:k<n
  ·have ag:k<l.length:=by rw[HN.out];exact aP
   obtain⟨ad,D,dc,C,cc,G,gc,rfl,pd,pc,pg,hc⟩:=bn HR.out k ag
   obtain⟨c0,c1,c2,c3,c4,c5⟩:=hc _ HB.out.1
   obtain⟨hy,ar⟩:=y6 ag HA.out
   have ac:=List.getElem_mem ag
   obtain⟨a,ha⟩:=ex (l[k])
   rw[ha] at c0 c1 c2 c3 c4 c5 hy ar ac pd pc pg
   have HY:=zh hy
   have am:=zh ar
   obtain⟨aC,au⟩:=ex a.name
   obtain⟨aD,av⟩:=ex a.ver
   obtain⟨aE,aF⟩:=ex a.deps.length
   obtain⟨aG,aH⟩:=ex a.confl.length
   obtain⟨aI,ax⟩:=ex a.prov.length
   obtain⟨aJ,az⟩:=ex a.wt
   rw[au] at c0
   rw[av] at c1
   rw[aF] at c2
   rw[aH] at c3
   rw[ax] at c4
   rw[az] at c5
   obtain⟨V,hV⟩:=ex (wr.alloc (.cells #[.string ⟨aC.toArray⟩,.string ⟨aD.toArray⟩,.slice D aE dc,.slice C aG cc,.slice G aI gc,.float .f64 aJ] 39))
   have HV:Hid (Below wr.heap.size wr V):=ab hV
   have an:Hid (Below w.heap.size w V):=HB.out.1.trans (HV.out.mono HB.out.2)
   obtain⟨g0,g1,g2,g3,g4,g5⟩:=ak hV (Below.refl _ _)
   have ao:=HC.out a ac D C G aE dc aG cc aI gc aC aD aJ ax au av az V an.out (Rg.ah pg an.out)
   rw[HF.out] at ao
   have aA:=zh ao
   clear hc hy ar ag ha au av aF aH ax az ao ac pd pc pg
   go_wp2_with fail
   clear hV
   refine aA.out.mono ?_
   rintro _ w1 ⟨rfl,aL⟩
   have ap:Hid (Below wr.heap.size wr w1):=bt HV.out aL
   have ai:Hid (Below w.heap.size w w1/\w.heap.size<=w1.heap.size):=⟨HB.out.1.trans (ap.out.mono HB.out.2),Nat.le_trans HB.out.2 ap.out.size⟩
   have al:=zh (Rg.own_below HO.out ap.out)
   clear aL c0 c1 c2 c3 c4 c5 g0 g1 g2 g3 g4 g5 aA HB HO HV an
   cases hp:f a
   ·have aq:=zh (am.out hp)
    have ae:Hid (out.length<=k+1):=Nat.le_succ_of_le af.out
    clear hp HY am af
    go_wp2_with fail
    go_roundw
    case rel=>exact⟨k+1,out,by omega,by go_num,aq.out,ae.out,al.out,ai.out⟩
    case measure=>simp[intOf];omega
   ·have aq:=zh (HY.out hp)
    have ae:Hid ((out++[(k:Int)]).length<=k+1):=by show _<=_;rw[List.length_append];exact Nat.succ_le_succ af.out
    have aB:Hid (out.length+1<=1000000):=by show _<=_;have:=af.out;omega
    clear hp HY am af
    go_wp2_with (at_builtin;refine Rg.aO sliceI rfl (.tmp 18) (.tmp 20) rfl w.heap.size _ out [(k:Int)] rfl (Rg.own_below al.out ((Below.refl _ _).alloc (Nat.le_refl _) _)) _ _ rfl (Rg.ay w1 _ _ _ (by rfl)) (Nat.zero_lt_succ _) aB.out ?b1 ?_)
    case b1=>have:=ai.out.2;simp;omega
    intro v5 W5 aM aN aU
    have aQ:=fZ ai al aN
    have aR:=zh aM
    clear aM aN aU al ai aB
    go_wp2_with fail
    go_roundw
    case rel=>exact⟨k+1,out++[(k:Int)],by omega,by go_num,aq.out,ae.out,aR.out,aQ.out⟩
    case measure=>simp[intOf];omega
  ·obtain rfl:k=n:=by omega
   have aS:Hid (out=X):=by
    show _=_
    have:=HA.out
    rw[List.drop_eq_nil_of_le (by rw[HN.out];exact Nat.le_refl _)] at this
    rw[<-this];exact (List.append_nil _).symm
   have aT:=zh (aS.out ▸ HO.out)
   go_wp2_with fail
   go_ret
   exact⟨_,rfl,aT.out,HB.out.1⟩
theorem mz (A:Option Addr)(n c:Nat)(l:List Pk)(nm:List UInt8)(B:Option Addr)(m d:Nat)(r:List Sp)(w:World)(hw:MaxOk w)(hn:l.length=n)(hr:RRow w A l)(hl:n<=100000)(hO:∀ p∈l,Vm.check p.ver=0/\(∀ g∈p.prov,g.ver=[]\/Vm.check g.ver=0)/\p.prov.length<=1000000)(hm:r.length=m)(hq:SRow w B r)(hm2:m<=64)(hk:checkR r=0) :
  Calls Tryz.prog 15 #[.slice A n c,.agg #[.string ⟨nm.toArray⟩,.slice B m d]] w (NumRet w (numF (fun p=>metP p ⟨nm,r⟩) 0 l)):=by
 have ac:∀ (fn:Fn) (first cap:Array Value) (w:World),(Instr.makeFunc fn first cap).run Tryz.prog w=.ok (.func fn first cap) w:=fun _ _ _ _=>rfl
 obtain⟨V,hV⟩:=ex (w.alloc (.cells #[.string ⟨nm.toArray⟩,.slice B m d] 54))
 have HB:Hid (Below w.heap.size w V):=ab hV
 have HC:=zh (nr A n c l w.heap.size nm B m d r V hn (bH hr HB.out) hl (aa hw HB.out) hO hm (aj hq HB.out) hm2 hk (by rw[<-hV];exact dG w nm B m d _) (by rw[<-hV];simp))
 obtain⟨X,hX⟩:=ex (numF (fun p=>metP p ⟨nm,r⟩) 0 l)
 rw[hX] at HC ⊢
 clear hw hn hr hO hm hq hm2 hk hX
 go_enter Tryz.func15,Tryz.ntmps15
 go_wp2_with fail
 clear hV
 refine HC.out.mono ?_
 rintro _ u ⟨v,rfl,ho,hb⟩
 have HU:Hid (Below w.heap.size w u):=bt HB.out hb
 have HO:=zh (Rg.qi HB.out.size ho)
 clear ho hb HC
 go_wp2_with fail
 go_ret
 exact⟨_,rfl,HO.out,HU.out⟩
end
section
open Go.RowKit Rs At Pg Rp
attribute [local go_sem ↓] Go.wp_at_zero Go.wp_at_succ
attribute [local go_sem] Pg.av
namespace Rp
theorem sliceST:Rg.SliceT Tryz.prog encO 1 77 103:=⟨fitsO,by decide,by kernel_rfl,Rg.bL (z:=.slice none 0 0) (b:=24) (by kernel_rfl) (by rfl) (by decide)⟩
theorem zeroST:∀ i,Tryz.prog.info? 103=some i->∀ z,i.zero=some z->∀ u∈z.cells,IsSl u:=jT (z0:=.slice none 0 0) (by kernel_rfl) (fun u hu=>by simp[Value.cells] at hu;exact⟨_,_,_,hu⟩)
def GOwn (w:World) (B:Nat) (v:Value) (t:List (List Sz.Fld)):Prop:=∃ ds,Rg.Own encO 1 w B 103 v ds/\Pure IsSl w v/\Gr.In Sz.encF 3 w ds t
theorem abf (w:World)(B:Nat):GOwn w B (.slice none 0 0) []:=⟨[],Rg.aw _ _ _,pure_nil _ _,rfl,fun i d l h=>by simp at h⟩
theorem wI {w w':World}{B:Nat}{v:Value}{t:List (List Sz.Fld)}(h:GOwn w B v t)(hb:Below w.heap.size w w'):GOwn w' B v t:=by
 obtain⟨ds,h1,h2,h3⟩:=h
 exact⟨ds,Rg.own_below h1 hb,cQ h2 h1 hb,Gr.g8 h3 hb⟩
theorem abg {w:World}{B:Nat}{v:Value}{t:List (List Sz.Fld)}(h:GOwn w B v t):∃ A c,v=.slice A t.length c/\Gr.Row Sz.encF 3 w A t:=by
 obtain⟨ds,h1,_,h3⟩:=h
 obtain⟨A,c,hv,hr,_,_⟩:=Rg.aA fitsO h1
 rw[h3.1] at hv
 exact⟨A,c,hv,ds,hr,h3⟩
theorem abh (f:Sz.Fld):∃ t,(Sz.encF f)[0]?=some (.string t):=⟨_,rfl⟩
theorem acL {w u:World}{v:Value}{ds:List Desc}{t:List (List Sz.Fld)}{A:Option Addr}{n c:Nat}{l:List Sz.Fld}(h:Gr.In Sz.encF 3 w ds t)(hr:Rg.Row Sz.encF 3 w A l)(hn:l.length=n)(hp:Pure IsSl w v)(hg:w.grownBy u v.ownBlock):Gr.In Sz.encF 3 u (ds++[(A,n,c)]) (t++[l]):=by
 have far:∀ {B:Option Addr} {m:List Sz.Fld},Rg.Row Sz.encF 3 w B m->Rg.Row Sz.encF 3 u B m:=fun hm=>by
  refine bW hm (cM hg) fun h0 a ha e=>?_
  cases ho:v.ownBlock with
  | none=>rw[ho] at e;cases e
  | some g=>rw[ho] at e;exact yv hm abh (hp g ho) h0 a ha e
 refine⟨by rw[List.length_append,List.length_append,h.1];rfl,fun i d m e1 e2=>?_⟩
 rcases aI e1 with⟨q1,q2⟩ | ⟨q1,q2⟩
 ·rcases aI e2 with⟨_,p2⟩ | ⟨p1,_⟩
  ·exact⟨(h.2 i d m q2 p2).1,far (h.2 i d m q2 p2).2⟩
  ·have:=h.1;omega
 ·rcases aI e2 with⟨p1,_⟩ | ⟨_,p2⟩
  ·have:=h.1;omega
  ·subst q2 p2;exact⟨hn.symm,far hr⟩
def SofRet (w:World) (t:List (List Sz.Fld)) (e:Ending) (w':World):Prop:=∃ A c,e=.returned (.slice A t.length c)/\Gr.Row Sz.encF 3 w' A t/\Below w.heap.size w w'
def textR (l:List Pk):List UInt8:=Sz.textS (l.map toPk)
def printR (l:List Pk):List UInt8 × Int:=if (chkR l).2≠0 then ([],(chkR l).2) else if 65536<(textR l).length then ([],4) else (textR l,0)
end Rp
theorem py (A:Option Addr)(n c:Nat)(l:List Pk)(w:World)(hk:KOk w)(hn:l.length=n)(hr:RRow w A l)(hl:n<=1000)(ht:∀ p∈l,PTxt p) :
  Calls Tryz.prog 37 #[.slice A n c] w (SofRet w (l.map toPk)):=by
 have HK:=zh hk
 have HR:=zh hr
 have HN:=zh hn
 have HT:=zh ht
 clear hk hr hn ht
 go_enter Tryz.func37,Tryz.ntmps37
 go_wp2_with fail
 go_loopw [3,8] (fun v i wr=>∃ k:Nat,k<=n/\i=.int .i64 k/\Hid (GOwn wr w.heap.size v ((l.take k).map toPk))/\Hid (Below w.heap.size w wr/\w.heap.size<=wr.heap.size)) (fun _ i _=>n-(intOf i).toNat)
 case atStart=>exact⟨0,Nat.zero_le _,rfl,abf _ _,Below.refl _ _,Nat.le_refl _⟩
 case round =>
  obtain⟨k,hk,rfl,HO,HB⟩:=hrel
  by_cases aQ:k<n
  ·have ai:k<l.length:=by rw[HN.out];exact aQ
   obtain⟨ad,D,dc,C,cc,G,gc,rfl,pd,pc,pg,hc⟩:=bn HR.out k ai
   obtain⟨c0,c1,c2,c3,c4,c5⟩:=hc _ HB.out.1
   have ac:=HT.out _ (List.getElem_mem ai)
   have ae:(l.take (k+1)).map toPk=(l.take k).map toPk++[toPk l[k]]:=by rw[List.take_succ_eq_append_getElem ai,List.map_append];rfl
   obtain⟨a,ha⟩:=ex (l[k])
   rw[ha] at c0 c1 c2 c3 c4 c5 ac ae pd pc pg
   obtain⟨aW,ar⟩:=ex a.name
   obtain⟨aY,au⟩:=ex a.ver
   obtain⟨aH,av⟩:=ex a.deps.length
   obtain⟨aI,aw⟩:=ex a.confl.length
   obtain⟨aJ,ax⟩:=ex a.prov.length
   obtain⟨aZ,aA⟩:=ex a.wt
   rw[ar] at c0
   rw[au] at c1
   rw[av] at c2
   rw[aw] at c3
   rw[ax] at c4
   rw[aA] at c5
   obtain⟨t0,aC⟩:=ex ((l.take k).map toPk)
   have aF:t0.length=k:=by rw[<-aC,List.length_map,List.length_take];omega
   rw[aC] at HO ae
   obtain⟨V,hV⟩:=ex (wr.alloc (.cells #[.string ⟨aW.toArray⟩,.string ⟨aY.toArray⟩,.slice D aH dc,.slice C aI cc,.slice G aJ gc,.float .f64 aZ] 39))
   have HV:Hid (Below wr.heap.size wr V):=ab hV
   have af:Hid (Below w.heap.size w V):=HB.out.1.trans (HV.out.mono HB.out.2)
   obtain⟨ts,aD⟩:=ex (toPk a)
   have aj:=zh (adP (az HK.out af.out) a D C G aH dc aI cc aJ gc (aX pd af.out) av (aB pc af.out) aw (Rg.ah pg af.out) ax ac ar au aA (n:=ts.length) (by rw[aD]))
   rw[aD] at aj ae
   obtain⟨m,hm⟩:=ex ts.length
   rw[hm] at aj
   have HM:=zh hm
   obtain⟨g0,g1,g2,g3,g4,g5⟩:=ak hV (Below.refl _ _)
   have aR:=zh ae
   have aS:=zh aF
   clear hc ai ha ar au av aw ax aA ac pd pc pg ae aC aF aD hm
   go_wp2_with fail
   clear hV
   refine aj.out.mono ?_
   rintro _ w1 ⟨F,fc,rfl,aa,aK⟩
   have al:Hid (Below wr.heap.size wr w1):=bt HV.out aK
   have am:Hid (Below w.heap.size w w1/\w.heap.size<=w1.heap.size):=⟨HB.out.1.trans (al.out.mono HB.out.2),Nat.le_trans HB.out.2 al.out.size⟩
   have aG:=zh (wI HO.out al.out)
   have an:=zh aa
   clear aK aa c0 c1 c2 c3 c4 c5 g0 g1 g2 g3 g4 g5 HB HO HV aj af
   obtain⟨ds,aL,aM,aN⟩:=aG.out
   have ag:=zh aL
   have ao:=zh aM
   have ap:=zh aN
   have aT:Hid (ds.length+1<=1000000):=by show _<=_;have h1:=ap.out.1;have h2:=aS.out;omega
   clear aL aM aN
   go_wp2_with (at_builtin;refine dx sliceST zeroST vb rfl (.tmp 12) (.tmp 15) rfl w.heap.size _ ds [(F,m,fc)] rfl (Rg.own_below ag.out ((Below.refl _ _).alloc (Nat.le_refl _) _)) (cQ ao.out ag.out ((Below.refl _ _).alloc (Nat.le_refl _) _)) _ _ rfl (Rg.ay w1 _ _ _ (by rfl)) (Nat.zero_lt_succ _) aT.out ?b1 ?_)
   case b1=>have:=am.out.2;simp;omega
   intro v5 W5 aO aP aE a0
   have aU:=fZ am ag aE
   have aV:Hid (GOwn W5 w.heap.size v5 ((l.take (k+1)).map toPk)):=by
    show GOwn _ _ _ _
    rw[aR.out]
    exact⟨_,aO,aP,acL (Gr.g8 ap.out ((Below.refl _ _).alloc (Nat.le_refl _) _)) (Rg.ah an.out ((Below.refl _ _).alloc (Nat.le_refl _) _)) HM.out (cQ ao.out ag.out ((Below.refl _ _).alloc (Nat.le_refl _) _)) aE⟩
   clear aO aP aE a0 aG am ag ao ap
   go_wp2_with fail
   go_roundw
   case rel=>exact⟨k+1,by omega,by go_num,aV.out,aU.out⟩
   case measure=>simp[intOf];omega
  ·obtain rfl:k=n:=by omega
   have hO:=HO.out
   rw[List.take_of_length_le (by rw[HN.out];exact Nat.le_refl _)] at hO
   obtain⟨A',c',hv,aa⟩:=abg hO
   have aq:Hid (SofRet w (l.map toPk) (.returned (.slice A' (l.map toPk).length c')) _):=⟨A',c',rfl,aa,HB.out.1⟩
   clear hO HO aa
   subst hv
   go_wp2_with fail
   go_ret
   exact aq.out
theorem ns (k n:Int){o:Int}(w:World) :
  Calls Tryz.prog 35 #[.iface 98 (.agg #[.int .i64 k,.int .i64 n]),.int .i64 o] w fun e w'=>e=.returned (.int .i64 n)/\Below w.heap.size w w':=by
 go_enter Tryz.func35,Tryz.ntmps35
 go_wp2_with fail
 refine (bq k n _).mono ?_
 rintro _ w' ⟨rfl,hb⟩
 have HB:=zh hb
 clear hb
 go_wp2_with fail
 go_ret
 exact⟨rfl,HB.out⟩
theorem jG (p:Addr)(x:Int)(n:Int)(w:World)(hc:w.cell? p=some (.int .i64 x))(hz:w.frozen? p=false) :
  CallsD Tryz.prog 34 #[.pointer (some p)] (.panicking [{ v:=.iface 29 (.int .i64 n),recovered:=false }]) w fun e u' w' =>
   e=.returned (.tuple #[])/\u'=.panicking [{ v:=.iface 29 (.int .i64 n),recovered:=true }]/\w'=w.setCell p (.int .i64 n):=by
 refine callsD_of_wpS Tryz.func34 rfl fun c₀ cs hu=>?_
 apply wpS_region
 simp[wpOpsS,go_sem,recoverD,hu,Tryz.ntmps34]
 refine (bE n _).mono ?_
 rintro e w' ⟨rfl,rfl⟩
 simp[go_sem,hc,hz,bodyPostS,results,Tryz.results34]
theorem pz (p:Addr)(x:Int)(k n:Int)(w:World)(hc:∀ u,Below w.heap.size w u->u.cell? p=some (.int .i64 x))(hz:∀ u,Below w.heap.size w u->u.frozen? p=false) :
  CallsD Tryz.prog 34 #[.pointer (some p)] (.panicking [{ v:=.iface 98 (.agg #[.int .i64 k,.int .i64 n]),recovered:=false }]) w fun e u' w' =>
   e=.returned (.tuple #[])/\u'=.panicking [{ v:=.iface 98 (.agg #[.int .i64 k,.int .i64 n]),recovered:=true }]/\∃ u,Below w.heap.size w u/\w'=u.setCell p (.int .i64 n):=by
 refine callsD_of_wpS Tryz.func34 rfl fun c₀ cs hu=>?_
 apply wpS_region
 simp[wpOpsS,go_sem,recoverD,hu,Tryz.ntmps34]
 refine (ns k n _).mono ?_
 rintro e w' ⟨rfl,hb⟩
 simp[go_sem,hc _ hb,hz _ hb,bodyPostS,results,Tryz.results34]
 exact⟨w',hb,rfl⟩
theorem tU (p:Addr)(x:Int)(w:World)(hc:w.cell? p=some (.int .i64 x))(hz:w.frozen? p=false) :
  CallsD Tryz.prog 34 #[.pointer (some p)] .returning w fun e u' w'=>e=.returned (.tuple #[])/\u'=.returning/\w'=w.setCell p (.int .i64 0):=by
 refine callsD_of_wpS Tryz.func34 rfl fun c₀ cs hu=>?_
 apply wpS_region
 simp[wpOpsS,go_sem,recoverD,hu,Tryz.ntmps34]
 refine (bD _).mono ?_
 rintro e w' ⟨rfl,rfl⟩
 cases c₀
 simp_all [go_sem,bodyPostS,results,Tryz.results34]
theorem Rp.tV (l:List Pk)(n:Nat)(hn:l.length=n):((chkR l).2=0/\okR n (chkF 0 none l)=.returned (.tuple #[]))\/(∃ k,k≠0/\(chkR l).2=k/\okR n (chkF 0 none l)=pan k)\/(∃ (i k:Int),k≠0/\(chkR l).2=k/\okR n (chkF 0 none l)=panAt i k):=by
 obtain⟨x1,x2⟩:=rU hn
 unfold okR
 by_cases aa:64<n
 ·rw[if_pos aa,x1 aa]
  exact Or.inr (Or.inl ⟨4,by decide,rfl,rfl⟩)
 ·rw[if_neg aa,x2 aa]
  by_cases h0:(chkF 0 none l).2=0
  ·exact Or.inl ⟨h0,by rw[h0];rfl⟩
  ·exact Or.inr (Or.inr ⟨_,_,h0,rfl,np h0⟩)
theorem pA (A:Option Addr)(n c:Nat)(l:List Pk)(w:World)(hk:KOk w)(hn:l.length=n)(hr:RRow w A l)(hf:RFew l)(ht:(chkR l).2=0->(∀ p∈l,PTxt p)/\(textR l).length<=1000000) :
  Calls Tryz.prog 12 #[.slice A n c] w fun e w'=>e=.returned (.tuple #[.string ⟨(printR l).1.toArray⟩,.int .i64 (printR l).2])/\Below w.heap.size w w':=by
 have aC:∀ (fn:Fn) (first cap:Array Value) (w:World),(Instr.makeFunc fn first cap).run Tryz.prog w=.ok (.func fn first cap) w:=fun _ _ _ _=>rfl
 obtain⟨W1,an⟩:=ex (w.alloc (.cells #[.int .i64 0] 29))
 have ae:Hid (Below w.heap.size w W1):=ab an
 have ah:Hid (∀ u,Below W1.heap.size W1 u->u.cell? ⟨w.heap.size,0,none⟩=some (.int .i64 0)/\u.frozen? ⟨w.heap.size,0,none⟩=false):=fun u hb=>by
  have hs:W1.heap.size=w.heap.size+1:=by rw[<-an];simp
  rw[hs,<-an] at hb
  exact aT w u _ _ hb
 have HQ:=zh (fY A n c l W1 (aa hk.1 ae.out) hn (bH hr ae.out) hf)
 have aj:=zh (tV l n hn)
 have ac:Hid ((chkR l).2=0->n<=64):=fun h=>by
  rcases Nat.lt_or_ge 64 n with h1 | h1
  ·rw[(rU hn).1 h1] at h;exact absurd h (by decide)
  ·exact h1
 have af:Hid ((chkR l).2=0->printR l=if 65536<(textR l).length then ([],4) else (textR l,0)):=fun h=>by unfold printR;rw[if_neg (fun e=>e h)]
 have ad:Hid ((chkR l).2≠0->printR l=([],(chkR l).2)):=fun h=>by unfold printR;rw[if_pos h]
 obtain⟨O,hO⟩:=ex (printR l)
 rw[hO] at af ad ⊢
 obtain⟨X,hX⟩:=ex ((chkR l).2)
 rw[hX] at aj ac af ad ht
 have HK:=zh hk
 have HR:=zh hr
 have HN:=zh hn
 have HT:=zh ht
 clear hk hr hf hX hn hO ht
 go_enter_defers Tryz.func12,Tryz.ntmps12
 go_wp2_with fail
 clear an
 refine HQ.out.mono ?_
 rintro _ z1 ⟨rfl,hb⟩
 have HB:=zh hb
 clear hb HQ
 rcases aj.out with⟨k0,e0⟩ | ⟨k,k0,k1,e0⟩ | ⟨i,k,k0,k1,e0⟩
 ·rw[e0]
  obtain⟨t1,t2⟩:=HT.out k0
  have ao:=ac.out k0
  have am:=af.out k0
  have au:=zh (bt ae.out HB.out)
  have ap:=zh (py A n c l z1 (az HK.out au.out) HN.out (bH HR.out au.out) (by omega) t1)
  obtain⟨G,hG⟩:=ex (l.map toPk)
  have av:G.length<=1000000:=by rw[<-hG,List.length_map,HN.out];omega
  have aw:∀ s∈G,s.length<=1000000:=fun s hs=>by
   rw[<-hG] at hs
   obtain⟨p,_,rfl⟩:=List.mem_map.1 hs
   have:=acx p
   omega
  rw[show textR l=Sz.textS (l.map toPk) from rfl,hG] at t2 am
  rw[hG] at ap
  have aq:Hid (∀ (A':Option Addr) (c':Nat) (u:World),Gr.Row Sz.encF 3 u A' G->Calls Tryz.prog 36 #[.slice A' G.length c'] u fun e w'=>e=.returned (.string ⟨(Sz.textS G).toArray⟩)/\Below u.heap.size u w'):=fun A' c' u h=>my A' G.length c' G u rfl h av aw t2
  obtain⟨T,hT⟩:=ex (Sz.textS G)
  rw[hT] at aq am
  subst k0
  have ax:=zh am
  clear e0 t1 t2 hG av aw hT aj ao af ad ac HT am
  go_wp2_with fail
  refine ap.out.mono ?_
  rintro _ z2 ⟨A',c',rfl,al,hb⟩
  have ar:=zh al
  have aB:=zh (bt HB.out hb)
  clear hb al ap
  go_wp2_with fail
  refine (aq.out _ _ _ ar.out).mono ?_
  rintro _ z3 ⟨rfl,hb⟩
  have ay:=zh (bt aB.out hb)
  have ak:Hid (Below w.heap.size w z3):=bt ae.out ay.out
  obtain⟨c0,f0⟩:=ah.out _ ay.out
  clear hb aq
  by_cases hlen:65536<T.length
  ·have d:decide ((T.length:Int)<=65536)=false:=decide_eq_false (by omega)
   have HE:Hid (O=([],4)):=by show _=_;rw[ax.out,if_pos hlen]
   clear hlen
   go_wp2_with fail
   refine (ai _).mono ?_
   rintro _ u ⟨rfl,rfl⟩
   go_wp2_with fail
   refine leaves_cons (f:=34) (args:=#[.pointer (some ⟨w.heap.size,0,none⟩)]) (by simp) (by simp[go_sem]) ?_
   refine (jG ⟨w.heap.size,0,none⟩ 0 _ _ ?_ ?_).mono ?_
   ·simp[go_sem,c0]
   ·simp[go_sem,f0]
   rintro e u' w2 ⟨rfl,rfl,rfl⟩
   simp[Leaves,settle,results,Tryz.results12,go_sem,c0]
   rw[HE.out]
   exact⟨⟨rfl,rfl⟩,ak.out.setCell (Nat.le_refl _) _⟩
  ·have d:decide ((T.length:Int)<=65536)=true:=decide_eq_true (by omega)
   have HE:Hid (O=(T,0)):=by show _=_;rw[ax.out,if_neg hlen]
   clear hlen
   go_wp2_with fail
   refine (ag _).mono ?_
   rintro _ u ⟨rfl,rfl⟩
   go_wp2_with fail
   refine leaves_cons (f:=34) (args:=#[.pointer (some ⟨w.heap.size,0,none⟩)]) (by simp) (by simp[go_sem]) ?_
   refine (tU ⟨w.heap.size,0,none⟩ 0 _ ?_ ?_).mono ?_
   ·simp[go_sem,c0]
   ·simp[go_sem,f0]
   rintro e u' w3 ⟨rfl,rfl,rfl⟩
   simp[Leaves,settle,results,Tryz.results12,go_sem,c0]
   rw[HE.out]
   exact⟨⟨rfl,rfl⟩,(ak.out.setCell (Nat.le_refl _) _).setCell (Nat.le_refl _) _⟩
 ·rw[e0]
  have HE:Hid (O=([],k)):=by show _=_;rw[ad.out (by rw[k1];exact k0),k1]
  obtain⟨c0,f0⟩:=ah.out _ HB.out
  clear e0 k0 k1 aj af ad
  go_wp2_with fail
  refine leaves_cons (f:=34) (args:=#[.pointer (some ⟨w.heap.size,0,none⟩)]) (by simp) (by simp[go_sem]) ?_
  refine (jG ⟨w.heap.size,0,none⟩ 0 _ _ ?_ ?_).mono ?_
  ·simp[go_sem,c0]
  ·simp[go_sem,f0]
  rintro e u' w2 ⟨rfl,rfl,rfl⟩
  simp[Leaves,settle,results,Tryz.results12,go_sem,c0]
  rw[HE.out]
  exact⟨⟨rfl,rfl⟩,(bt ae.out HB.out).setCell (Nat.le_refl _) _⟩
 ·rw[e0]
  have HE:Hid (O=([],k)):=by show _=_;rw[ad.out (by rw[k1];exact k0),k1]
  clear e0 k0 k1 aj af ad
  go_wp2_with fail
  refine leaves_cons (f:=34) (args:=#[.pointer (some ⟨w.heap.size,0,none⟩)]) (by simp) (by simp[go_sem]) ?_
  refine (pz ⟨w.heap.size,0,none⟩ 0 i _ _ (fun u hb=>(ah.out _ (bt HB.out hb)).1) (fun u hb=>(ah.out _ (bt HB.out hb)).2)).mono ?_
  rintro e u' w2 ⟨rfl,rfl,u,hb,rfl⟩
  have aA:=zh (bt HB.out hb)
  obtain⟨c0,f0⟩:=ah.out _ aA.out
  simp[Leaves,settle,results,Tryz.results12,go_sem,c0]
  rw[HE.out]
  exact⟨⟨rfl,rfl⟩,(bt ae.out aA.out).setCell (Nat.le_refl _) _⟩
end
section
open Go.RowKit Rs At Pg
theorem er {P:Program}(w:World)(dT sT ty elem:TypeId)(g o dLen dCap:Nat)(a:Addr)(sLen sCap:Nat)(cur:Array Value)(t:TypeId)(cs:List Value)(K m:Nat)
  (hu:P.underlying dT=some (.slice elem)) (hs:(P.info? elem).map (·.size)=some K) (hg:w.heap[g]?=some (.cells cur t (0,0))) (hm:min sLen dLen=m) (hn:cs.length=m*K)
  (hsrc:∀ j v,cs[j]?=some v->w.cell? (a.add j)=some v) (hfit:o+cs.length<=cur.size) (h1:∀ v∈cs,v.oneCell'=true) :
  (Builtin.copy_ #[dT,sT] ty #[.slice (some ⟨g,o,none⟩) dLen dCap,.slice (some a) sLen sCap]).run P w=.ok (goInt m) (w.setRow g (cur.toList.take o++cs++cur.toList.drop (o+cs.length)).toArray):=by
 have hl:=run_loadCells_list (P:=P) w a cs hsrc
 have aa:=run_storeCells_at P g o t cs 0 cur w hg (by simpa using hfit) h1
 rw[hn] at hl
 cases hq:P.info? elem with
 | none=>simp[hq] at hs
 | some i =>
  have hi:i.size=K:=by simpa [hq] using hs
  have ab:Nat.min sLen dLen=m:=hm
  simp[Builtin.copy_,run_underlying hu,Builtin.lenOf,Builtin.firstCells,sizeOf,typeInfo,hq,hi,ab,hl,aa]
theorem mA {P:Program}{w:World}{ops:Array Oper}{o:Oper}{a:Act}{G:Act->World->Prop}{Q:Exit->Act->World->Prop}{E:Prop}(hgd:o.guard=none)(d s:Operand)(dT sT:TypeId)
  (ho:o.op=.call { callee:=.builtin .copy,args:=#[d,s],argTypes:=#[dT,sT] }) (elem:TypeId) (K m:Nat) (hu:P.underlying dT=some (.slice elem)) (hsz:(P.info? elem).map (·.size)=some K)
  (g off dLen dCap:Nat) (ad:Addr) (sLen sCap:Nat) (hd:a.eval d=.slice (some ⟨g,off,none⟩) dLen dCap) (hs:a.eval s=.slice (some ad) sLen sCap)
  (cur:List Value) (t:TypeId) (hg:w.heap[g]?=some (.cells cur.toArray t (0,0))) (cs:List Value) (hm:min sLen dLen=m) (hn:cs.length=m*K)
  (hsrc:∀ j v,cs[j]?=some v->w.cell? (ad.add j)=some v) (hfit:off+cs.length<=cur.length) (h1:∀ v∈cs,v.oneCell'=true)
  (h:G (a.put o.dst (goInt m)) (w.setRow g (cur.take off++cs++cur.drop (off+cs.length)).toArray)):if Region.wanted o (yielded ops a.tmps)=true then Oper.wp P o a w G Q else E:=by
 have hw:Region.wanted o (yielded ops a.tmps)=true:=by simp[Region.wanted,hgd]
 rw[if_pos hw]
 have aa:=er (P:=P) w dT sT o.type elem g off dLen dCap ad sLen sCap cur.toArray t cs K m hu hsz hg hm hn hsrc (by simpa using hfit) h1
 rw[List.toList_toArray] at aa
 unfold Oper.wp
 simp only[execOp,ho,resolve,invoke,builtin,Sem.run_bind,Sem.run_pure,Result.andThen_ok,List.map_toArray,List.map_cons,List.map_nil,hd,hs,aa]
 exact h
theorem nt {P:Program}{w:World}(t tx ty e e':TypeId)(ht:P.underlying t=some (.slice e))(hx:P.underlying tx=some (.slice e')){v:Value}(hv:IsSl v)(x:Value):(Builtin.append_ #[t,tx] ty #[v,x]).run P w=(Builtin.append_ #[t,t] ty #[v,x]).run P w:=by
 obtain⟨A,n,c,rfl⟩:=hv
 simp[Builtin.append_,run_underlying ht,run_underlying hx]
theorem nu {α:Type}{P:Program}{enc:α->List Value}{K:Nat}{ST SX T:TypeId}{w:World}{κ:Value->Prop}(hT:Rg.SliceT P enc K ST T){e':TypeId}(hX:P.underlying SX=some (.slice e'))(hk:∀ i,P.info? T=some i->∀ z,i.zero=some z->∀ u∈z.cells,κ u)(hke:∀ x,∀ u∈enc x,κ u)
  {ops:Array Oper} {rest:List Oper} {o:Oper} {a:Act} {Q:Exit->Act->World->Prop} (hgd:o.guard=none) (sl x:Operand)
  (ho:o.op=.call { callee:=.builtin .append,args:=#[sl,x],argTypes:=#[ST,SX] })
  (B:Nat) (v:Value) (l m:List α) (hs:a.eval sl=v) (hown:Rg.Own enc K w B T v l) (hp:Pure κ w v) (ad:Addr) (c n:Nat) (hl:m.length=n) (hx:a.eval x=.slice (some ad) n c)
  (hnews:∀ j u,(Rg.flat enc m)[j]?=some u->w.cell? (ad.add j)=some u) (hm:0<n) (hsz:l.length+n<=1000000) (hB:B<=w.heap.size)
  (h:∀ v' w',Rg.Own enc K w' B T v' (l++m)->Pure κ w' v'->w.grownBy w' v.ownBlock->(v'.ownBlock=v.ownBlock\/∃ H,v'.ownBlock=some H/\w.heap.size<=H)->IsSl v'->wpList P ops Q rest (a.put o.dst v') w'):wpList P ops Q (o :: rest) a w:=by
 subst hl
 obtain⟨i,z,hi,ab,af,ae,hb⟩:=hT.info
 have aa:(l.length+m.length)*i.bytes<=140737488355328:=by
  have:(l.length+m.length)*i.bytes<=1000000*1000:=Nat.mul_le_mul hsz hb
  omega
 have ac:l.length+m.length<=maxLen:=by unfold maxLen;omega
 refine wpList_plain hgd fun _ hK=>?_
 obtain⟨g,cap,w',hr,h2,h3,h4,_⟩:=run_append_lies (P:=P) w ST o.type B T i z K i.bytes hT.under hi ab ae rfl af hT.pos v l.length (Rg.flat enc l) hown ad m.length c (Rg.flat enc m) (Rg.bM hT.fits m) hnews (Rg.bJ hT.fits m) hm ac aa hB _ rfl
 have h6:=pure_run ST o.type B T i z K i.bytes hT.under hi ab ae rfl l.length (Rg.flat enc l) hown ad m.length c (Rg.flat enc m) (Rg.bM hT.fits m) hnews (Rg.bJ hT.fits m) hm ac aa hr hp (fun u hu=>by
  obtain⟨y,_,hy⟩:=List.mem_flatMap.1 hu
  exact hke y u hy) (hk i hi z ab)
 rw[<-nt ST SX o.type T e' hT.under hX (by
  obtain⟨A,c2,ag,_⟩:=Rg.aA hT.fits hown
  exact⟨_,_,_,ag⟩)] at hr
 unfold Oper.wp execOp
 simp only[ho,resolve,invoke,builtin,Sem.run_bind,Sem.run_pure,Result.andThen_ok,List.map_toArray,List.map_cons,List.map_nil,hs,hx,hr]
 refine hK _ _ (h _ w' ?_ h6 h3 ?_ ⟨_,_,_,rfl⟩)
 ·unfold Rg.Own
  rw[Rg.cj,List.length_append]
  exact h2
 ·rcases h4 with h4 | h4
  ·exact Or.inl h4.symm
  ·exact Or.inr ⟨g,rfl,by rw[h4];exact Nat.le_refl _⟩
theorem y7 {α:Type}(X D Y L:List α)(hX:L.take X.length=X)(hl:X.length+D.length+Y.length<=L.length) :
  (((L.take (X.length+D.length)++Y++L.drop (X.length+D.length+Y.length)).take X.length++D++(L.take (X.length+D.length)++Y++L.drop (X.length+D.length+Y.length)).drop (X.length+D.length)).take (X.length+D.length+Y.length)=X++D++Y) /\
  (((L.take (X.length+D.length)++Y++L.drop (X.length+D.length+Y.length)).take X.length++D++(L.take (X.length+D.length)++Y++L.drop (X.length+D.length+Y.length)).drop (X.length+D.length)).length=L.length):=by
 have e1:(L.take (X.length+D.length)++Y++L.drop (X.length+D.length+Y.length)).take X.length=X:=by
  rw[List.append_assoc,List.take_append_of_le_length (by rw[List.length_take];omega),List.take_take,Nat.min_eq_left (by omega),hX]
 have e2:(L.take (X.length+D.length)++Y++L.drop (X.length+D.length+Y.length)).drop (X.length+D.length)=Y++L.drop (X.length+D.length+Y.length):=by
  rw[List.append_assoc,List.drop_append_of_le_length (by rw[List.length_take];omega),List.drop_of_length_le (by rw[List.length_take];omega)]
  rfl
 rw[e1,e2]
 constructor
 ·rw[<-List.append_assoc,List.take_append_of_le_length (by simp only[List.length_append];omega)]
  exact List.take_of_length_le (by simp only[List.length_append];omega)
 ·simp only[List.length_append,List.length_drop];omega
theorem acM {α:Type}(X D Y Z:List α)(hl:D.length+Y.length<=Z.length) :
  (((((X++Z).take X.length++D++(X++Z).drop (X.length+D.length)).take (X.length+D.length))++Y++((X++Z).take X.length++D++(X++Z).drop (X.length+D.length)).drop (X.length+D.length+Y.length)).take (X.length+D.length+Y.length)=X++D++Y) /\
  (((((X++Z).take X.length++D++(X++Z).drop (X.length+D.length)).take (X.length+D.length))++Y++((X++Z).take X.length++D++(X++Z).drop (X.length+D.length)).drop (X.length+D.length+Y.length)).length=X.length+Z.length):=by
 have e0:(X++Z).take X.length=X:=by simp
 have e1:(X++Z).drop (X.length+D.length)=Z.drop D.length:=by rw[List.drop_append];simp
 rw[e0,e1]
 have e2:(X++D++Z.drop D.length).take (X.length+D.length)=X++D:=by
  rw[List.take_append_of_le_length (by simp)]
  exact List.take_of_length_le (by simp)
 have e3:(X++D++Z.drop D.length).drop (X.length+D.length+Y.length)=Z.drop (D.length+Y.length):=by
  rw[List.drop_append,List.drop_of_length_le (by simp only[List.length_append];omega),List.nil_append,List.drop_drop]
  congr 1
  simp only[List.length_append]
  omega
 rw[e2,e3]
 constructor
 ·rw[List.take_append_of_le_length (by simp only[List.length_append];omega)]
  exact List.take_of_length_le (by simp only[List.length_append];omega)
 ·simp only[List.length_append,List.length_drop];omega
end
section
open Go.RowKit Rs At Pg Rp
namespace Rp
def Off {α:Type} (o:Option Nat) (A:Option Addr) (l:List α):Prop:=0<l.length->∀ a,A=some a->o≠some a.block
def PFar (o:Option Nat) (w:World) (d:PD) (p:Pk):Prop:=(d.nm=p.name/\d.vr=p.ver/\d.D.2.1=p.deps.length/\d.C.2.1=p.confl.length/\d.G.2.1=p.prov.length/\d.wt=p.wt) /\
 (∃ ds,Rg.Row encO 1 w d.D.1 ds/\DIn w ds p.deps/\Off o d.D.1 ds/\∀ (i:Nat) (e:Desc) (l:List Atm),ds[i]?=some e->p.deps[i]?=some l->Off o e.1 l)/\(ARow w d.C.1 p.confl/\Off o d.C.1 p.confl)/\GRow w d.G.1 p.prov/\Off o d.G.1 p.prov
theorem abi {o:Option Nat}{w:World}{d:PD}{p:Pk}(h:PFar o w d p):POne w d p:=by
 obtain⟨⟨h1,h2,h3,h4,h5,h6⟩,⟨ds,d1,d2,_,_⟩,⟨h8,_⟩,h9,_⟩:=h
 exact⟨h1,h2,h3,h4,h5,h6,⟨ds,d1,d2⟩,h8,h9⟩
theorem r6 {o:Option Nat}{w u:World}{d:PD}{p:Pk}(h:PFar o w d p)(hb:But o w u)(hg:∀ g,o=some g->∀ j x,w.cell? ⟨g,j,none⟩=some x->NoB x):PFar o u d p:=by
 obtain⟨h1,⟨ds,d1,d2,d3,d4⟩,⟨h8,f8⟩,h9,f9⟩:=h
 exact⟨h1,⟨ds,bW d1 hb d3,⟨d2.1,fun i e l e1 e2=>⟨(d2.2 i e l e1 e2).1,dL (d2.2 i e l e1 e2).2 hb (d4 i e l e1 e2) hg⟩⟩,d3,d4⟩,⟨dL h8 hb f8 hg,f8⟩,bW h9 hb f9,f9⟩
theorem mB {o:Option Nat}{w u:World}{d:PD}{p:Pk}(h:PFar o w d p)(hb:Below w.heap.size w u):PFar o u d p:=by
 obtain⟨h1,⟨ds,d1,d2,d3,d4⟩,⟨h8,f8⟩,h9,f9⟩:=h
 exact⟨h1,⟨ds,Rg.ah d1 hb,fP d2 hb,d3,d4⟩,⟨aB h8 hb,f8⟩,Rg.ah h9 hb,f9⟩
theorem nv {α:Type}{enc:α->List Value}{K:Nat}{w:World}{A:Option Addr}{l:List α}{H:Nat}(h:Rg.Row enc K w A l)(hH:w.heap.size<=H):0<l.length->∀ a,A=some a->some H≠some a.block:=fun h0 a ha e=>by
 obtain⟨a',e',hl,_⟩:=h h0
 rw[ha] at e';cases e'
 have:=Option.some.inj e
 omega
theorem r8 {w:World}{A:Option Addr}{l:List Atm}{H:Nat}(h:ARow w A l)(hH:w.heap.size<=H):Off (some H) A l:=by
 obtain⟨ds,h1,h2⟩:=h
 intro h0
 exact nv h1 hH (by rw[h2.1];exact h0)
theorem y8 {B:Nat}{w:World}{p:Pk}{D C G:Option Addr}(h:PRows B w p D C G){o:Option Nat}(ho:∀ g,o=some g->g<B)(dc cc gc:Nat):PFar o w ⟨p.name,p.ver,(D,p.deps.length,dc),(C,p.confl.length,cc),(G,p.prov.length,gc),p.wt⟩ p:=by
 obtain⟨⟨⟨ds,d1,d2,d3⟩,fD⟩,⟨h8,fC⟩,h9,fG⟩:=h
 have far:∀ {A:Option Addr},AFr B A->∀ a,A=some a->o≠some a.block:=fun hA a ha e=>by
  have:=ho _ e
  have:=hA a ha
  omega
 exact⟨⟨rfl,rfl,rfl,rfl,rfl,rfl⟩,⟨ds,d1,d2,fun _=>far fD,fun i e l e1 _ _=>far (fun a ha=>d3 i e e1 a ha)⟩,⟨h8,fun _=>far fC⟩,h9,fun _=>far fG⟩
def POwn (w:World) (B:Nat) (T:TypeId) (v:Value) (ds:List PD) (l:List Pk):Prop:=Rg.Own encP 6 w B T v ds/\Pure NoB w v/\ds.length=l.length/\∀ (i:Nat) (d:PD) (p:Pk),ds[i]?=some d->l[i]?=some p->PFar v.ownBlock w d p
theorem abj (w:World)(B:Nat)(T:TypeId):POwn w B T (.slice none 0 0) [] []:=⟨Rg.aw _ _ _,pure_nil _ _,rfl,fun i d p h=>by simp at h⟩
theorem mC {w w':World}{B:Nat}{T:TypeId}{v:Value}{ds:List PD}{l:List Pk}(h:POwn w B T v ds l)(hb:Below w.heap.size w w'):POwn w' B T v ds l:=⟨Rg.own_below h.1 hb,cQ h.2.1 h.1 hb,h.2.2.1,fun i d p h1 h2=>mB (h.2.2.2 i d p h1 h2) hb⟩
theorem iH {w:World}{B:Nat}{T:TypeId}{v:Value}{ds:List PD}{l:List Pk}(h:POwn w B T v ds l):∃ A c,v=.slice A l.length c/\RRow w A l/\l.length<=c:=by
 obtain⟨A,c,hv,hr,hc,_⟩:=Rg.aA fitsP h.1
 rw[h.2.2.1] at hv hc
 exact⟨A,c,hv,⟨ds,hr,h.2.2.1,fun i d p h1 h2=>abi (h.2.2.2 i d p h1 h2)⟩,hc⟩
theorem jW {α:Type}{l:List α}{x y:α}{i k:Nat}(hi:i<=l.length)(h:(l.take i++x :: l.drop i)[k]?=some y):(k<i/\l[k]?=some y)\/(k=i/\y=x)\/(i<k/\l[k-1]?=some y):=by
 have hl:(l.take i).length=i:=by rw[List.length_take];omega
 rcases Nat.lt_trichotomy k i with hk | hk | hk
 ·rw[List.getElem?_append_left (by omega),List.getElem?_take,if_pos hk] at h
  exact Or.inl ⟨hk,h⟩
 ·subst hk
  rw[List.getElem?_append_right (by omega),hl,Nat.sub_self] at h
  exact Or.inr (Or.inl ⟨rfl,(Option.some.inj h).symm⟩)
 ·rw[List.getElem?_append_right (by omega),hl] at h
  obtain⟨j,hj⟩:∃ j,k-i=j+1:=⟨k-i-1,by omega⟩
  rw[hj,List.getElem?_cons_succ,List.getElem?_drop] at h
  exact Or.inr (Or.inr ⟨hk,by rw[<-h];congr 1;omega⟩)
def InsRet (w:World) (B:Nat) (T:TypeId) (v:Value) (ds':List PD) (e:Ending) (w':World):Prop:=∃ v',e=.returned v'/\Rg.Own encP 6 w' B T v' ds'/\Pure NoB w' v'/\(v'.ownBlock=v.ownBlock\/∃ H,v'.ownBlock=some H/\w.heap.size<=H)/\w.grownBy w' v.ownBlock
theorem abk {w w':World}{B:Nat}{T:TypeId}{v v':Value}{ds:List PD}{l:List Pk}{d:PD}{p:Pk}{i:Nat}(h:POwn w B T v ds l)(hd:PFar v.ownBlock w d p)(hi:i<=l.length)(ho:Rg.Own encP 6 w' B T v' (ds.take i++d :: ds.drop i))(hp:Pure NoB w' v')(hv:v'.ownBlock=v.ownBlock\/∃ H,v'.ownBlock=some H/\w.heap.size<=H)(hg:w.grownBy w' v.ownBlock):POwn w' B T v' (ds.take i++d :: ds.drop i) (l.take i++p :: l.drop i):=by
 have aa:=h.2.2.1
 have key:∀ {x:PD} {q:Pk},PFar v.ownBlock w x q->PFar v'.ownBlock w' x q:=fun {x q} hx=>by
  have nb:∀ g,v.ownBlock=some g->∀ j x,w.cell? ⟨g,j,none⟩=some x->NoB x:=fun g hg2=>h.2.1 g hg2
  rcases hv with hv | ⟨H,hv,hH⟩
  ·rw[hv];exact r6 hx (cM hg) nb
  ·have h2:PFar v.ownBlock w' x q:=r6 hx (cM hg) nb
   obtain⟨h1,⟨ds,d1,d2,d3,d4⟩,⟨h8,f8⟩,h9,f9⟩:=hx
   obtain⟨_,⟨ad,ae,af,_,_⟩,⟨ab,_⟩,ac,_⟩:=h2
   rw[hv]
   refine⟨h1,?_,⟨ab,r8 h8 hH⟩,ac,nv h9 hH⟩
   exact⟨ds,bW d1 (cM hg) d3,⟨d2.1,fun i e l e1 e2=>⟨(d2.2 i e l e1 e2).1,dL (d2.2 i e l e1 e2).2 (cM hg) (d4 i e l e1 e2) nb⟩⟩,nv d1 hH,fun i e l e1 e2=>r8 (d2.2 i e l e1 e2).2 hH⟩
 refine⟨ho,hp,by simp[aa],fun k x q e1 e2=>key ?_⟩
 rcases jW (by rw[aa];exact hi) e1 with⟨a1,a2⟩ | ⟨a1,a2⟩ | ⟨a1,a2⟩
 ·rcases jW hi e2 with⟨b1,b2⟩ | ⟨b1,b2⟩ | ⟨b1,b2⟩
  ·exact h.2.2.2 k x q a2 b2
  ·omega
  ·omega
 ·rcases jW hi e2 with⟨b1,b2⟩ | ⟨b1,b2⟩ | ⟨b1,b2⟩
  ·omega
  ·rw[a2,b2];exact hd
  ·omega
 ·rcases jW hi e2 with⟨b1,b2⟩ | ⟨b1,b2⟩ | ⟨b1,b2⟩
  ·omega
  ·omega
  ·exact h.2.2.2 (k-1) x q a2 b2
end Rp
end
end Go.Proofs.YtkoaljpfoekgkaaGreatDoor
