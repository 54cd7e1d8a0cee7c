/- Part 29 of what the laws lean on. -/
import Derived.Test.YtgnaiidgjmicaaaGreatDoorM28
set_option maxRecDepth 100000
set_option maxHeartbeats 3200000
namespace Go.Proofs.YtgnaiidgjmicaaaGreatDoor
section
open Go.RowKit Rs At Pg Rp
attribute [local go_sem ↓] Go.wp_at_zero Go.wp_at_succ
attribute [local go_sem] Pg.av
def Rp.isP (nm v:List UInt8) (p:Pk):Bool:=decide (p.name=nm)&&(Vm.cmpV p.ver v==0)
def Rp.idxF (f:Pk->Bool):Nat->List Pk->Int
 | _,[] => -1
 | i,p :: l=>if f p=true then (i:Int) else idxF f (i+1) l
theorem Rp.abI {f:Pk->Bool}{l:List Pk}{k:Nat}{X:Int}(hk:k<l.length)(h:idxF f k (l.drop k)=X):(f l[k]=true->X=(k:Int))/\(f l[k]=false->idxF f (k+1) (l.drop (k+1))=X):=by
 rw[List.drop_eq_getElem_cons hk,idxF] at h
 refine⟨fun e=>?_,fun e=>?_⟩
 ·rw[if_pos e] at h;exact h.symm
 ·rw[if_neg (by rw[e];decide)] at h;exact h
def Rp.findR (nm v:List UInt8) (l:List Pk):Int × Bool:=if Vm.check v≠0 then (0,false) else if idxF (isP nm v) 0 l<0 then (0,false) else (idxF (isP nm v) 0 l,true)
theorem abJ (p:Pk)(D C G:Option Addr)(dn dc cn cc gn gc b1 b2:Nat)(nm v pn pv:List UInt8)(wt:Nat)(w:World)(hw:MaxOk w)(hv:Vm.check v=0)(hpv:Vm.check pv=0)(e0:p.name=pn)(e1:p.ver=pv)(hx1:w.cell? ⟨b1,0,none⟩=some (.string ⟨nm.toArray⟩))(hx2:w.cell? ⟨b2,0,none⟩=some (.string ⟨v.toArray⟩))(hb1:b1<w.heap.size)(hb2:b2<w.heap.size) :
  Calls Tryz.prog 46 #[.agg #[.string ⟨pn.toArray⟩,.string ⟨pv.toArray⟩,.slice D dn dc,.slice C cn cc,.slice G gn gc,.float .f64 wt],.pointer (some ⟨b1,0,none⟩),.pointer (some ⟨b2,0,none⟩)] w fun e w'=>e=.returned (.bool (isP nm v p))/\Below w.heap.size w w':=by
 obtain⟨R,hR⟩:=ex (isP nm v p)
 rw[hR]
 unfold isP at hR
 rw[e0,e1] at hR
 obtain⟨V,hV⟩:=ex (w.alloc (.cells #[.string ⟨pn.toArray⟩,.string ⟨pv.toArray⟩,.slice D dn dc,.slice C cn cc,.slice G gn gc,.float .f64 wt] 68))
 have HB:Hid (Below w.heap.size w V):=ai hV
 have HC:=zh (iP pv v V (ag hw HB.out) hpv hv)
 have k1:=(HB.out.cell (p:=⟨b1,0,none⟩) hb1).trans hx1
 have k2:=(HB.out.cell (p:=⟨b2,0,none⟩) hb2).trans hx2
 obtain⟨c0,c1,-,-,-,-⟩:=aw hV (Below.refl _ _)
 obtain⟨y,hy⟩:=ex (Vm.cmpV pv v)
 rw[hy] at hR HC
 have HR:=zh hR
 clear hw hv hpv e0 e1 hx1 hx2 hb1 hb2 hy hR
 by_cases e1:pn=nm
 case neg =>
  have d1:(pn==nm)=false:=beq_eq_false_iff_ne.2 e1
  have HF:Hid (R=false):=by show _=_;rw[<-HR.out,decide_eq_false e1];rfl
  clear e1 HC HR
  go_enter Tryz.func46,Tryz.ntmps46
  go_wp2_with fail
  go_ret
  exact⟨by rw[HF.out];rfl,HB.out⟩
 have d1:(pn==nm)=true:=beq_iff_eq.2 e1
 have aa:Hid ((y==0)=R):=by show _=_;rw[<-HR.out,decide_eq_true e1,Bool.true_and]
 clear e1 HR
 go_enter Tryz.func46,Tryz.ntmps46
 go_wp2_with fail
 clear hV c0 c1 k1 k2 d1
 refine HC.out.mono ?_
 rintro _ u ⟨rfl,hb⟩
 have HU:Hid (Below w.heap.size w u):=bt HB.out hb
 clear hb HC
 go_wp2_with fail
 go_ret
 exact⟨by rw[<-aa.out];rfl,HU.out⟩
theorem wW (A:Option Addr)(n c:Nat)(l:List Pk)(b1 b2:Nat)(nm v:List UInt8)(w:World)(hw:MaxOk w)(hn:l.length=n)(hr:RRow w A l)(hl:n<=1000000)(hv:Vm.check v=0)(ho:∀ p∈l,Vm.check p.ver=0)(hx1:w.cell? ⟨b1,0,none⟩=some (.string ⟨nm.toArray⟩))(hx2:w.cell? ⟨b2,0,none⟩=some (.string ⟨v.toArray⟩))(hb1:b1<w.heap.size)(hb2:b2<w.heap.size) :
  Calls Tryz.prog 45 #[.slice A n c,.func (.func 46) #[] #[.pointer (some ⟨b1,0,none⟩),.pointer (some ⟨b2,0,none⟩)]] w fun e w'=>e=.returned (.int .i64 (idxF (isP nm v) 0 l))/\Below w.heap.size w w':=by
 have HR:=zh hr
 have HN:=zh hn
 have HO:=zh ho
 have HC:=zh (fun (p:Pk) (D C G:Option Addr) (dn dc cn cc gn gc:Nat) (pn pv:List UInt8) (wt:Nat) (hpv:Vm.check pv=0) (e0:p.name=pn) (e1:p.ver=pv) (W:World) (h:Below w.heap.size w W)=>abJ p D C G dn dc cn cc gn gc b1 b2 nm v pn pv wt W (ag hw h) hv hpv e0 e1 ((h.cell (p:=⟨b1,0,none⟩) hb1).trans hx1) ((h.cell (p:=⟨b2,0,none⟩) hb2).trans hx2) (Nat.lt_of_lt_of_le hb1 h.size) (Nat.lt_of_lt_of_le hb2 h.size))
 obtain⟨f,hf⟩:∃ f:Pk->Bool,isP nm v=f:=⟨_,rfl⟩
 rw[hf] at HC ⊢
 obtain⟨X,hX⟩:=ex (idxF f 0 l)
 rw[hX]
 have HX:=zh hX
 clear hw hr hn ho hv hx1 hx2 hb1 hb2 hX hf
 go_enter Tryz.func45,Tryz.ntmps45
 go_wp2_with fail
 go_loopw [8] (fun i wr=>∃ k:Nat,k<=n/\i=.int .i64 k/\Hid (idxF f k (l.drop k)=X)/\Hid (Below w.heap.size w wr)) (fun i _=>n-(intOf i).toNat)
 case atStart=>exact⟨0,Nat.zero_le _,rfl,HX.out,Below.refl _ _⟩
 case round =>
  obtain⟨k,hk,rfl,HA,HB⟩:=hrel
  by_cases ap:k<n
  ·have aa:k<l.length:=by rw[HN.out];exact ap
   obtain⟨ad,D,dc,C,cc,G,gc,rfl,-,-,-,hc⟩:=aY HR.out k aa
   obtain⟨c0,c1,c2,c3,c4,c5⟩:=hc _ HB.out
   obtain⟨hy,af⟩:=abI aa HA.out
   have ac:=HO.out _ (List.getElem_mem aa)
   obtain⟨a,ha⟩:=ex (l[k])
   rw[ha] at c0 c1 c2 c3 c4 c5 hy af ac
   have HY:=zh hy
   have ae:=zh af
   obtain⟨av,ah⟩:=ex a.name
   obtain⟨aw,ab⟩:=ex a.ver
   obtain⟨ax,ak⟩:=ex a.deps.length
   obtain⟨ay,al⟩:=ex a.confl.length
   obtain⟨az,am⟩:=ex a.prov.length
   obtain⟨aA,an⟩:=ex a.wt
   rw[ah] at c0
   rw[ab] at c1
   rw[ak] at c2
   rw[al] at c3
   rw[am] at c4
   rw[an] at c5
   have ai:=zh (HC.out a D C G ax dc ay cc az gc av aw aA (by rw[<-ab];exact ac) ah ab wr HB.out)
   clear hc hy af ac aa ha ah ab ak al am an
   go_wp2_with fail
   refine ai.out.mono ?_
   rintro _ w1 ⟨rfl,ao⟩
   have aj:Hid (Below w.heap.size w w1):=bt HB.out ao
   clear ao c0 c1 c2 c3 c4 c5 ai
   cases hp:f a
   ·have aq:=zh (ae.out hp)
    clear hp HY ae
    go_wp2_with fail
    go_roundw
    case rel=>exact⟨k+1,by omega,by go_num,aq.out,aj.out⟩
    case measure=>simp[intOf];omega
   ·have ar:=zh (HY.out hp)
    clear hp HY ae
    go_wp2_with fail
    go_ret
    exact⟨by rw[ar.out];rfl,aj.out⟩
  ·obtain rfl:k=n:=by omega
   have au:Hid (X = -1):=by
    show _=_
    have:=HA.out
    rw[List.drop_eq_nil_of_le (by rw[HN.out];exact Nat.le_refl _)] at this
    exact this.symm
   go_wp2_with fail
   go_ret
   exact⟨by rw[au.out];rfl,HB.out⟩
theorem ll (A:Option Addr)(n c:Nat)(l:List Pk)(nm v:List UInt8)(w:World)(hw:MaxOk w)(hn:l.length=n)(hr:RRow w A l)(hl:n<=1000000)(ho:∀ p∈l,Vm.check p.ver=0) :
  Calls Tryz.prog 14 #[.slice A n c,.string ⟨nm.toArray⟩,.string ⟨v.toArray⟩] w fun e w'=>e=.returned (.tuple #[.int .i64 (findR nm v l).1,.bool (findR nm v l).2])/\Below w.heap.size w w':=by
 have al:∀ (fn:Fn) (first cap:Array Value) (w:World),(Instr.makeFunc fn first cap).run Tryz.prog w=.ok (.func fn first cap) w:=fun _ _ _ _=>rfl
 obtain⟨V,hV⟩:=ex (w.alloc (.cells #[.string ⟨nm.toArray⟩] 9))
 obtain⟨U,hU⟩:=ex (V.alloc (.cells #[.string ⟨v.toArray⟩] 9))
 obtain⟨b1,ah⟩:=ex w.heap.size
 obtain⟨b2,aj⟩:=ex V.heap.size
 have ac:Below V.heap.size V U:=ai hU
 have HB:Hid (Below w.heap.size w U):=(ai hV).trans (ac.mono (ai hV).size)
 have l1:b1<V.heap.size:=by rw[<-hV,<-ah];simp
 have l2:b2<U.heap.size:=by rw[<-hU,<-aj];simp
 have k1:U.cell? ⟨b1,0,none⟩=some (.string ⟨nm.toArray⟩):=(ac.cell (p:=⟨b1,0,none⟩) l1).trans (by rw[<-hV,<-ah];simp[go_sem])
 have k2:U.cell? ⟨b2,0,none⟩=some (.string ⟨v.toArray⟩):=by rw[<-hU,<-aj];simp[go_sem]
 have HC:=zh (aaj v U (ag hw HB.out))
 have HI:=zh (fun (W:World) (hv:Vm.check v=0) (h:Below U.heap.size U W)=>wW A n c l b1 b2 nm v W (ag hw (bt HB.out h)) hn (bb hr (bt HB.out h)) hl hv ho ((h.cell (p:=⟨b1,0,none⟩) (Nat.lt_of_lt_of_le l1 ac.size)).trans k1) ((h.cell (p:=⟨b2,0,none⟩) l2).trans k2) (Nat.lt_of_lt_of_le (Nat.lt_of_lt_of_le l1 ac.size) h.size) (Nat.lt_of_lt_of_le l2 h.size))
 obtain⟨R,hR⟩:=ex (findR nm v l)
 rw[hR]
 unfold findR at hR
 obtain⟨x,hx⟩:=ex (Vm.check v)
 obtain⟨i,hi⟩:=ex (idxF (isP nm v) 0 l)
 rw[hx] at HC hR HI
 rw[hi] at HI hR
 have HR:=zh hR
 clear hw hn hr ho l1 l2 k1 ac hx hi hR
 go_enter Tryz.func14,Tryz.ntmps14
 go_wp2_with fail
 clear hV hU ah aj k2
 refine HC.out.mono ?_
 rintro _ u ⟨rfl,hb⟩
 have HU:Hid (Below U.heap.size U u):=hb
 clear hb HC
 by_cases aa:x=0
 ·have d1:(x != 0)=false:=by simpa using aa
  have ak:=zh (HI.out u aa HU.out)
  have ae:Hid ((if i<0 then ((0:Int),false) else (i,true))=R):=by show _=_;rw[<-HR.out,if_neg (show ¬ x≠0 from fun e=>e aa)]
  clear HI HR aa
  go_wp2_with fail
  refine ak.out.mono ?_
  rintro _ u2 ⟨rfl,hb⟩
  have af:Hid (Below w.heap.size w u2):=HB.out.trans ((bt HU.out hb).mono HB.out.size)
  clear hb ak d1
  by_cases ab:i<0
  ·have d2:decide (i<0)=true:=decide_eq_true ab
   have ad:Hid (R=(0,false)):=by show _=_;rw[<-ae.out,if_pos ab]
   clear ab ae
   go_wp2_with fail
   go_ret2
   exact⟨by rw[ad.out];rfl,af.out⟩
  ·have d2:decide (i<0)=false:=decide_eq_false ab
   have ad:Hid (R=(i,true)):=by show _=_;rw[<-ae.out,if_neg ab]
   clear ab ae
   go_wp2_with fail
   go_ret2
   exact⟨by rw[ad.out];rfl,af.out⟩
 ·have d1:(x != 0)=true:=by simpa using aa
  have af:Hid (Below w.heap.size w u):=bt HB.out HU.out
  have ad:Hid (R=(0,false)):=by show _=_;rw[<-HR.out,if_pos aa]
  clear HI HR aa
  go_wp2_with fail
  go_ret2
  exact⟨by rw[ad.out];rfl,af.out⟩
def Rp.encI (x:Int):List Value:=[.int .i64 x]
theorem Rp.fitsI:Rg.Fits Rp.encI 1:=⟨fun _=>rfl,fun x u hu=>by
 obtain rfl:u=.int .i64 x:=by simpa [Rp.encI] using hu
 rfl⟩
theorem Rp.sliceI:Rg.SliceT Tryz.prog Rp.encI 1 44 3:=⟨fitsI,by decide,by kernel_rfl,Rg.b8 (z:=.int .i64 0) (b:=8) (by kernel_rfl) (by rfl) (by decide)⟩
abbrev Rp.IRow (w:World) (A:Option Addr) (l:List Int):Prop:=Rg.Row Rp.encI 1 w A l
def Rp.numF (f:Pk->Bool):Nat->List Pk->List Int
 | _,[]=>[]
 | i,p :: l=>if f p=true then (i:Int) :: numF f (i+1) l else numF f (i+1) l
theorem Rp.oS {f:Pk->Bool}{l:List Pk}{k:Nat}{X out:List Int}(hk:k<l.length)(h:out++numF f k (l.drop k)=X):(f l[k]=true->(out++[(k:Int)])++numF f (k+1) (l.drop (k+1))=X)/\(f l[k]=false->out++numF f (k+1) (l.drop (k+1))=X):=by
 rw[List.drop_eq_getElem_cons hk,numF] at h
 refine⟨fun e=>?_,fun e=>?_⟩
 ·rw[if_pos e] at h;rw[List.append_assoc];exact h
 ·rw[if_neg (by rw[e];decide)] at h;exact h
theorem Rp.cF {α:Type}{enc:α->List Value}{K:Nat}{T:TypeId}{v:Value}{l:List α}{w wr W5:World}{o:Obj}(hB:Hid (Below w.heap.size w wr/\w.heap.size<=wr.heap.size))(hO:Hid (Rg.Own enc K wr w.heap.size T v l))(hg:(wr.alloc o).grownBy W5 v.ownBlock) :
  Hid (Below w.heap.size w W5/\w.heap.size<=W5.heap.size):=by
 have h1:Below w.heap.size w (wr.alloc o):=hB.out.1.alloc hB.out.2 _
 have e:(wr.alloc o).heap.size=wr.heap.size+1:=by simp
 have h2:w.heap.size<=(wr.alloc o).heap.size:=by have:=hB.out.2;omega
 exact⟨h1.trans (Rg.aA (Rg.own_below hO.out ((Below.refl _ _).alloc (Nat.le_refl _) _)) h2 hg),Nat.le_trans h2 hg.size⟩
def Rp.NumRet (w:World) (X:List Int) (e:Ending) (w':World):Prop:=∃ v,e=.returned v/\Rg.Own Rp.encI 1 w' w.heap.size 3 v X/\Below w.heap.size w w'
theorem zL (p:Pk)(D C G:Option Addr)(dn dc cn cc gn gc b1:Nat)(nm pn pv:List UInt8)(wt:Nat)(w:World)(e0:p.name=pn)(hx1:w.cell? ⟨b1,0,none⟩=some (.string ⟨nm.toArray⟩))(hb1:b1<w.heap.size) :
  Calls Tryz.prog 52 #[.agg #[.string ⟨pn.toArray⟩,.string ⟨pv.toArray⟩,.slice D dn dc,.slice C cn cc,.slice G gn gc,.float .f64 wt],.pointer (some ⟨b1,0,none⟩)] w fun e w'=>e=.returned (.bool (decide (p.name=nm)))/\Below w.heap.size w w':=by
 rw[e0]
 obtain⟨V,hV⟩:=ex (w.alloc (.cells #[.string ⟨pn.toArray⟩,.string ⟨pv.toArray⟩,.slice D dn dc,.slice C cn cc,.slice G gn gc,.float .f64 wt] 68))
 have HB:Hid (Below w.heap.size w V):=ai hV
 have k1:=(HB.out.cell (p:=⟨b1,0,none⟩) hb1).trans hx1
 obtain⟨c0,-,-,-,-,-⟩:=aw hV (Below.refl _ _)
 obtain⟨x,hx⟩:=ex (pn==nm)
 have HX:Hid (decide (pn=nm)=x):=by
  show _=_
  rw[<-hx,Bool.eq_iff_iff,decide_eq_true_iff,beq_iff_eq]
 clear e0 hx1 hb1
 go_enter Tryz.func52,Tryz.ntmps52
 go_wp2_with fail
 go_ret
 exact⟨by rw[HX.out];rfl,HB.out⟩
theorem vg (A:Option Addr)(n c:Nat)(l:List Pk)(b1:Nat)(nm:List UInt8)(w:World)(hn:l.length=n)(hr:RRow w A l)(hl:n<=100000)(hx1:w.cell? ⟨b1,0,none⟩=some (.string ⟨nm.toArray⟩))(hb1:b1<w.heap.size) :
  Calls Tryz.prog 51 #[.slice A n c,.func (.func 52) #[] #[.pointer (some ⟨b1,0,none⟩)]] w (NumRet w (numF (fun p=>decide (p.name=nm)) 0 l)):=by
 have HR:=zh hr
 have HN:=zh hn
 have HC:=zh (fun (p:Pk) (D C G:Option Addr) (dn dc cn cc gn gc:Nat) (pn pv:List UInt8) (wt:Nat) (e0:p.name=pn) (W:World) (h:Below w.heap.size w W)=>zL p D C G dn dc cn cc gn gc b1 nm pn pv wt W e0 ((h.cell (p:=⟨b1,0,none⟩) hb1).trans hx1) (Nat.lt_of_lt_of_le hb1 h.size))
 obtain⟨f,hf⟩:∃ f:Pk->Bool,(fun p=>decide (p.name=nm))=f:=⟨_,rfl⟩
 have HF:Hid (∀ p,(fun p=>decide (p.name=nm)) p=f p):=fun p=>by rw[<-hf]
 rw[hf]
 obtain⟨X,hX⟩:=ex (numF f 0 l)
 rw[hX]
 have HX:=zh hX
 clear hr hn hx1 hb1 hX hf
 go_enter Tryz.func51,Tryz.ntmps51
 go_wp2_with fail
 go_loopw [5,10] (fun v i wr=>∃ (k:Nat) (out:List Int),k<=n/\i=.int .i64 k/\Hid (out++numF f k (l.drop k)=X)/\Hid (out.length<=k)/\Hid (Rg.Own Rp.encI 1 wr w.heap.size 3 v out)/\Hid (Below w.heap.size w wr/\w.heap.size<=wr.heap.size)) (fun _ i _=>n-(intOf i).toNat)
 case atStart=>exact⟨0,[],Nat.zero_le _,rfl,HX.out,Nat.le_refl _,Rg.aB _ _ _,Below.refl _ _,Nat.le_refl _⟩
 case round =>
  obtain⟨k,out,hk,rfl,HA,ac,HO,HB⟩:=hrel
  by_cases aK:k<n
  ·have ae:k<l.length:=by rw[HN.out];exact aK
   obtain⟨ad,D,dc,C,cc,G,gc,rfl,pd,pc,pg,hc⟩:=aY HR.out k ae
   obtain⟨c0,c1,c2,c3,c4,c5⟩:=hc _ HB.out.1
   obtain⟨hy,am⟩:=oS ae HA.out
   have ab:=List.getElem_mem ae
   obtain⟨a,ha⟩:=ex (l[k])
   rw[ha] at c0 c1 c2 c3 c4 c5 hy am ab pd pc pg
   have HY:=zh hy
   have ah:=zh am
   obtain⟨ar,an⟩:=ex a.name
   obtain⟨au,av⟩:=ex a.ver
   obtain⟨ax,ay⟩:=ex a.deps.length
   obtain⟨aA,aC⟩:=ex a.confl.length
   obtain⟨aD,aE⟩:=ex a.prov.length
   obtain⟨aF,aG⟩:=ex a.wt
   rw[an] at c0
   rw[av] at c1
   rw[ay] at c2
   rw[aC] at c3
   rw[aE] at c4
   rw[aG] at c5
   obtain⟨V,hV⟩:=ex (wr.alloc (.cells #[.string ⟨ar.toArray⟩,.string ⟨au.toArray⟩,.slice D ax dc,.slice C aA cc,.slice G aD gc,.float .f64 aF] 68))
   have HV:Hid (Below wr.heap.size wr V):=ai hV
   have ao:Hid (Below w.heap.size w V):=HB.out.1.trans (HV.out.mono HB.out.2)
   obtain⟨g0,g1,g2,g3,g4,g5⟩:=aw hV (Below.refl _ _)
   have aj:=HC.out a D C G ax dc aA cc aD gc ar au aF an V ao.out
   rw[HF.out] at aj
   have ap:=zh aj
   clear hc hy am ae ha an av ay aC aE aG aj ab pd pc pg
   go_wp2_with fail
   clear hV
   refine ap.out.mono ?_
   rintro _ w1 ⟨rfl,aH⟩
   have ak:Hid (Below wr.heap.size wr w1):=bt HV.out aH
   have af:Hid (Below w.heap.size w w1/\w.heap.size<=w1.heap.size):=⟨HB.out.1.trans (ak.out.mono HB.out.2),Nat.le_trans HB.out.2 ak.out.size⟩
   have ag:=zh (Rg.own_below HO.out ak.out)
   clear aH c0 c1 c2 c3 c4 c5 g0 g1 g2 g3 g4 g5 ap HB HO HV ao
   cases hp:f a
   ·have al:=zh (ah.out hp)
    have aa:Hid (out.length<=k+1):=Nat.le_succ_of_le ac.out
    clear hp HY ah ac
    go_wp2_with fail
    go_roundw
    case rel=>exact⟨k+1,out,by omega,by go_num,al.out,aa.out,ag.out,af.out⟩
    case measure=>simp[intOf];omega
   ·have al:=zh (HY.out hp)
    have aa:Hid ((out++[(k:Int)]).length<=k+1):=by show _<=_;rw[List.length_append];exact Nat.succ_le_succ ac.out
    have aq:Hid (out.length+1<=1000000):=by show _<=_;have:=ac.out;omega
    clear hp HY ah ac
    go_wp2_with (at_builtin;refine Rg.aN sliceI rfl (.tmp 18) (.tmp 20) rfl w.heap.size _ out [(k:Int)] rfl (Rg.own_below ag.out ((Below.refl _ _).alloc (Nat.le_refl _) _)) _ _ rfl (Rg.az w1 _ _ _ (by rfl)) (Nat.zero_lt_succ _) aq.out ?b1 ?_)
    case b1=>have:=af.out.2;simp;omega
    intro v5 W5 aI aJ aQ
    have aL:=cF af ag aJ
    have aM:=zh aI
    clear aI aJ aQ ag af aq
    go_wp2_with fail
    go_roundw
    case rel=>exact⟨k+1,out++[(k:Int)],by omega,by go_num,al.out,aa.out,aM.out,aL.out⟩
    case measure=>simp[intOf];omega
  ·obtain rfl:k=n:=by omega
   have aO:Hid (out=X):=by
    show _=_
    have:=HA.out
    rw[List.drop_eq_nil_of_le (by rw[HN.out];exact Nat.le_refl _)] at this
    rw[<-this];exact (List.append_nil _).symm
   have aP:=zh (aO.out ▸ HO.out)
   go_wp2_with fail
   go_ret
   exact⟨_,rfl,aP.out,HB.out.1⟩
theorem dX (A:Option Addr)(n c:Nat)(l:List Pk)(nm:List UInt8)(w:World)(hn:l.length=n)(hr:RRow w A l)(hl:n<=100000) :
  Calls Tryz.prog 20 #[.slice A n c,.string ⟨nm.toArray⟩] w (NumRet w (numF (fun p=>decide (p.name=nm)) 0 l)):=by
 have aa:∀ (fn:Fn) (first cap:Array Value) (w:World),(Instr.makeFunc fn first cap).run Tryz.prog w=.ok (.func fn first cap) w:=fun _ _ _ _=>rfl
 obtain⟨V,hV⟩:=ex (w.alloc (.cells #[.string ⟨nm.toArray⟩] 9))
 have HB:Hid (Below w.heap.size w V):=ai hV
 have HC:=zh (vg A n c l w.heap.size nm V hn (bb hr HB.out) hl (by rw[<-hV];simp[go_sem]) (by rw[<-hV];simp))
 obtain⟨X,hX⟩:=ex (numF (fun p=>decide (p.name=nm)) 0 l)
 rw[hX] at HC ⊢
 clear hn hr hX
 go_enter Tryz.func20,Tryz.ntmps20
 go_wp2_with fail
 clear hV
 refine HC.out.mono ?_
 rintro _ u ⟨v,rfl,ho,hb⟩
 have HU:Hid (Below w.heap.size w u):=bt HB.out hb
 have HO:=zh (Rg.mI HB.out.size ho)
 clear ho hb HC
 go_wp2_with fail
 go_ret
 exact⟨_,rfl,HO.out,HU.out⟩
theorem vh (p:Pk)(D C G:Option Addr)(dn dc cn cc gn gc b1:Nat)(nm:List UInt8)(B:Option Addr)(m d:Nat)(r:List Sp)(pn pv:List UInt8)(wt:Nat)(w:World)(hw:MaxOk w)(hg:GRow w G p.prov)(hgn:p.prov.length=gn)(hgl:gn<=1000000)(ho:∀ g∈p.prov,g.ver=[]\/Vm.check g.ver=0)(hv:Vm.check p.ver=0)(hm:r.length=m)(hq:SRow w B r)(hm2:m<=64)(hk:checkR r=0)(e0:p.name=pn)(e1:p.ver=pv)(e5:p.wt=wt)(hx1:Bx2 b1 nm B m d w)(hb1:b1<w.heap.size) :
  Calls Tryz.prog 53 #[.agg #[.string ⟨pn.toArray⟩,.string ⟨pv.toArray⟩,.slice D dn dc,.slice C cn cc,.slice G gn gc,.float .f64 wt],.pointer (some ⟨b1,0,none⟩)] w fun e w'=>e=.returned (.bool (metP p ⟨nm,r⟩))/\Below w.heap.size w w':=by
 obtain⟨V,hV⟩:=ex (w.alloc (.cells #[.string ⟨pn.toArray⟩,.string ⟨pv.toArray⟩,.slice D dn dc,.slice C cn cc,.slice G gn gc,.float .f64 wt] 68))
 have HB:Hid (Below w.heap.size w V):=ai hV
 have HC:=zh (adz (ag hw HB.out) p D C G dn dc cn cc gn gc nm B m d r (Rg.aj hg HB.out) hgn hgl ho hv hm (ao hq HB.out) hm2 hk e0 e1 e5 (b:=metP p ⟨nm,r⟩) rfl)
 obtain⟨k0,k1⟩:=aR hx1 hb1 HB.out
 obtain⟨c0,c1,c2,c3,c4,c5⟩:=aw hV (Below.refl _ _)
 clear hw hg hgn hgl ho hv hm hq hm2 hk e0 e1 e5 hx1 hb1
 go_enter Tryz.func53,Tryz.ntmps53
 go_wp2_with fail
 refine HC.out.mono ?_
 rintro _ u ⟨rfl,hb⟩
 have HU:Hid (Below w.heap.size w u):=bt HB.out hb
 clear hb
 go_wp2_with fail
 go_ret
 exact⟨rfl,HU.out⟩
theorem pU (A:Option Addr)(n c:Nat)(l:List Pk)(b1:Nat)(nm:List UInt8)(B:Option Addr)(m d:Nat)(r:List Sp)(w:World)(hn:l.length=n)(hr:RRow w A l)(hl:n<=100000)(hw:MaxOk w)(hO:∀ p∈l,Vm.check p.ver=0/\(∀ g∈p.prov,g.ver=[]\/Vm.check g.ver=0)/\p.prov.length<=1000000)(hm:r.length=m)(hq:SRow w B r)(hm2:m<=64)(hk:checkR r=0)(hx1:Bx2 b1 nm B m d w)(hb1:b1<w.heap.size) :
  Calls Tryz.prog 51 #[.slice A n c,.func (.func 53) #[] #[.pointer (some ⟨b1,0,none⟩)]] w (NumRet w (numF (fun p=>metP p ⟨nm,r⟩) 0 l)):=by
 have HR:=zh hr
 have HN:=zh hn
 have HC:=zh (fun (p:Pk) (hp:p∈l) (D C G:Option Addr) (dn dc cn cc gn gc:Nat) (pn pv:List UInt8) (wt:Nat) (hgn:p.prov.length=gn) (e0:p.name=pn) (e1:p.ver=pv) (e5:p.wt=wt) (W:World) (h:Below w.heap.size w W) (hg:GRow W G p.prov)=>vh p D C G dn dc cn cc gn gc b1 nm B m d r pn pv wt W (ag hw h) hg hgn (hgn ▸ (hO p hp).2.2) (hO p hp).2.1 (hO p hp).1 hm (ao hq h) hm2 hk e0 e1 e5 (aR hx1 hb1 h) (Nat.lt_of_lt_of_le hb1 h.size))
 obtain⟨f,hf⟩:∃ f:Pk->Bool,(fun p=>metP p ⟨nm,r⟩)=f:=⟨_,rfl⟩
 have HF:Hid (∀ p,(fun p=>metP p ⟨nm,r⟩) p=f p):=fun p=>by rw[<-hf]
 rw[hf]
 obtain⟨X,hX⟩:=ex (numF f 0 l)
 rw[hX]
 have HX:=zh hX
 clear hr hn hw hO hm hq hm2 hk hx1 hb1 hX hf
 go_enter Tryz.func51,Tryz.ntmps51
 go_wp2_with fail
 go_loopw [5,10] (fun v i wr=>∃ (k:Nat) (out:List Int),k<=n/\i=.int .i64 k/\Hid (out++numF f k (l.drop k)=X)/\Hid (out.length<=k)/\Hid (Rg.Own Rp.encI 1 wr w.heap.size 3 v out)/\Hid (Below w.heap.size w wr/\w.heap.size<=wr.heap.size)) (fun _ i _=>n-(intOf i).toNat)
 case atStart=>exact⟨0,[],Nat.zero_le _,rfl,HX.out,Nat.le_refl _,Rg.aB _ _ _,Below.refl _ _,Nat.le_refl _⟩
 case round =>
  obtain⟨k,out,hk,rfl,HA,ac,HO,HB⟩:=hrel
  by_cases aO:k<n
  ·have ae:k<l.length:=by rw[HN.out];exact aO
   obtain⟨ad,D,dc,C,cc,G,gc,rfl,pd,pc,pg,hc⟩:=aY HR.out k ae
   obtain⟨c0,c1,c2,c3,c4,c5⟩:=hc _ HB.out.1
   obtain⟨hy,aq⟩:=oS ae HA.out
   have aa:=List.getElem_mem ae
   obtain⟨a,ha⟩:=ex (l[k])
   rw[ha] at c0 c1 c2 c3 c4 c5 hy aq aa pd pc pg
   have HY:=zh hy
   have ak:=zh aq
   obtain⟨aC,ar⟩:=ex a.name
   obtain⟨aD,au⟩:=ex a.ver
   obtain⟨aE,aF⟩:=ex a.deps.length
   obtain⟨aG,aH⟩:=ex a.confl.length
   obtain⟨aI,av⟩:=ex a.prov.length
   obtain⟨aJ,ax⟩:=ex a.wt
   rw[ar] at c0
   rw[au] at c1
   rw[aF] at c2
   rw[aH] at c3
   rw[av] at c4
   rw[ax] at c5
   obtain⟨V,hV⟩:=ex (wr.alloc (.cells #[.string ⟨aC.toArray⟩,.string ⟨aD.toArray⟩,.slice D aE dc,.slice C aG cc,.slice G aI gc,.float .f64 aJ] 68))
   have HV:Hid (Below wr.heap.size wr V):=ai hV
   have al:Hid (Below w.heap.size w V):=HB.out.1.trans (HV.out.mono HB.out.2)
   obtain⟨g0,g1,g2,g3,g4,g5⟩:=aw hV (Below.refl _ _)
   have am:=HC.out a aa D C G aE dc aG cc aI gc aC aD aJ av ar au ax V al.out (Rg.aj pg al.out)
   rw[HF.out] at am
   have ay:=zh am
   clear hc hy aq ae ha ar au aF aH av ax am aa pd pc pg
   go_wp2_with fail
   clear hV
   refine ay.out.mono ?_
   rintro _ w1 ⟨rfl,aK⟩
   have an:Hid (Below wr.heap.size wr w1):=bt HV.out aK
   have af:Hid (Below w.heap.size w w1/\w.heap.size<=w1.heap.size):=⟨HB.out.1.trans (an.out.mono HB.out.2),Nat.le_trans HB.out.2 an.out.size⟩
   have ah:=zh (Rg.own_below HO.out an.out)
   clear aK c0 c1 c2 c3 c4 c5 g0 g1 g2 g3 g4 g5 ay HB HO HV al
   cases hp:f a
   ·have ap:=zh (ak.out hp)
    have ab:Hid (out.length<=k+1):=Nat.le_succ_of_le ac.out
    clear hp HY ak ac
    go_wp2_with fail
    go_roundw
    case rel=>exact⟨k+1,out,by omega,by go_num,ap.out,ab.out,ah.out,af.out⟩
    case measure=>simp[intOf];omega
   ·have ap:=zh (HY.out hp)
    have ab:Hid ((out++[(k:Int)]).length<=k+1):=by show _<=_;rw[List.length_append];exact Nat.succ_le_succ ac.out
    have aA:Hid (out.length+1<=1000000):=by show _<=_;have:=ac.out;omega
    clear hp HY ak ac
    go_wp2_with (at_builtin;refine Rg.aN sliceI rfl (.tmp 18) (.tmp 20) rfl w.heap.size _ out [(k:Int)] rfl (Rg.own_below ah.out ((Below.refl _ _).alloc (Nat.le_refl _) _)) _ _ rfl (Rg.az w1 _ _ _ (by rfl)) (Nat.zero_lt_succ _) aA.out ?b1 ?_)
    case b1=>have:=af.out.2;simp;omega
    intro v5 W5 aL aM aU
    have aP:=cF af ah aM
    have aQ:=zh aL
    clear aL aM aU ah af aA
    go_wp2_with fail
    go_roundw
    case rel=>exact⟨k+1,out++[(k:Int)],by omega,by go_num,ap.out,ab.out,aQ.out,aP.out⟩
    case measure=>simp[intOf];omega
  ·obtain rfl:k=n:=by omega
   have aS:Hid (out=X):=by
    show _=_
    have:=HA.out
    rw[List.drop_eq_nil_of_le (by rw[HN.out];exact Nat.le_refl _)] at this
    rw[<-this];exact (List.append_nil _).symm
   have aT:=zh (aS.out ▸ HO.out)
   go_wp2_with fail
   go_ret
   exact⟨_,rfl,aT.out,HB.out.1⟩
theorem iJ (A:Option Addr)(n c:Nat)(l:List Pk)(nm:List UInt8)(B:Option Addr)(m d:Nat)(r:List Sp)(w:World)(hw:MaxOk w)(hn:l.length=n)(hr:RRow w A l)(hl:n<=100000)(hO:∀ p∈l,Vm.check p.ver=0/\(∀ g∈p.prov,g.ver=[]\/Vm.check g.ver=0)/\p.prov.length<=1000000)(hm:r.length=m)(hq:SRow w B r)(hm2:m<=64)(hk:checkR r=0) :
  Calls Tryz.prog 22 #[.slice A n c,.agg #[.string ⟨nm.toArray⟩,.slice B m d]] w (NumRet w (numF (fun p=>metP p ⟨nm,r⟩) 0 l)):=by
 have aa:∀ (fn:Fn) (first cap:Array Value) (w:World),(Instr.makeFunc fn first cap).run Tryz.prog w=.ok (.func fn first cap) w:=fun _ _ _ _=>rfl
 obtain⟨V,hV⟩:=ex (w.alloc (.cells #[.string ⟨nm.toArray⟩,.slice B m d] 51))
 have HB:Hid (Below w.heap.size w V):=ai hV
 have HC:=zh (pU A n c l w.heap.size nm B m d r V hn (bb hr HB.out) hl (ag hw HB.out) hO hm (ao hq HB.out) hm2 hk (by rw[<-hV];exact dk w nm B m d _) (by rw[<-hV];simp))
 obtain⟨X,hX⟩:=ex (numF (fun p=>metP p ⟨nm,r⟩) 0 l)
 rw[hX] at HC ⊢
 clear hw hn hr hO hm hq hm2 hk hX
 go_enter Tryz.func22,Tryz.ntmps22
 go_wp2_with fail
 clear hV
 refine HC.out.mono ?_
 rintro _ u ⟨v,rfl,ho,hb⟩
 have HU:Hid (Below w.heap.size w u):=bt HB.out hb
 have HO:=zh (Rg.mI HB.out.size ho)
 clear ho hb HC
 go_wp2_with fail
 go_ret
 exact⟨_,rfl,HO.out,HU.out⟩
end
section
open Go.RowKit Rs At Pg
namespace Pg
theorem lx {l:List Atm}(h:fewAs l=true):l.length<=30/\AFew l/\ASmall l:=by
 unfold fewAs at h
 rw[Bool.and_eq_true,decide_eq_true_eq] at h
 have hh:=List.all_eq_true.1 h.2
 have e:∀ a∈l,a.name.length<=100/\a.rng.length<=80:=fun a ha=>by
  have h1:=hh a ha
  unfold fewA at h1
  rw[Bool.and_eq_true,decide_eq_true_eq] at h1
  exact⟨h1.1,xy h1.2⟩
 exact⟨h.1,fun a ha=>⟨Nat.le_trans (e a ha).1 (by decide),Nat.le_trans (e a ha).2 (by decide)⟩,fun a ha=>Nat.le_trans (e a ha).2 (by decide)⟩
theorem adK {p:Pk}(h:fewP p=true)(hw:p.wt<Wm.W):PFew p/\PSmall p:=by
 unfold fewP at h
 simp only[Bool.and_eq_true,decide_eq_true_eq] at h
 obtain⟨h1,h2,h3,h4,h5,h6,h7⟩:=h
 obtain⟨c1,c2,c3⟩:=lx h5
 have hd:=List.all_eq_true.1 h6
 have hg:=List.all_eq_true.1 h7
 refine⟨⟨Nat.le_trans h1 (by decide),by omega,fun d hm=>?_,by omega,c2,by omega,fun g hm=>?_,hw⟩,by omega,fun d hm=>?_,by omega,c3,by omega⟩
 ·obtain⟨q1,q2,_⟩:=lx (hd d hm)
  exact⟨by omega,q2⟩
 ·have h8:=hg g hm
  unfold fewG at h8
  rw[Bool.and_eq_true,decide_eq_true_eq,decide_eq_true_eq] at h8
  exact⟨Nat.le_trans h8.1 (by decide),Nat.le_trans h8.2 (by decide)⟩
 ·obtain⟨q1,_,q3⟩:=lx (hd d hm)
  exact⟨by omega,q3⟩
end Pg
end
section
open Go.RowKit Rs At Pg Rp
attribute [local go_sem ↓] Go.wp_at_zero Go.wp_at_succ
attribute [local go_sem] Pg.av
theorem oT (A:Option Addr)(n c:Nat)(l:List Pk)(w:World)(hn:l.length=n)(hr:RRow w A l)(hl:n<=100000)(hf:∀ p∈l,PSmall p) :
  Calls Tryz.prog 13 #[.slice A n c] w fun e w'=>∃ A' c',e=.returned (.slice A' n c')/\RRow w' A' l/\Below w.heap.size w w':=by
 have HR:=zh hr
 have HN:=zh hn
 have HF:=zh hf
 clear hr hn hf
 go_enter Tryz.func13,Tryz.ntmps13
 go_wp2_with fail
 go_loopw [3,4] (fun v i wr=>∃ (k:Nat) (ds:List PD),k<=n/\i=.int .i64 k/\Hid (Rp.POwn wr w.heap.size 68 v ds (l.take k))/\Hid (Below w.heap.size w wr/\w.heap.size<=wr.heap.size)) (fun _ i _=>n-(intOf i).toNat)
 case atStart=>exact⟨0,[],Nat.zero_le _,rfl,uY _ _ _,Below.refl _ _,Nat.le_refl _⟩
 case round =>
  obtain⟨k,ds,hk,rfl,HO,HB⟩:=hrel
  by_cases aP:k<n
  ·have an:k<l.length:=by rw[HN.out];exact aP
   obtain⟨ad,D,dc,C,cc,G,gc,rfl,pd,pc,pg,hc⟩:=aY HR.out k an
   obtain⟨c0,c1,c2,c3,c4,c5⟩:=hc _ HB.out.1
   have aw:=HF.out _ (List.getElem_mem an)
   have ax:l.take (k+1)=l.take k++[l[k]]:=List.take_succ_eq_append_getElem an
   obtain⟨a,ha⟩:=ex (l[k])
   rw[ha] at c0 c1 c2 c3 c4 c5 pd pc pg aw ax
   obtain⟨ah,ao⟩:=ex a.name
   obtain⟨ai,ap⟩:=ex a.ver
   obtain⟨ae,aq⟩:=ex a.deps.length
   obtain⟨af,ar⟩:=ex a.confl.length
   obtain⟨ag,au⟩:=ex a.prov.length
   obtain⟨ak,av⟩:=ex a.wt
   rw[ao] at c0
   rw[ap] at c1
   rw[aq] at c2
   rw[ar] at c3
   rw[au] at c4
   rw[av] at c5
   have aD:ds.length=k:=by have:=HO.out.2.2.1;rw[List.length_take] at this;omega
   have aE:Hid (Calls Tryz.prog 43 #[.agg #[.string ⟨ah.toArray⟩,.string ⟨ai.toArray⟩,.slice D ae dc,.slice C af cc,.slice G ag gc,.float .f64 ak]] wr fun e w'=>∃ D' aa C' ab G' ac,e=.returned (.agg #[.string ⟨ah.toArray⟩,.string ⟨ai.toArray⟩,.slice D' ae aa,.slice C' af ab,.slice G' ag ac,.float .f64 ak])/\PRows wr.heap.size w' a D' C' G'/\Below wr.heap.size wr w'):=by
    rw[<-ao,<-ap,<-av]
    exact adJ a D C G ae dc af cc ag gc wr (aJ pd HB.out.1) aq (ay pc HB.out.1) ar (Rg.aj pg HB.out.1) au aw
   have aF:Hid (∀ D' aa C' ab G' ac,(⟨a.name,a.ver,(D',a.deps.length,aa),(C',a.confl.length,ab),(G',a.prov.length,ac),a.wt⟩:PD)=⟨ah,ai,(D',ae,aa),(C',af,ab),(G',ag,ac),ak⟩):=fun D' aa C' ab G' ac=>by rw[ao,ap,aq,ar,au,av]
   have aG:=zh ax
   have aA:=zh aD
   have aH:=zh an
   have aQ:Hid (ds.length+1<=1000000):=by show _<=_;omega
   clear hc an ha ao ap aq ar au av aw pd pc pg ax aD
   go_wp2_with fail
   refine aE.out.mono ?_
   rintro _ w1 ⟨D',aa,C',ab,G',ac,rfl,aL,hb⟩
   have aB:Hid (Below w.heap.size w w1/\w.heap.size<=w1.heap.size):=⟨HB.out.1.trans (hb.mono HB.out.2),Nat.le_trans HB.out.2 hb.size⟩
   have al:=rp aL (fun g hg=>(Rg.bw HO.out.1 g hg).2) aa ab ac
   rw[aF.out] at al
   have aI:=zh al
   have am:=zh (gh HO.out hb)
   clear al aL hb c0 c1 c2 c3 c4 c5 HB HO aE aF
   go_wp2_with (at_builtin;refine jn sliceP sliceP.under iG gU rfl (.tmp 11) (.tmp 17) rfl w.heap.size _ ds [(⟨ah,ai,(D',ae,aa),(C',af,ab),(G',ag,ac),ak⟩:PD)] rfl (Rg.own_below am.out.1 ((Below.refl _ _).alloc (Nat.le_refl _) _)) (c8 am.out.2.1 am.out.1 ((Below.refl _ _).alloc (Nat.le_refl _) _)) _ _ 1 rfl rfl (Rg.az w1 _ _ _ (by rfl)) (Nat.zero_lt_succ _) aQ.out ?b1 ?_)
   case b1=>have:=aB.out.2;simp;omega
   intro v5 W5 aM aN aC aO aW
   obtain⟨A5,n5,c5,rfl⟩:=aW
   have aR:=cF aB (zh am.out.1) aC
   have aS:Hid (Rp.POwn W5 w.heap.size 68 (.slice A5 n5 c5) (ds++[(⟨ah,ai,(D',ae,aa),(C',af,ab),(G',ag,ac),ak⟩:PD)]) (l.take (k+1))):=by
    show Rp.POwn _ _ _ _ _ _
    have aK:=(Below.refl w1.heap.size w1).alloc (Nat.le_refl _) (.cells #[.string ⟨ah.toArray⟩,.string ⟨ai.toArray⟩,.slice D' ae aa,.slice C' af ab,.slice G' ag ac,.float .f64 ak] 68)
    have aT:=gh am.out aK
    have ht:(l.take k).length=k:=by rw[List.length_take];have:=aH.out;omega
    have e1:ds.take k++(⟨ah,ai,(D',ae,aa),(C',af,ab),(G',ag,ac),ak⟩:PD) :: ds.drop k=ds++[⟨ah,ai,(D',ae,aa),(C',af,ab),(G',ag,ac),ak⟩]:=by rw[List.take_of_length_le (Nat.le_of_eq aA.out),List.drop_eq_nil_of_le (Nat.le_of_eq aA.out)]
    have e2:(l.take k).take k++a :: (l.take k).drop k=l.take (k+1):=by rw[List.take_of_length_le (Nat.le_of_eq ht),List.drop_eq_nil_of_le (Nat.le_of_eq ht),aG.out]
    rw[<-e1,<-e2]
    refine uZ aT (j3 aI.out aK) (Nat.le_of_eq ht.symm) (by rw[e1];exact aM) aN (aO.imp id fun⟨H,h1,h2⟩=>⟨H,h1,by simp;omega⟩) aC
   clear aM aN aC aO am aB aI aG aA aH
   go_wp2_with fail
   go_roundw
   case rel=>exact⟨k+1,_,by omega,by go_num,aS.out,aR.out⟩
   case measure=>simp[intOf];omega
  ·obtain rfl:k=n:=by omega
   have hO:=HO.out
   rw[List.take_of_length_le (by rw[HN.out];exact Nat.le_refl _)] at hO
   obtain⟨A',c',rfl,hr,-⟩:=gT hO
   have aU:=zh hr
   have aV:Hid ((.slice A' l.length c':Value)=.slice A' k c'):=by show _=_;rw[HN.out]
   clear hr hO HO
   go_wp2_with fail
   go_ret
   exact⟨A',c',by first | rfl | (rw[aV.out];rfl),aU.out,HB.out.1⟩
def Rp.fewR (l:List Pk):Bool:=decide (l.length<=70)&&l.all fewP
theorem Rp.vi {l:List Pk}(h:fewR l=true)(hw:∀ p∈l,p.wt<Wm.W):l.length<=70/\∀ p∈l,PFew p/\PSmall p:=by
 unfold fewR at h
 rw[Bool.and_eq_true] at h
 exact⟨of_decide_eq_true h.1,fun p hp=>adK (List.all_eq_true.1 h.2 p hp) (hw p hp)⟩
theorem Rp.aff {l:List Pk}{X:Bool}{k:Nat}(hk:k<l.length)(h:(l.drop k).all fewP=X):(fewP l[k]=true->(l.drop (k+1)).all fewP=X)/\(fewP l[k]=false->X=false):=by
 rw[List.drop_eq_getElem_cons hk,List.all_cons] at h
 exact⟨fun e=>by rw[e,Bool.true_and] at h;exact h,fun e=>by rw[e,Bool.false_and] at h;exact h.symm⟩
theorem mC (A:Option Addr)(n c:Nat)(l:List Pk)(w:World)(hw:MaxOk w)(hn:l.length=n)(hr:RRow w A l)(hf:∀ p∈l,PWide p) :
  Calls Tryz.prog 9 #[.slice A n c] w fun e w'=>e=.returned (.bool (fewR l))/\Below w.heap.size w w':=by
 have HW:=zh hw
 have HR:=zh hr
 have HN:=zh hn
 have HF:=zh hf
 clear hr hf hw
 go_enter Tryz.func9,Tryz.ntmps9
 by_cases ap:70<n
 ·have d0:decide ((70:Int)<(n:Int))=true:=decide_eq_true (by omega)
  have HX:Hid (fewR l=false):=by show fewR l=false;unfold fewR;rw[hn,decide_eq_false (by omega),Bool.false_and]
  clear hn ap
  go_wp2_with fail
  go_ret
  exact⟨by rw[HX.out];rfl,Below.refl _ _⟩
 have d0:decide ((70:Int)<(n:Int))=false:=decide_eq_false (by omega)
 obtain⟨X,hX⟩:=ex ((l.drop 0).all fewP)
 have HY:=zh hX
 have HX:Hid (fewR l=X):=by show fewR l=X;unfold fewR;rw[hn,decide_eq_true (by omega),Bool.true_and];exact hX
 have ac:Hid (n<=70):=by show n<=70;omega
 rw[HX.out]
 clear hX hn ap HX
 go_wp2_with fail
 clear d0
 go_loopw [3] (fun i wr=>∃ k:Nat,k<=n/\i=.int .i64 k/\Hid ((l.drop k).all fewP=X)/\Hid (Below w.heap.size w wr)) (fun i _=>n-(intOf i).toNat)
 case atStart=>exact⟨0,Nat.zero_le _,rfl,HY.out,Below.refl _ _⟩
 case round =>
  obtain⟨k,hk,rfl,HA,HB⟩:=hrel
  have ax:=ac.out
  by_cases az:k<n
  ·have aa:k<l.length:=by rw[HN.out];exact az
   obtain⟨ad,D,dc,C,cc,G,gc,rfl,pd,pc,pg,hc⟩:=aY HR.out k aa
   obtain⟨c0,c1,c2,c3,c4,c5⟩:=hc _ HB.out
   obtain⟨hy,ab⟩:=aff aa HA.out
   have ae:=HF.out _ (List.getElem_mem aa)
   obtain⟨a,ha⟩:=ex (l[k])
   rw[ha] at c0 c1 c2 c3 c4 c5 pd pc pg ae hy ab
   obtain⟨aD,ai⟩:=ex a.name
   obtain⟨aE,ak⟩:=ex a.ver
   obtain⟨au,al⟩:=ex a.deps.length
   obtain⟨av,am⟩:=ex a.confl.length
   obtain⟨aw,an⟩:=ex a.prov.length
   obtain⟨aF,ao⟩:=ex a.wt
   rw[ai] at c0
   rw[ak] at c1
   rw[al] at c2
   rw[am] at c3
   rw[an] at c4
   rw[ao] at c5
   obtain⟨f,hf⟩:=ex (fewP a)
   have aq:Hid (Calls Tryz.prog 37 #[.agg #[.string ⟨aD.toArray⟩,.string ⟨aE.toArray⟩,.slice D au dc,.slice C av cc,.slice G aw gc,.float .f64 aF]] wr fun e w'=>e=.returned (.bool f)/\Below wr.heap.size wr w'):=by
    rw[<-ai,<-ak,<-ao,<-hf]
    exact adC a D C G au dc av cc aw gc wr (ag HW.out HB.out) (aJ pd HB.out) al (ay pc HB.out) am (Rg.aj pg HB.out) an ae
   rw[hf] at hy ab
   have af:=zh hy
   have ah:=zh ab
   clear hc aa ha ai ak al am an ao ae pd pc pg hy ab hf
   go_wp2_with fail
   refine aq.out.mono ?_
   rintro _ w1 ⟨rfl,hb⟩
   have ar:Hid (Below w.heap.size w w1):=bt HB.out hb
   clear hb c0 c1 c2 c3 c4 c5 HB aq
   cases f
   ·have aA:=zh (ah.out rfl)
    clear af ah
    go_wp2_with fail
    go_ret
    exact⟨by rw[aA.out];rfl,ar.out⟩
   ·have aB:=zh (af.out rfl)
    clear af ah
    go_wp2_with fail
    go_roundw
    case rel=>exact⟨k+1,by omega,by go_num,aB.out,ar.out⟩
    case measure=>simp[intOf];omega
  ·obtain rfl:k=n:=by omega
   have aC:Hid (X=true):=by
    show X=true
    have:=HA.out
    rw[List.drop_eq_nil_of_le (by rw[HN.out];exact Nat.le_refl _)] at this
    exact this.symm
   go_wp2_with fail
   go_ret
   exact⟨by rw[aC.out];rfl,HB.out⟩
end
namespace Rp
open Rs At Pg
def dd {α:Type} [DecidableEq α]:Option α->List α->List α
 | _,[]=>[]
 | o,x :: l=>if o=some x then dd o l else x :: dd (some x) l
theorem pV {α:Type} [DecidableEq α]:∀ (l:List α) (o:Option α) (x:α),dd o (l++[x])=dd o l++if (l.getLast?.or o)=some x then [] else [x]
 | [],o,x=>by
  show dd o [x]=[]++_
  rw[dd]
  by_cases h:o=some x
  ·rw[if_pos h,List.nil_append,if_pos (by simpa using h)];rfl
  ·rw[if_neg h,List.nil_append,if_neg (by simpa using h)];rfl
 | y :: l,o,x=>by
  have hg:((y :: l).getLast?.or o)=(l.getLast?.or (some y)):=by
   rw[List.getLast?_cons];cases l.getLast? <;> rfl
  rw[List.cons_append,dd,dd,hg]
  by_cases h:o=some y
  ·rw[if_pos h,if_pos h,pV l o x,h]
  ·rw[if_neg h,if_neg h,pV l (some y) x,List.cons_append]
theorem oU (zs:List (List UInt8)):Lib.compact zs=dd none zs:=by
 have key:∀ m,m<=zs.length->Lib.compactUpTo zs.toArray m=dd none (zs.take m):=by
  intro m
  induction m with
  | zero=>intro _;rfl
  | succ m ih =>
   intro h
   have hm:m<zs.length:=h
   rw[Lib.compactUpTo_succ,ih (by omega),List.take_succ_eq_append_getElem hm,pV]
   congr 1
   have e0:zs.toArray[m]! = zs[m]:=by rw[getElem!_pos zs.toArray m (by simpa using hm)];rfl
   rw[e0]
   have hl:((zs.take m).getLast?.or none)=if m=0 then none else zs[m-1]?:=by
    rw[Option.or_none,List.getLast?_take]
    by_cases h0:m=0
    ·rw[if_pos h0,if_pos h0]
    ·rw[if_neg h0,if_neg h0,List.getElem?_eq_getElem (by omega)];rfl
   rw[hl]
   by_cases h0:m=0
   ·rw[if_pos h0,if_neg (show ¬ (none:Option (List UInt8))=some zs[m] from fun e=>by cases e)]
    have:Lib.keeps zs.toArray m=true:=by rw[h0];exact Lib.keeps_lt_one _ 0 (by decide)
    rw[this];rfl
   ·have e1:zs.toArray[m-1]! = zs[m-1]'(by omega):=by rw[getElem!_pos zs.toArray (m-1) (by simp;omega)];rfl
    rw[if_neg h0,List.getElem?_eq_getElem (by omega:m-1<zs.length)]
    by_cases he:zs[m]=zs[m-1]'(by omega)
    ·have hk:Lib.keeps zs.toArray m=false:=Lib.keeps_neg (by omega) (by rw[e0,e1];exact he)
     rw[hk,if_pos (show some (zs[m-1]'(by omega))=some zs[m] from by rw[he])];rfl
    ·have hk:Lib.keeps zs.toArray m=true:=Lib.keeps_pos (by rw[e0,e1];exact he)
     rw[hk,if_neg (show ¬ some (zs[m-1]'(by omega))=some zs[m] from fun e=>he (Option.some.inj e).symm)];rfl
 unfold Lib.compact
 rw[key _ (Nat.le_refl _),List.take_length]
theorem ru:∀ (l:List Pk) (i:Nat) (o:Option Pk),chkF i o l=(0,0)->(∀ p∈l,checkP p=0)/\Ord l/\∀ q,o=some q->∀ p∈l,cmpP q p<0
 | [],_,_,_=>⟨fun p h=>(by cases h),fun i j hi=>(by simp at hi),fun q _ p h=>(by cases h)⟩
 | p :: l,i,o,h=>by
  unfold chkF at h
  by_cases h0:checkP p=0
  ·rw[if_neg (fun e=>e h0)] at h
   have fin:chkF (i+1) (some p) l=(0,0)->(∀ q,o=some q->cmpP q p<0)->(∀ x∈p :: l,checkP x=0)/\Ord (p :: l)/\∀ q,o=some q->∀ x∈p :: l,cmpP q x<0:=fun h hq=>by
    obtain⟨h1,h2,h3⟩:=ru l (i+1) (some p) h
    refine⟨fun x hx=>?_,m6 h2 (h3 p rfl),fun q e x hx=>?_⟩
    ·rcases List.mem_cons.1 hx with rfl | hx
     ·exact h0
     ·exact h1 x hx
    ·rcases List.mem_cons.1 hx with rfl | hx
     ·exact hq q e
     ·exact fK (hq q e) (Int.le_of_lt (h3 p rfl x hx))
   cases o with
   | none=>exact fin h fun q e=>by cases e
   | some q =>
    dsimp only at h
    by_cases h1:cmpP q p=0
    ·rw[if_pos h1] at h;exact absurd (congrArg Prod.snd h) (show ¬ (6:Int)=0 by decide)
    ·rw[if_neg h1] at h
     by_cases h2:0<cmpP q p
     ·rw[if_pos h2] at h;exact absurd (congrArg Prod.snd h) (show ¬ (7:Int)=0 by decide)
     ·rw[if_neg h2] at h
      exact fin h fun r e=>by cases e;omega
  ·rw[if_pos h0] at h;exact absurd (congrArg Prod.snd h) h0
theorem abK {l:List Pk}(h:(chkR l).2=0)(h1:(chkR l).1=0):l.length<=64/\(∀ p∈l,checkP p=0)/\Ord l:=by
 unfold chkR at h h1
 by_cases h0:64<l.length
 ·rw[if_pos h0] at h;exact absurd h (by decide)
 ·rw[if_neg h0] at h h1
  obtain⟨a,b,_⟩:=ru l 0 none (Prod.ext h1 h)
  exact⟨by omega,a,b⟩
theorem nf:∀ (l:List Pk) (i:Nat) (o:Option Pk),(chkF i o l).2=0->(chkF i o l).1=0
 | [],_,_,_=>rfl
 | p :: l,i,o,h=>by
  unfold chkF at h ⊢
  by_cases h0:checkP p=0
  ·rw[if_neg (fun e=>e h0)] at h ⊢
   cases o with
   | none=>exact nf l (i+1) (some p) h
   | some q =>
    dsimp only at h ⊢
    by_cases h1:cmpP q p=0
    ·rw[if_pos h1] at h;exact absurd h (show ¬ (6:Int)=0 by decide)
    ·rw[if_neg h1] at h ⊢
     by_cases h2:0<cmpP q p
     ·rw[if_pos h2] at h;exact absurd h (show ¬ (7:Int)=0 by decide)
     ·rw[if_neg h2] at h ⊢
      exact nf l (i+1) (some p) h
  ·rw[if_pos h0] at h;exact absurd h h0
theorem vj {l:List Pk}(h:(chkR l).2=0):l.length<=64/\(∀ p∈l,checkP p=0)/\Ord l:=by
 refine abK h ?_
 unfold chkR at h ⊢
 by_cases h0:64<l.length
 ·rw[if_pos h0] at h;exact absurd h (by decide)
 ·rw[if_neg h0] at h ⊢
  exact nf l 0 none h
end Rp
end Go.Proofs.YtgnaiidgjmicaaaGreatDoor
