/- Part 19 of what the laws lean on. -/
import Derived.Test.YtgnaiidgjmicaaaGreatDoorL18
import Derived.Laws.CopyOwn
import Derived.Lib.AppendZerosOnto
import Derived.Lib.Overlaps
set_option maxRecDepth 100000
set_option maxHeartbeats 6400000
namespace Go.Proofs.YtgnaiidgjmicaaaGreatDoor
section
open Go.RowKit Rs At Pg
attribute [local go_sem ↓] Go.wp_at_zero Go.wp_at_succ
attribute [local go_sem] Pg.aj
theorem pF (p q:Addr)(x y k n:Int)(w:World)(hc:∀ u,Below w.heap.size w u->u.cell? p=some (.int .i64 x))(hz:∀ u,Below w.heap.size w u->u.frozen? p=false)(hc2:∀ u,Below w.heap.size w u->(u.setCell p (.int .i64 k)).cell? q=some (.int .i64 y))(hz2:∀ u,Below w.heap.size w u->(u.setCell p (.int .i64 k)).frozen? q=false) :
  CallsD Tryz.prog 179 #[.pointer (some p),.pointer (some q)] (.panicking [{ v:=.iface 158 (.agg #[.int .i64 k,.int .i64 n]),recovered:=false }]) w fun e u' w' =>
   e=.returned (.tuple #[])/\u'=.panicking [{ v:=.iface 158 (.agg #[.int .i64 k,.int .i64 n]),recovered:=true }]/\∃ u,Below w.heap.size w u/\w'=(u.setCell p (.int .i64 k)).setCell q (.int .i64 n):=by
 refine callsD_of_wpS Tryz.func179 rfl fun c₀ cs hu=>?_
 apply wpS_region
 simp[wpOpsS,go_sem,recoverD,hu,Tryz.ntmps179]
 refine (ck k n _).mono ?_
 rintro e w' ⟨rfl,hb⟩
 simp[go_sem,hc _ hb,hz _ hb,hc2 _ hb,hz2 _ hb,bodyPostS,results,Tryz.results179]
 exact⟨w',hb,rfl⟩
theorem tz (p q:Addr)(x y:Int)(w:World)(hc:w.cell? p=some (.int .i64 x))(hz:w.frozen? p=false)(hc2:(w.setCell p (.int .i64 0)).cell? q=some (.int .i64 y))(hz2:(w.setCell p (.int .i64 0)).frozen? q=false) :
  CallsD Tryz.prog 179 #[.pointer (some p),.pointer (some q)] .returning w fun e u' w'=>e=.returned (.tuple #[])/\u'=.returning/\w'=(w.setCell p (.int .i64 0)).setCell q (.int .i64 0):=by
 refine callsD_of_wpS Tryz.func179 rfl fun c₀ cs hu=>?_
 apply wpS_region
 simp[wpOpsS,go_sem,recoverD,hu,Tryz.ntmps179]
 refine (cy _).mono ?_
 rintro e w' ⟨rfl,rfl⟩
 cases c₀
 simp_all [go_sem,bodyPostS,results,Tryz.results179]
def Pg.FromRet (w:World) (X:Int × Int × Pk) (e:Ending) (w':World):Prop:=Below w.heap.size w w'/\∃ D dc C cc G gc,e=.returned (.tuple #[.agg (pCells X.2.2 D C G dc cc gc),.int .i64 X.2.1,.int .i64 X.1])/\PRows w.heap.size w' X.2.2 D C G
def Pg.P3 (b:Nat) (u:World):Prop:=u.heap[b]?=some (.cells zeroC 68 (0,0))/\Sz.P2 (b+1) u
theorem Pg.aaN {w W0 W1 W2 u:World}(h0:w.alloc (.cells zeroC 68)=W0)(h1:W0.alloc (.cells #[.int .i64 0] 3)=W1)(h2:W1.alloc (.cells #[.int .i64 0] 77)=W2)(hb:Below W2.heap.size W2 u):P3 w.heap.size u:=by
 have ab:W0.heap.size=w.heap.size+1:=by rw[<-h0];simp
 have ac:W1.heap.size=w.heap.size+2:=by rw[<-h1];simp[ab]
 have ad:W2.heap.size=w.heap.size+3:=by rw[<-h2];simp[ac]
 refine⟨?_,by rw[<-ab];exact Sz.nO h1 h2 hb⟩
 rw[hb.block _ (by omega),(aa h2).block _ (by omega),(aa h1).block _ (by omega),<-h0]
 exact heap_alloc_new w _
theorem Pg.vH {u:World}{b j k:Nat}{x:Value}(h:u.heap[b]?=some (.cells zeroC 68 (0,0)))(hne:k≠b):(u.setCell ⟨k,j,none⟩ x).heap[b]?=some (.cells zeroC 68 (0,0)) :=
 (Below.heap_setCell u ⟨k,j,none⟩ x b (fun e=>hne e.symm)).trans h
theorem Pg.zP {u v:World}{b:Nat}(h:Sz.P2 b u)(h1:v.heap[b]?=u.heap[b]?)(h2:v.heap[b+1]?=u.heap[b+1]?):Sz.P2 b v:=⟨h1.trans h.1,h2.trans h.2⟩
theorem Pg.sa (u:World)(b k:Nat)(p:Pk)(D C G:Option Addr)(dc cc gc:Nat)(hk:k<u.heap.size)(hne:k≠b):(stP u b p D C G dc cc gc).heap[k]?=u.heap[k]? :=
 (fP u b p D C G dc cc gc).2 k hk (fun e=>hne (Option.some.inj e).symm)
theorem Pg.sb {u:World}{b:Nat}{x:Int}{T:TypeId}(h:u.heap[b]?=some (.cells #[.int .i64 x] T (0,0))):∀ j y,u.cell? ⟨b,j,none⟩=some y->NoB y:=fun j y hy z e=>by
 subst e
 have:=Sz.cG h rfl hy
 cases this
theorem Pg.se {u:World}{b c:Nat}{cs:Array Value}{T:TypeId}{x y:Value}(h:u.heap[b]?=some (.cells cs T (0,0)))(h1:c≠b)(h2:c+1≠b):((u.setCell ⟨c,0,none⟩ x).setCell ⟨c+1,0,none⟩ y).heap[b]?=some (.cells cs T (0,0)) :=
 (Below.heap_setCell _ ⟨c+1,0,none⟩ y b (fun e=>h2 e.symm)).trans ((Below.heap_setCell u ⟨c,0,none⟩ x b (fun e=>h1 e.symm)).trans h)
theorem Pg.pG {B b:Nat}{u:World}{p:Pk}{D C G:Option Addr}{x y:Int}(h:PRows B u p D C G)(h2:Sz.P2 b u)(hlt:b+1<B):PRows B ((u.setCell ⟨b,0,none⟩ (.int .i64 x)).setCell ⟨b+1,0,none⟩ (.int .i64 y)) p D C G:=by
 have r1:=ba h (aO u ⟨b,0,none⟩ (.int .i64 x)) (Nat.lt_of_succ_lt hlt) (sb h2.1)
 have e2:(u.setCell ⟨b,0,none⟩ (.int .i64 x)).heap[b+1]?=some (.cells #[.int .i64 0] 77 (0,0)):=(Below.heap_setCell u ⟨b,0,none⟩ _ (b+1) (by show b+1≠b;omega)).trans h2.2
 exact ba r1 (aO _ ⟨b+1,0,none⟩ (.int .i64 y)) hlt (sb e2)
theorem q9 (A:Option Addr)(n c:Nat)(l:List Sz.Fld)(w:World)(hk:KOk w)(hn:l.length=n)(hr:Rg.Row Sz.encF 3 w A l)(hl:n<=1000)(hs:Sz.Short l)(hv:∀ f∈l,ValFit f.key f.val) :
  Calls Tryz.prog 142 #[.slice A n c] w (Pg.FromRet w (fromP l)):=by
 have aB:∀ (fn:Fn) (first cap:Array Value) (w:World),(Instr.makeFunc fn first cap).run Tryz.prog w=.ok (.func fn first cap) w:=fun _ _ _ _=>rfl
 obtain⟨X,hX⟩:=ex (fromP l)
 rw[hX]
 unfold fromP at hX
 obtain⟨W0,ah⟩:=ex (w.alloc (.cells zeroC 68))
 obtain⟨W1,ai⟩:=ex (W0.alloc (.cells #[.int .i64 0] 3))
 obtain⟨W2,ak⟩:=ex (W1.alloc (.cells #[.int .i64 0] 77))
 have ae:Hid (∀ u,Below W2.heap.size W2 u->P3 w.heap.size u):=fun u hb=>aaN ah ai ak hb
 have au:W0.heap.size=w.heap.size+1:=by rw[<-ah];simp
 have av:W1.heap.size=w.heap.size+1+1:=by rw[<-ai];simp[au]
 have an:W2.heap.size=w.heap.size+3:=by rw[<-ak];simp[av]
 have ab:=zh an
 have aj:Hid (Below w.heap.size w W2):=(aa ah).trans (((aa ai).trans ((aa ak).mono (aa ai).size)).mono (aa ah).size)
 have al:=zh (qZ A n c l W2 (aY hk aj.out) hn (Rg.ag hr aj.out) hl hs hv)
 obtain⟨R,hR⟩:=ex (readP l)
 rw[hR] at al hX
 clear hk hn hr hl hs hv hR an
 go_enter_defers Tryz.func142,Tryz.ntmps142
 go_wp2_with fail
 clear ah ai ak
 refine al.out.mono ?_
 rintro e z1 ⟨hb,hr⟩
 have HB:=zh hb
 clear hb al
 cases R with
 | ok p =>
  obtain⟨D,dc,C,cc,G,gc,rfl,ac⟩:∃ D dc C cc G gc,e=.returned (.agg (pCells p D C G dc cc gc))/\PRows W2.heap.size z1 p D C G:=hr
  have HX:Hid (X=(0,0,p)):=hX.symm
  have h3:=ae.out _ HB.out
  have ao:Hid (w.heap.size+3<=z1.heap.size):=by have:=HB.out.size;rw[ab.out] at this;exact this
  have af:Hid (Sz.P2 (w.heap.size+1) (stP z1 w.heap.size p D C G dc cc gc)):=zP h3.2 (sa _ _ _ _ _ _ _ _ _ _ (by have:=ao.out;omega) (by omega)) (sa _ _ _ _ _ _ _ _ _ _ (by have:=ao.out;omega) (by omega))
  obtain⟨k0,k1,k2,k3,k4,k5⟩:=bO h3.1
  have z0:=aK h3.1 0
  have aE:=aK h3.1 1
  have z2:=aK h3.1 2
  have z3:=aK h3.1 3
  have z4:=aK h3.1 4
  have z5:=aK h3.1 5
  have aF:=zh h3.1
  have aG:=zh ac
  have HS:Hid (PRows w.heap.size (stP z1 w.heap.size p D C G dc cc gc) p D C G):=gB (ba ac (fP z1 w.heap.size p D C G dc cc gc) (by rw[ab.out];omega) (gC h3.1)) (by rw[ab.out];omega)
  have ap:Hid (PRows W2.heap.size (stP z1 w.heap.size p D C G dc cc gc) p D C G):=ba ac (fP z1 w.heap.size p D C G dc cc gc) (by rw[ab.out];omega) (gC h3.1)
  have aq:Hid (Below w.heap.size w (stP z1 w.heap.size p D C G dc cc gc)):=iF (bt aj.out HB.out) (Nat.le_refl _) p D C G dc cc gc
  have ar:=zh (jJ h3.1 p D C G dc cc gc)
  obtain⟨V,hV⟩:=ex (stP z1 w.heap.size p D C G dc cc gc)
  rw[hV] at af HS ap aq ar
  obtain⟨c0,f0,c1,f1⟩:=Sz.aC af.out
  obtain⟨d0,g0,d1,g1⟩:=Sz.aD af.out (.int .i64 0)
  have ad:=zh (Sz.gr af.out)
  unfold stP at hV
  clear h3 ac hX
  go_wp2_with fail
  have aw:Hid (((V.setCell ⟨w.heap.size+1,0,none⟩ (.int .i64 0)).setCell ⟨w.heap.size+1+1,0,none⟩ (.int .i64 0)).heap[w.heap.size]?=some (.cells (pCells p D C G dc cc gc) 68 (0,0))):=se (c:=w.heap.size+1) ar.out (by omega) (by omega)
  have ax:=zh (pG (x:=0) (y:=0) ap.out af.out (show w.heap.size+1+1<W2.heap.size by rw[ab.out];omega))
  have ay:Hid (Below w.heap.size w ((V.setCell ⟨w.heap.size+1,0,none⟩ (.int .i64 0)).setCell ⟨w.heap.size+1+1,0,none⟩ (.int .i64 0))):=(aq.out.setCell (by show w.heap.size<=w.heap.size+1;omega) _).setCell (by show w.heap.size<=w.heap.size+1+1;omega) _
  generalize (V.setCell ⟨w.heap.size+1,0,none⟩ (.int .i64 0)).setCell ⟨w.heap.size+1+1,0,none⟩ (.int .i64 0)=V2 at *
  obtain⟨k0,m0,k1,m1⟩:=Sz.aC ad.out
  obtain⟨l0,o0,l1,o1⟩:=Sz.aD ad.out (.int .i64 0)
  obtain⟨q0,q1⟩:=Sz.bL ad.out (.int .i64 0) (.int .i64 0)
  have az:=zh (se (c:=w.heap.size+1) (x:=.int .i64 0) (y:=.int .i64 0) aw.out (by omega) (by omega))
  have aA:=zh (pG (x:=0) (y:=0) ax.out ad.out (show w.heap.size+1+1<W2.heap.size by rw[ab.out];omega))
  obtain⟨s0,s1,s2,s3,s4,s5⟩:=bO az.out
  refine leaves_cons (f:=179) (args:=#[.pointer (some ⟨w.heap.size+1,0,none⟩),.pointer (some ⟨w.heap.size+1+1,0,none⟩)]) (by simp) (by simp[go_sem]) ?_
  refine (tz ⟨w.heap.size+1,0,none⟩ ⟨w.heap.size+1+1,0,none⟩ 0 0 _ k0 m0 l1 o1).mono ?_
  rintro e u' w3 ⟨rfl,rfl,rfl⟩
  simp[Leaves,settle,results,Tryz.results142,go_sem,q0,q1,s0,s1,s2,s3,s4,s5]
  rw[HX.out]
  exact⟨(ay.out.setCell (by show w.heap.size<=w.heap.size+1;omega) _).setCell (by show w.heap.size<=w.heap.size+1+1;omega) _,D,dc,C,cc,G,gc,rfl,gB aA.out (by rw[ab.out];omega)⟩
 | error x =>
  obtain⟨i0,k⟩:=x
  obtain rfl:e=panAt i0 k:=hr
  have HX:Hid (X=(k,i0,zeroP)):=hX.symm
  clear hX
  go_wp2_with fail
  refine leaves_cons (f:=179) (args:=#[.pointer (some ⟨w.heap.size+1,0,none⟩),.pointer (some ⟨w.heap.size+1+1,0,none⟩)]) (by simp) (by simp[go_sem]) ?_
  refine (pF ⟨w.heap.size+1,0,none⟩ ⟨w.heap.size+1+1,0,none⟩ 0 0 i0 k _ (fun u hb=>(Sz.aC (ae.out _ (bt HB.out hb)).2).1) (fun u hb=>(Sz.aC (ae.out _ (bt HB.out hb)).2).2.1) (fun u hb=>(Sz.aD (ae.out _ (bt HB.out hb)).2 _).2.2.1) (fun u hb=>(Sz.aD (ae.out _ (bt HB.out hb)).2 _).2.2.2)).mono ?_
  rintro e u' w3 ⟨rfl,rfl,u,hb,rfl⟩
  have am:=zh (bt HB.out hb)
  obtain⟨q0,q1⟩:=Sz.bL (ae.out _ am.out).2 (.int .i64 i0) (.int .i64 k)
  obtain⟨k0,k1,k2,k3,k4,k5⟩:=bO (vH (j:=0) (x:=.int .i64 k) (vH (j:=0) (x:=.int .i64 i0) (ae.out _ am.out).1 (show w.heap.size+1≠w.heap.size by omega)) (show w.heap.size+1+1≠w.heap.size by omega))
  simp[Leaves,settle,results,Tryz.results142,go_sem,q0,q1,k0,k1,k2,k3,k4,k5]
  rw[HX.out]
  exact⟨((bt aj.out am.out).setCell (by show w.heap.size<=w.heap.size+1;omega) _).setCell (by show w.heap.size<=w.heap.size+1+1;omega) _,none,0,none,0,none,0,rfl,mV _ _⟩
end
section
open Go.RowKit Rs At Pg Rp
attribute [local go_sem ↓] Go.wp_at_zero Go.wp_at_succ
attribute [local go_sem] Pg.aj
theorem Rp.or2 (x y:Int):orL [x,y]=Vm.both x y:=by rw[orL,orL,orL,eO]
theorem kU (nm vr nm2 vr2:List UInt8)(D C G D2 C2 G2:Option Addr)(dn dc cn cc gn gc dn2 dc2 cn2 cc2 gn2 gc2 wt wt2:Nat)(w:World)(hw:MaxOk w)(h1:Vm.check vr=0)(h2:Vm.check vr2=0) :
  Calls Tryz.prog 107 #[.agg #[.string ⟨nm.toArray⟩,.string ⟨vr.toArray⟩,.slice D dn dc,.slice C cn cc,.slice G gn gc,.float .f64 wt],.agg #[.string ⟨nm2.toArray⟩,.string ⟨vr2.toArray⟩,.slice D2 dn2 dc2,.slice C2 cn2 cc2,.slice G2 gn2 gc2,.float .f64 wt2]] w fun e w'=>e=.returned (.int .i64 (Vm.both (Lib.compareBytes nm nm2) (Vm.cmpV vr vr2)))/\Below w.heap.size w w':=by
 obtain⟨W1,ag⟩:=ex (w.alloc (.cells #[.string ⟨nm.toArray⟩,.string ⟨vr.toArray⟩,.slice D dn dc,.slice C cn cc,.slice G gn gc,.float .f64 wt] 68))
 obtain⟨W2,ah⟩:=ex (W1.alloc (.cells #[.string ⟨nm2.toArray⟩,.string ⟨vr2.toArray⟩,.slice D2 dn2 dc2,.slice C2 cn2 cc2,.slice G2 gn2 gc2,.float .f64 wt2] 68))
 have ai:=aa ag
 have ac:=aa ah
 have HB:Hid (Below w.heap.size w W2):=bt ai ac
 have aj:Hid (∀ u,Below W2.heap.size W2 u->Below w.heap.size w u):=fun u h=>bt HB.out h
 have am:Hid (∀ u,Below W2.heap.size W2 u->MaxOk u):=fun u h=>ab hw (aj.out u h)
 obtain⟨b,hb⟩:=ex w.heap.size
 obtain⟨b1,al⟩:=ex W1.heap.size
 have ad:Hid (∀ u,Below W2.heap.size W2 u->u.cell? ⟨b,0,none⟩=some (.string ⟨nm.toArray⟩)/\u.cell? ⟨b,1,none⟩=some (.string ⟨vr.toArray⟩)/\u.cell? ⟨b1,0,none⟩=some (.string ⟨nm2.toArray⟩)/\u.cell? ⟨b1,1,none⟩=some (.string ⟨vr2.toArray⟩)):=fun u h=>by
  rw[<-hb,<-al]
  have q1:=cF ag (bt ac h)
  have q2:=cF ah h
  exact⟨q1.1,q1.2.1,q2.1,q2.2.1⟩
 have ae:Hid (Below W2.heap.size W2 W2.drew):=(Below.refl _ _).drew
 have F1:Hid (∀ u,Calls Tryz.prog 143 #[.string ⟨nm.toArray⟩,.string ⟨nm2.toArray⟩] u fun e w'=>e=.returned (.int .i64 (Lib.compareBytes nm nm2))/\u=w'):=fun u=>gY nm nm2 u
 have F2:Hid (∀ u,Below W2.heap.size W2 u->Calls Tryz.prog 47 #[.string ⟨vr.toArray⟩,.string ⟨vr2.toArray⟩] u fun e w'=>e=.returned (.int .i64 (Vm.cmpV vr vr2))/\Below u.heap.size u w'):=fun u h=>fo vr vr2 u (am.out u h) h1 h2
 obtain⟨x,hx⟩:=ex (Lib.compareBytes nm nm2)
 obtain⟨y,hy⟩:=ex (Vm.cmpV vr vr2)
 rw[hx] at F1
 rw[hy] at F2
 rw[hx,hy]
 clear hw h1 h2 hx hy ai ac
 go_enter Tryz.func107,Tryz.ntmps107
 go_wp2_with fail
 clear ag ah hb al
 go_region_held3 (fun u=>u.cell? ⟨b,0,none⟩=some (.string ⟨nm.toArray⟩)/\u.cell? ⟨b,1,none⟩=some (.string ⟨vr.toArray⟩)/\u.cell? ⟨b1,0,none⟩=some (.string ⟨nm2.toArray⟩)/\u.cell? ⟨b1,1,none⟩=some (.string ⟨vr2.toArray⟩))
  (first
   | with_reducible exact ad.out _ ae.out
   | with_reducible exact ad.out _ af.out
   | with_reducible exact ad.out _ ak.out)
  (first
   | (go_at_call 125;refine (dF [x,y] _ _ _ (by simp) (cells2 _ _ _)).mono ?_;rintro _ u3 ⟨rfl,rfl⟩)
   | (go_at_call 47;refine (F2.out _ ae.out).mono ?_;rintro _ u2 ⟨rfl,hb⟩;have af:=zh (bt ae.out hb);have ak:Hid (Below W2.heap.size W2 (u2.alloc (.cells #[.int .i64 x,.int .i64 y] 3))):=af.out.alloc af.out.size _;clear hb)
   | (go_at_call 143;refine (F1.out _).mono ?_;rintro _ u1 ⟨rfl,rfl⟩))
 go_wp2_with fail
 go_ret
 exact⟨by show Ending.returned (.int .i64 (orL [x,y]))=_;rw[Rp.or2],aj.out _ ak.out⟩
def Rp.encI (x:Int):List Value:=[.int .i64 x]
theorem Rp.fitsI:Rg.Fits Rp.encI 1:=⟨fun _=>rfl,fun x u hu=>by
 obtain rfl:u=.int .i64 x:=by simpa [Rp.encI] using hu
 rfl⟩
theorem Rp.sliceI:Rg.SliceT Tryz.prog Rp.encI 1 44 3:=⟨fitsI,by decide,by kernel_rfl,Rg.bw (z:=.int .i64 0) (b:=8) (by kernel_rfl) (by rfl) (by decide)⟩
abbrev Rp.IRow (w:World) (A:Option Addr) (l:List Int):Prop:=Rg.Row Rp.encI 1 w A l
def Rp.numF (f:Pk->Bool):Nat->List Pk->List Int
 | _,[]=>[]
 | i,p :: l=>if f p=true then (i:Int) :: numF f (i+1) l else numF f (i+1) l
theorem Rp.aaC {f:Pk->Bool}{l:List Pk}{k:Nat}{X out:List Int}(hk:k<l.length)(h:out++numF f k (l.drop k)=X):(f l[k]=true->(out++[(k:Int)])++numF f (k+1) (l.drop (k+1))=X)/\(f l[k]=false->out++numF f (k+1) (l.drop (k+1))=X):=by
 rw[List.drop_eq_getElem_cons hk,numF] at h
 refine⟨fun e=>?_,fun e=>?_⟩
 ·rw[if_pos e] at h;rw[List.append_assoc];exact h
 ·rw[if_neg (by rw[e];decide)] at h;exact h
theorem Rp.fc {α:Type}{enc:α->List Value}{K:Nat}{T:TypeId}{v:Value}{l:List α}{w wr W5:World}{o:Obj}(hB:Hid (Below w.heap.size w wr/\w.heap.size<=wr.heap.size))(hO:Hid (Rg.Own enc K wr w.heap.size T v l))(hg:(wr.alloc o).grownBy W5 v.ownBlock) :
  Hid (Below w.heap.size w W5/\w.heap.size<=W5.heap.size):=by
 have h1:Below w.heap.size w (wr.alloc o):=hB.out.1.alloc hB.out.2 _
 have e:(wr.alloc o).heap.size=wr.heap.size+1:=by simp
 have h2:w.heap.size<=(wr.alloc o).heap.size:=by have:=hB.out.2;omega
 exact⟨h1.trans (Rg.ak (Rg.own_below hO.out ((Below.refl _ _).alloc (Nat.le_refl _) _)) h2 hg),Nat.le_trans h2 hg.size⟩
def Rp.NumRet (w:World) (X:List Int) (e:Ending) (w':World):Prop:=∃ v,e=.returned v/\Rg.Own Rp.encI 1 w' w.heap.size 3 v X/\Below w.heap.size w w'
theorem tA (p:Pk)(D C G:Option Addr)(dn dc cn cc gn gc b1:Nat)(nm pn pv:List UInt8)(wt:Nat)(w:World)(e0:p.name=pn)(hx1:w.cell? ⟨b1,0,none⟩=some (.string ⟨nm.toArray⟩))(hb1:b1<w.heap.size) :
  Calls Tryz.prog 52 #[.agg #[.string ⟨pn.toArray⟩,.string ⟨pv.toArray⟩,.slice D dn dc,.slice C cn cc,.slice G gn gc,.float .f64 wt],.pointer (some ⟨b1,0,none⟩)] w fun e w'=>e=.returned (.bool (decide (p.name=nm)))/\Below w.heap.size w w':=by
 rw[e0]
 obtain⟨V,hV⟩:=ex (w.alloc (.cells #[.string ⟨pn.toArray⟩,.string ⟨pv.toArray⟩,.slice D dn dc,.slice C cn cc,.slice G gn gc,.float .f64 wt] 68))
 have HB:Hid (Below w.heap.size w V):=aa hV
 have k1:=(HB.out.cell (p:=⟨b1,0,none⟩) hb1).trans hx1
 obtain⟨c0,-,-,-,-,-⟩:=cF hV (Below.refl _ _)
 obtain⟨x,hx⟩:=ex (pn==nm)
 have HX:Hid (decide (pn=nm)=x):=by
  show _=_
  rw[<-hx,Bool.eq_iff_iff,decide_eq_true_iff,beq_iff_eq]
 clear e0 hx1 hb1
 go_enter Tryz.func52,Tryz.ntmps52
 go_wp2_with fail
 go_ret
 exact⟨by rw[HX.out];rfl,HB.out⟩
theorem pH (A:Option Addr)(n c:Nat)(l:List Pk)(b1:Nat)(nm:List UInt8)(w:World)(hn:l.length=n)(hr:RRow w A l)(hl:n<=100000)(hx1:w.cell? ⟨b1,0,none⟩=some (.string ⟨nm.toArray⟩))(hb1:b1<w.heap.size) :
  Calls Tryz.prog 51 #[.slice A n c,.func (.func 52) #[] #[.pointer (some ⟨b1,0,none⟩)]] w (NumRet w (numF (fun p=>decide (p.name=nm)) 0 l)):=by
 have HR:=zh hr
 have HN:=zh hn
 have HC:=zh (fun (p:Pk) (D C G:Option Addr) (dn dc cn cc gn gc:Nat) (pn pv:List UInt8) (wt:Nat) (e0:p.name=pn) (W:World) (h:Below w.heap.size w W)=>tA p D C G dn dc cn cc gn gc b1 nm pn pv wt W e0 ((h.cell (p:=⟨b1,0,none⟩) hb1).trans hx1) (Nat.lt_of_lt_of_le hb1 h.size))
 obtain⟨f,hf⟩:∃ f:Pk->Bool,(fun p=>decide (p.name=nm))=f:=⟨_,rfl⟩
 have HF:Hid (∀ p,(fun p=>decide (p.name=nm)) p=f p):=fun p=>by rw[<-hf]
 rw[hf]
 obtain⟨X,hX⟩:=ex (numF f 0 l)
 rw[hX]
 have HX:=zh hX
 clear hr hn hx1 hb1 hX hf
 go_enter Tryz.func51,Tryz.ntmps51
 go_wp2_with fail
 go_loopw [5,10] (fun v i wr=>∃ (k:Nat) (out:List Int),k<=n/\i=.int .i64 k/\Hid (out++numF f k (l.drop k)=X)/\Hid (out.length<=k)/\Hid (Rg.Own Rp.encI 1 wr w.heap.size 3 v out)/\Hid (Below w.heap.size w wr/\w.heap.size<=wr.heap.size)) (fun _ i _=>n-(intOf i).toNat)
 case atStart=>exact⟨0,[],Nat.zero_le _,rfl,HX.out,Nat.le_refl _,Rg.an _ _ _,Below.refl _ _,Nat.le_refl _⟩
 case round =>
  obtain⟨k,out,hk,rfl,HA,ae,HO,HB⟩:=hrel
  by_cases aJ:k<n
  ·have af:k<l.length:=by rw[HN.out];exact aJ
   obtain⟨ad,D,dc,C,cc,G,gc,rfl,pd,pc,pg,hc⟩:=bB HR.out k af
   obtain⟨c0,c1,c2,c3,c4,c5⟩:=hc _ HB.out.1
   obtain⟨hy,am⟩:=aaC af HA.out
   have ac:=List.getElem_mem af
   obtain⟨a,ha⟩:=ex (l[k])
   rw[ha] at c0 c1 c2 c3 c4 c5 hy am ac pd pc pg
   have HY:=zh hy
   have ai:=zh am
   obtain⟨au,ao⟩:=ex a.name
   obtain⟨av,ax⟩:=ex a.ver
   obtain⟨ay,az⟩:=ex a.deps.length
   obtain⟨aA,aB⟩:=ex a.confl.length
   obtain⟨aC,aD⟩:=ex a.prov.length
   obtain⟨aE,aF⟩:=ex a.wt
   rw[ao] at c0
   rw[ax] at c1
   rw[az] at c2
   rw[aB] at c3
   rw[aD] at c4
   rw[aF] at c5
   obtain⟨V,hV⟩:=ex (wr.alloc (.cells #[.string ⟨au.toArray⟩,.string ⟨av.toArray⟩,.slice D ay dc,.slice C aA cc,.slice G aC gc,.float .f64 aE] 68))
   have HV:Hid (Below wr.heap.size wr V):=aa hV
   have ap:Hid (Below w.heap.size w V):=HB.out.1.trans (HV.out.mono HB.out.2)
   obtain⟨g0,g1,g2,g3,g4,g5⟩:=cF hV (Below.refl _ _)
   have aj:=HC.out a D C G ay dc aA cc aC gc au av aE ao V ap.out
   rw[HF.out] at aj
   have aq:=zh aj
   clear hc hy am af ha ao ax az aB aD aF aj ac pd pc pg
   go_wp2_with fail
   clear hV
   refine aq.out.mono ?_
   rintro _ w1 ⟨rfl,aG⟩
   have ak:Hid (Below wr.heap.size wr w1):=bt HV.out aG
   have ag:Hid (Below w.heap.size w w1/\w.heap.size<=w1.heap.size):=⟨HB.out.1.trans (ak.out.mono HB.out.2),Nat.le_trans HB.out.2 ak.out.size⟩
   have ah:=zh (Rg.own_below HO.out ak.out)
   clear aG c0 c1 c2 c3 c4 c5 g0 g1 g2 g3 g4 g5 aq HB HO HV ap
   cases hp:f a
   ·have al:=zh (ai.out hp)
    have ab:Hid (out.length<=k+1):=Nat.le_succ_of_le ae.out
    clear hp HY ai ae
    go_wp2_with fail
    go_roundw
    case rel=>exact⟨k+1,out,by omega,by go_num,al.out,ab.out,ah.out,ag.out⟩
    case measure=>simp[intOf];omega
   ·have al:=zh (HY.out hp)
    have ab:Hid ((out++[(k:Int)]).length<=k+1):=by show _<=_;rw[List.length_append];exact Nat.succ_le_succ ae.out
    have ar:Hid (out.length+1<=1000000):=by show _<=_;have:=ae.out;omega
    clear hp HY ai ae
    go_wp2_with (at_builtin;refine Rg.bb sliceI rfl (.tmp 18) (.tmp 20) rfl w.heap.size _ out [(k:Int)] rfl (Rg.own_below ah.out ((Below.refl _ _).alloc (Nat.le_refl _) _)) _ _ rfl (Rg.aw w1 _ _ _ (by rfl)) (Nat.zero_lt_succ _) ar.out ?b1 ?_)
    case b1=>have:=ag.out.2;simp;omega
    intro v5 W5 aH aI aO
    have aK:=fc ag ah aI
    have aL:=zh aH
    clear aH aI aO ah ag ar
    go_wp2_with fail
    go_roundw
    case rel=>exact⟨k+1,out++[(k:Int)],by omega,by go_num,al.out,ab.out,aL.out,aK.out⟩
    case measure=>simp[intOf];omega
  ·obtain rfl:k=n:=by omega
   have aM:Hid (out=X):=by
    show _=_
    have:=HA.out
    rw[List.drop_eq_nil_of_le (by rw[HN.out];exact Nat.le_refl _)] at this
    rw[<-this];exact (List.append_nil _).symm
   have aN:=zh (aM.out ▸ HO.out)
   go_wp2_with fail
   go_ret
   exact⟨_,rfl,aN.out,HB.out.1⟩
theorem nE (A:Option Addr)(n c:Nat)(l:List Pk)(nm:List UInt8)(w:World)(hn:l.length=n)(hr:RRow w A l)(hl:n<=100000) :
  Calls Tryz.prog 20 #[.slice A n c,.string ⟨nm.toArray⟩] w (NumRet w (numF (fun p=>decide (p.name=nm)) 0 l)):=by
 have ab:∀ (fn:Fn) (first cap:Array Value) (w:World),(Instr.makeFunc fn first cap).run Tryz.prog w=.ok (.func fn first cap) w:=fun _ _ _ _=>rfl
 obtain⟨V,hV⟩:=ex (w.alloc (.cells #[.string ⟨nm.toArray⟩] 9))
 have HB:Hid (Below w.heap.size w V):=aa hV
 have HC:=zh (pH A n c l w.heap.size nm V hn (aU hr HB.out) hl (by rw[<-hV];simp[go_sem]) (by rw[<-hV];simp))
 obtain⟨X,hX⟩:=ex (numF (fun p=>decide (p.name=nm)) 0 l)
 rw[hX] at HC ⊢
 clear hn hr hX
 go_enter Tryz.func20,Tryz.ntmps20
 go_wp2_with fail
 clear hV
 refine HC.out.mono ?_
 rintro _ u ⟨v,rfl,ho,hb⟩
 have HU:Hid (Below w.heap.size w u):=bt HB.out hb
 have HO:=zh (Rg.wK HB.out.size ho)
 clear ho hb HC
 go_wp2_with fail
 go_ret
 exact⟨_,rfl,HO.out,HU.out⟩
end
section
open Go.RowKit Rs At Pg
namespace Pg
theorem vI {s m:List UInt8}(hm:m≠[]):1<=(Lib.split s m).length:=by
 unfold Lib.split
 rw[(dh hm _ _ s rfl).2];omega
theorem mW {β:Type}{rd:List UInt8->Except Int β}{Q:β->Prop}(hr:∀ t x,rd t=.ok x->Q x):∀ (l:List (List UInt8)) (acc r:List β),rdL rd acc l=.ok r->(∀ x∈acc,Q x)->∀ x∈r,Q x
 | [],acc,r,h,ha=>by cases h;exact ha
 | t :: l,acc,r,h,ha=>by
  cases ht:rd t with
  | error e=>rw[cZ ht] at h;cases h
  | ok x =>
   rw[fN ht] at h
   refine mW hr l _ r h fun y hy=>?_
   rcases List.mem_append.1 hy with hy | hy
   ·exact ha y hy
   ·rw[List.mem_singleton.1 hy];exact hr t x ht
theorem di {β:Type}{rd:List UInt8->Except Int β}{Q:β->Prop}(hr:∀ t x,rd t=.ok x->Q x){sep t:List UInt8}(hs:sep≠[]){most:Nat}{r:List β}(h:partsR rd sep most t=.ok r):1<=r.length/\r.length<=most/\∀ x∈r,Q x:=by
 unfold partsR at h
 split at h
 ·rename_i hl
  have h1:=rZ _ _ _ h
  have h2:=vI (s:=t) hs
  rw[List.length_nil,Nat.zero_add] at h1
  exact⟨by omega,by omega,mW hr _ _ _ h (by simp)⟩
 ·cases h
theorem mX {t:List UInt8}{a:Atm}(h:atomR t=.ok a):checkA a=0:=by
 unfold atomR at h
 split at h
 ·rename_i h0
  cases h
  exact qN (s:=t) (Prod.ext h0 rfl)
 ·cases h
theorem iG:∀ {l:List Atm},(∀ a∈l,checkA a=0)->atomsE l=0
 | [],_=>rfl
 | a :: l,h=>by
  unfold atomsE
  rw[if_pos (h a (by simp))]
  exact iG fun x hx=>h x (by simp[hx])
theorem mY:∀ {l:List Gv},(∀ a∈l,giveE a=0)->givesE l=0
 | [],_=>rfl
 | a :: l,h=>by
  unfold givesE
  rw[if_pos (h a (by simp))]
  exact mY fun x hx=>h x (by simp[hx])
theorem pI:∀ {l:List (List Atm)},(∀ d∈l,1<=d.length/\d.length<=8/\atomsE d=0)->depsE l=0
 | [],_=>rfl
 | a :: l,h=>by
  obtain⟨h1,h2,h3⟩:=h a (by simp)
  unfold depsE
  rw[if_pos ⟨h1,h2⟩,if_pos h3]
  exact pI fun x hx=>h x (by simp[hx])
theorem yh {t:List UInt8}{d:List Atm}(h:depR t=.ok d):1<=d.length/\d.length<=8/\atomsE d=0:=by
 obtain⟨h1,h2,h3⟩:=di (Q:=fun a=>checkA a=0) (fun _ _=>mX) (by decide) h
 exact⟨h1,h2,iG h3⟩
theorem iH {v:List UInt8}(h:Vm.check v=0):verE (canonOf v)=0:=by
 rw[canonOf,if_pos h]
 unfold verE
 rw[if_pos (Vm.iZ h),if_pos (Vm.i4 h)]
theorem zQ {t:List UInt8}{g:Gv}(h:gvR t=.ok g):giveE g=0:=by
 unfold gvR at h
 split at h
 ·rename_i h1
  split at h
  ·split at h
   ·rename_i h3
    cases h
    unfold giveE
    rw[if_pos h1]
    split
    ·rfl
    ·exact iH h3
   ·cases h
  ·cases h
   unfold giveE
   rw[if_pos h1,if_pos rfl]
 ·cases h
theorem zR {t:List UInt8}{b:Nat}(h:wtR t=.ok b):chkW b=0:=by
 unfold wtR at h
 split at h
 ·split at h
  ·rename_i h1;cases h;exact h1
  ·cases h
 ·cases h
def PInv (q:Pk):Prop:=q.deps.length<=16/\depsE q.deps=0/\q.confl.length<=16/\atomsE q.confl=0/\q.prov.length<=16/\givesE q.prov=0/\chkW q.wt=0
theorem vJ:PInv zeroP:=by unfold PInv;decide +kernel
theorem yk {p q:Pk}{k v:List UInt8}(h:takeR p k v=.ok q)(hp:PInv p):PInv q/\(nameB q.name=true\/(k≠kPkg/\q.name=p.name))/\(verE q.ver=0\/(k≠kVer/\q.ver=p.ver)):=by
 obtain⟨p1,p2,p3,p4,p5,p6,p7⟩:=hp
 unfold takeR at h
 by_cases k1:k=kPkg
 ·rw[if_pos k1] at h
  split at h
  ·rename_i h1;cases h
   exact⟨⟨p1,p2,p3,p4,p5,p6,p7⟩,Or.inl h1,Or.inr ⟨by rw[k1];decide,rfl⟩⟩
  ·cases h
 rw[if_neg k1] at h
 by_cases k2:k=kVer
 ·rw[if_pos k2] at h
  split at h
  ·rename_i h1;cases h
   exact⟨⟨p1,p2,p3,p4,p5,p6,p7⟩,Or.inr ⟨k1,rfl⟩,Or.inl (iH h1)⟩
  ·cases h
 rw[if_neg k2] at h
 by_cases k3:k=kDep
 ·rw[if_pos k3] at h
  split at h
  ·rename_i l h1;cases h
   obtain⟨_,h2,h3⟩:=di (fun _ _=>yh) (by decide) h1
   exact⟨⟨h2,pI h3,p3,p4,p5,p6,p7⟩,Or.inr ⟨k1,rfl⟩,Or.inr ⟨k2,rfl⟩⟩
  ·cases h
 rw[if_neg k3] at h
 by_cases k4:k=kCon
 ·rw[if_pos k4] at h
  split at h
  ·rename_i l h1;cases h
   obtain⟨_,h2,h3⟩:=di (fun _ _=>mX) (by decide) h1
   exact⟨⟨p1,p2,h2,iG h3,p5,p6,p7⟩,Or.inr ⟨k1,rfl⟩,Or.inr ⟨k2,rfl⟩⟩
  ·cases h
 rw[if_neg k4] at h
 by_cases k5:k=kPro
 ·rw[if_pos k5] at h
  split at h
  ·rename_i l h1;cases h
   obtain⟨_,h2,h3⟩:=di (fun _ _=>zQ) (by decide) h1
   exact⟨⟨p1,p2,p3,p4,h2,mY h3,p7⟩,Or.inr ⟨k1,rfl⟩,Or.inr ⟨k2,rfl⟩⟩
  ·cases h
 rw[if_neg k5] at h
 by_cases k6:k=kWei
 ·rw[if_pos k6] at h
  split at h
  ·rename_i l h1;cases h
   exact⟨⟨p1,p2,p3,p4,p5,p6,zR h1⟩,Or.inr ⟨k1,rfl⟩,Or.inr ⟨k2,rfl⟩⟩
  ·cases h
 rw[if_neg k6] at h
 cases h
 exact⟨⟨p1,p2,p3,p4,p5,p6,p7⟩,Or.inr ⟨k1,rfl⟩,Or.inr ⟨k2,rfl⟩⟩
theorem mZ (f:Sz.Fld)(l:List Sz.Fld)(k:List UInt8):Sz.hasK (f :: l) k=(f.key==k||Sz.hasK l k):=rfl
theorem m6:∀ (l:List Sz.Fld) (i:Nat) (p q:Pk),readR i p l=.ok q->PInv p->PInv q/\(nameB p.name=true\/Sz.hasK l kPkg=true->nameB q.name=true)/\(verE p.ver=0\/Sz.hasK l kVer=true->verE q.ver=0)
 | [],i,p,q,h,hp=>by
  cases h
  exact⟨hp,fun h=>h.resolve_right (by decide),fun h=>h.resolve_right (by decide)⟩
 | f :: l,i,p,q,h,hp=>by
  cases ht:takeR p f.key f.val with
  | error e=>rw[dz ht] at h;cases h
  | ok r =>
   rw[gx ht] at h
   obtain⟨t1,t2,t3⟩:=yk ht hp
   obtain⟨r1,r2,r3⟩:=m6 l _ _ _ h t1
   refine⟨r1,fun hh=>r2 ?_,fun hh=>r3 ?_⟩
   ·rcases t2 with t2 | ⟨t2,t4⟩
    ·exact Or.inl t2
    ·rw[t4]
     refine hh.imp id fun hh=>?_
     rw[mZ,beq_eq_false_iff_ne.2 t2,Bool.false_or] at hh
     exact hh
   ·rcases t3 with t3 | ⟨t3,t4⟩
    ·exact Or.inl t3
    ·rw[t4]
     refine hh.imp id fun hh=>?_
     rw[mZ,beq_eq_false_iff_ne.2 t3,Bool.false_or] at hh
     exact hh
theorem vK {s:List Sz.Fld}{p:Pk}(h:readP s=.ok p):checkP p=0:=by
 unfold readP at h
 split at h
 ·split at h
  ·rename_i hk
   rw[Sz.po,Sz.po,Bool.and_eq_true] at hk
   obtain⟨⟨q1,q2,q3,q4,q5,q6,q7⟩,h1,h2⟩:=m6 s 0 zeroP p h vJ
   have n:=h1 (Or.inr hk.1)
   have v:=h2 (Or.inr hk.2)
   unfold checkP
   rw[if_neg (by rw[n];decide),if_neg (by rw[v];decide),if_neg (by omega),if_neg (by rw[q2];decide),if_neg (by omega),if_neg (by rw[q4];decide),if_neg (by omega),if_neg (by rw[q6];decide),q7]
  ·cases h
 ·cases h
theorem yl {s:List Sz.Fld}{i:Int}{p:Pk}(h:fromP s=(0,i,p)):checkP p=0:=by
 unfold fromP at h
 cases hr:readP s with
 | ok q=>rw[hr] at h;cases h;exact vK hr
 | error x =>
  rw[hr] at h
  have:=xO hr
  obtain⟨j,e⟩:=x
  simp only[Prod.mk.injEq] at h
  exact absurd h.1 this
end Pg
end
namespace Rp
open Go.RowKit Rs At Pg
theorem bP:Vm.Cmp3 cmpP:=(Vm.nT.pull Pk.name).both (Vm.en.pull Pk.ver)
theorem gP {a b c:Pk}(h1:cmpP a b<0)(h2:cmpP b c<=0):cmpP a c<0:=by
 rcases Int.lt_or_le (cmpP a c) 0 with h | h
 ·exact h
 ·have e1:=bP.1 a c
  have e2:=bP.1 a b
  have:=bP.2 b c a h2 (by omega)
  omega
def ins (p:Pk):List Pk->Option (List Pk)
 | []=>some [p]
 | q :: l=>if cmpP q p<0 then (ins p l).map (q :: ·) else if cmpP q p=0 then none else some (p :: q :: l)
def Ord (l:List Pk):Prop:=∀ (i j:Nat) (hi:i<l.length) (hj:j<l.length),i<j->cmpP l[i] l[j]<0
def Place (p:Pk) (l:List Pk) (i:Nat):Prop:=i<=l.length/\(∀ (j:Nat) (h:j<l.length),j+1=i->cmpP l[j] p<0)/\∀ h:i<l.length,¬ cmpP l[i] p<0
theorem pJ {q:Pk}{l:List Pk}(h:Ord (q :: l)):Ord l:=fun i j hi hj hij=>by
 have:=h (i+1) (j+1) (Nat.succ_lt_succ hi) (Nat.succ_lt_succ hj) (Nat.succ_lt_succ hij)
 simpa using this
theorem m7 {p:Pk}:∀ {l:List Pk} {i:Nat},Ord l->Place p l i->ins p l=if ∃ h:i<l.length,cmpP l[i] p=0 then none else some (l.take i++p :: l.drop i)
 | [],i,_,h=>by
  have:i=0:=by have:=h.1;simpa using this
  subst this
  simp[ins]
 | q :: l,0,ho,h=>by
  have h2:=h.2.2 (by simp)
  have h3:¬ cmpP q p<0:=by simpa using h2
  unfold ins
  rw[if_neg h3]
  by_cases he:cmpP q p=0
  ·rw[if_pos he,if_pos ⟨by simp,by simpa using he⟩]
  ·rw[if_neg he,if_neg (fun⟨_,e⟩=>he (by simpa using e))]
   rfl
 | q :: l,i+1,ho,h=>by
  have hq:cmpP q p<0:=by
   have hi:=h.1
   rw[List.length_cons] at hi
   have h1:=h.2.1 i (by rw[List.length_cons];omega) rfl
   by_cases h0:i=0
   ·subst h0;simpa using h1
   ·have h2:=ho 0 i (by simp) (by rw[List.length_cons];omega) (by omega)
    exact gP (by simpa using h2) (Int.le_of_lt h1)
  have hp:Place p l i:=⟨by have:=h.1;rw[List.length_cons] at this;omega,fun j hj e=>by
   have:=h.2.1 (j+1) (by rw[List.length_cons];omega) (by omega)
   simpa using this,fun hi=>by
   have:=h.2.2 (by rw[List.length_cons];omega)
   simpa using this⟩
  unfold ins
  rw[if_pos hq,m7 (pJ ho) hp]
  by_cases he:∃ h:i<l.length,cmpP l[i] p=0
  ·rw[if_pos he,if_pos (by obtain⟨a,b⟩:=he;exact⟨by rw[List.length_cons];omega,by simpa using b⟩)]
   rfl
  ·rw[if_neg he,if_neg (fun⟨a,b⟩=>he ⟨by rw[List.length_cons] at a;omega,by simpa using b⟩)]
   rfl
theorem lV {p:Pk}:∀ {l r:List Pk},ins p l=some r->∀ x,x∈r↔x=p\/x∈l
 | [],r,h,x=>by cases h;simp
 | q :: l,r,h,x=>by
  unfold ins at h
  split at h
  ·cases hi:ins p l with
   | none=>rw[hi] at h;cases h
   | some s =>
    rw[hi] at h
    cases h
    have:=lV hi x
    simp only[List.mem_cons,this]
    constructor
    ·rintro (h | h | h)
     ·exact Or.inr (Or.inl h)
     ·exact Or.inl h
     ·exact Or.inr (Or.inr h)
    ·rintro (h | h | h)
     ·exact Or.inr (Or.inl h)
     ·exact Or.inl h
     ·exact Or.inr (Or.inr h)
  ·split at h
   ·cases h
   ·cases h;simp
theorem sf {p:Pk}:∀ {l r:List Pk},ins p l=some r->r.length=l.length+1
 | [],r,h=>by cases h;rfl
 | q :: l,r,h=>by
  unfold ins at h
  split at h
  ·cases hi:ins p l with
   | none=>rw[hi] at h;cases h
   | some s=>rw[hi] at h;cases h;simp[sf hi]
  ·split at h
   ·cases h
   ·cases h;simp
theorem pK {q:Pk}{l:List Pk}(h:Ord l)(hq:∀ x∈l,cmpP q x<0):Ord (q :: l):=fun i j hi hj hij=>by
 cases j with
 | zero=>omega
 | succ j =>
  rw[List.length_cons] at hj
  cases i with
  | zero=>simpa using hq _ (List.getElem_mem (by omega))
  | succ i=>simpa using h i j (by rw[List.length_cons] at hi;omega) (by omega) (by omega)
theorem pL {q:Pk}{l:List Pk}(h:Ord (q :: l)):∀ x∈l,cmpP q x<0:=fun x hx=>by
 obtain⟨i,hi,rfl⟩:=List.mem_iff_getElem.1 hx
 exact h 0 (i+1) (by simp) (by rw[List.length_cons];omega) (by omega)
theorem si {p:Pk}:∀ {l r:List Pk},Ord l->ins p l=some r->Ord r
 | [],r,_,h=>by
  cases h
  intro i j hi hj hij
  simp at hi hj
  omega
 | q :: l,r,ho,h=>by
  unfold ins at h
  split at h
  ·rename_i hq
   cases hi:ins p l with
   | none=>rw[hi] at h;cases h
   | some s =>
    rw[hi] at h
    cases h
    exact pK (si (pJ ho) hi) fun x hx=>by
     rcases (lV hi x).1 hx with rfl | hx
     ·exact hq
     ·exact pL ho x hx
  ·rename_i hq
   split at h
   ·cases h
   ·rename_i hz
    cases h
    have hpq:cmpP p q<0:=by have:=bP.1 q p;omega
    exact pK ho fun x hx=>by
     rcases List.mem_cons.1 hx with rfl | hx
     ·exact hpq
     ·exact gP hpq (Int.le_of_lt (pL ho x hx))
def lineAt (s:List Sz.Fld) (i:Int):Int:=match s[i.toNat]? with
 | some f=>f.line
 | none=>0
def takeL:List (List Sz.Fld)->List Pk->Int × Int × List Pk
 | [],acc=>(0,0,acc)
 | s :: l,acc=>if (fromP s).1≠0 then ((fromP s).1,lineAt s (fromP s).2.1,[]) else match ins (fromP s).2.2 acc with
  | none=>(6,lineAt s 0,[])
  | some r=>takeL l r
def parseR (t:List UInt8):Int × Int × List Pk :=
 if (Sz.parseS t).1≠0 then ((Sz.parseS t).1,(Sz.parseS t).2.1,[]) else if 64<(Sz.parseS t).2.2.length then (4,0,[]) else takeL (Sz.parseS t).2.2 []
theorem sj (ks:List (List UInt8)):∀ (l:List Sz.Fld) (i:Nat) (last:Int),(Sz.ordP ks i last l).2≠0->(i:Int)<=(Sz.ordP ks i last l).1/\(Sz.ordP ks i last l).1<i+l.length
 | [],i,last,h=>by exact absurd rfl h
 | f :: l,i,last,h=>by
  unfold Sz.ordP at h ⊢
  split
  ·simp;omega
  ·split
   ·rename_i h1 h2
    rw[h1] at h
    dsimp only at h
    rw[if_pos h2] at h
    have:=sj ks l (i+1) _ h
    simp only[List.length_cons]
    omega
   ·simp;omega
theorem pM:∀ (l:List Sz.Fld) (i:Nat) (p:Pk) (j e:Int),readR i p l=.error (j,e)->(i:Int)<=j/\j<i+l.length/\e≠0
 | [],i,p,j,e,h=>by cases h
 | f :: l,i,p,j,e,h=>by
  cases ht:takeR p f.key f.val with
  | ok q =>
   rw[gx ht] at h
   have:=pM l (i+1) q j e h
   simp only[List.length_cons]
   omega
  | error x =>
   rw[dz ht] at h
   cases h
   exact⟨Int.le_refl _,by simp only[List.length_cons];omega,pz ht⟩
theorem zS {s:List Sz.Fld}{k i:Int}{p:Pk}(h:fromP s=(k,i,p))(h0:s≠[]):0<=i/\i<s.length/\(k≠0->p=zeroP):=by
 have hl:0<s.length:=List.length_pos_iff.2 h0
 unfold fromP at h
 cases hr:readP s with
 | ok q=>rw[hr] at h;cases h;exact⟨Int.le_refl _,by omega,fun e=>absurd rfl e⟩
 | error x =>
  obtain⟨j,e⟩:=x
  rw[hr] at h
  cases h
  unfold readP at hr
  split at hr
  ·split at hr
   ·have:=pM _ _ _ _ _ hr
    exact⟨by omega,by omega,fun _=>rfl⟩
   ·cases hr;exact⟨Int.le_refl _,by omega,fun _=>rfl⟩
  ·rename_i hc
   have:=sj keys6 s 0 (-1) hc
   injection hr with hr
   rw[hr] at this
   exact⟨by simpa using this.1,by simpa using this.2,fun _=>rfl⟩
theorem dv:∀ (ls:List (List UInt8)) (n:Nat) (acc:List (List Sz.Fld)) (last:List Sz.Fld) (k m:Int) (r:List (List Sz.Fld)),Sz.readL n ls acc last=(k,m,r)->(∀ s∈acc,s≠[])->∀ s∈r,s≠[]
 | [],n,acc,last,k,m,r,h,ha=>by
  rw[Sz.mO] at h
  cases h
  split
  ·exact ha
  ·rename_i hl
   intro s hs
   rcases List.mem_append.1 hs with hs | hs
   ·exact ha s hs
   ·rw[List.mem_singleton.1 hs];intro e;rw[e] at hl;exact hl rfl
 | x :: ls,n,acc,last,k,m,r,h,ha=>by
  rw[Sz.kJ] at h
  split at h
  ·split at h
   ·cases h;intro s hs;cases hs
   ·rename_i hc
    refine dv ls _ _ _ k m r h fun s hs=>?_
    rcases List.mem_append.1 hs with hs | hs
    ·exact ha s hs
    ·rw[List.mem_singleton.1 hs];intro e;rw[e] at hc;exact hc rfl
  ·cases hf:Sz.fieldP x n with
   | none=>rw[hf] at h;cases h;intro s hs;cases hs
   | some f =>
    rw[hf] at h
    dsimp only at h
    split at h
    ·cases h;intro s hs;cases hs
    ·exact dv ls _ _ _ k m r h ha
theorem lW (t:List UInt8):∀ s∈(Sz.parseS t).2.2,s≠[]:=by
 obtain⟨X,hX⟩:=ex (Sz.parseS t)
 rw[hX]
 obtain⟨k,m,r⟩:=X
 unfold Sz.parseS at hX
 split at hX
 ·cases hX;intro s hs;cases hs
 ·split at hX
  ·exact dv _ _ _ _ k m r hX (fun s hs=>by cases hs)
  ·cases hX;intro s hs;cases hs
end Rp
section
open Go.RowKit Rs At Pg
theorem dR {P:Program}(w:World)(dT sT ty elem:TypeId)(g o dLen dCap:Nat)(a:Addr)(sLen sCap:Nat)(cur:Array Value)(t:TypeId)(cs:List Value)(K m:Nat)
  (hu:P.underlying dT=some (.slice elem)) (hs:(P.info? elem).map (·.size)=some K) (hg:w.heap[g]?=some (.cells cur t (0,0))) (hm:min sLen dLen=m) (hn:cs.length=m*K)
  (hsrc:∀ j v,cs[j]?=some v->w.cell? (a.add j)=some v) (hfit:o+cs.length<=cur.size) (h1:∀ v∈cs,v.oneCell'=true) :
  (Builtin.copy_ #[dT,sT] ty #[.slice (some ⟨g,o,none⟩) dLen dCap,.slice (some a) sLen sCap]).run P w=.ok (goInt m) (w.setRow g (cur.toList.take o++cs++cur.toList.drop (o+cs.length)).toArray):=by
 have hl:=run_loadCells_list (P:=P) w a cs hsrc
 have aa:=run_storeCells_at P g o t cs 0 cur w hg (by simpa using hfit) h1
 rw[hn] at hl
 cases hq:P.info? elem with
 | none=>simp[hq] at hs
 | some i =>
  have hi:i.size=K:=by simpa [hq] using hs
  have ab:Nat.min sLen dLen=m:=hm
  simp[Builtin.copy_,run_underlying hu,Builtin.lenOf,Builtin.firstCells,sizeOf,typeInfo,hq,hi,ab,hl,aa]
theorem kV {P:Program}{w:World}{ops:Array Oper}{o:Oper}{a:Act}{G:Act->World->Prop}{Q:Exit->Act->World->Prop}{E:Prop}(hgd:o.guard=none)(d s:Operand)(dT sT:TypeId)
  (ho:o.op=.call { callee:=.builtin .copy,args:=#[d,s],argTypes:=#[dT,sT] }) (elem:TypeId) (K m:Nat) (hu:P.underlying dT=some (.slice elem)) (hsz:(P.info? elem).map (·.size)=some K)
  (g off dLen dCap:Nat) (ad:Addr) (sLen sCap:Nat) (hd:a.eval d=.slice (some ⟨g,off,none⟩) dLen dCap) (hs:a.eval s=.slice (some ad) sLen sCap)
  (cur:List Value) (t:TypeId) (hg:w.heap[g]?=some (.cells cur.toArray t (0,0))) (cs:List Value) (hm:min sLen dLen=m) (hn:cs.length=m*K)
  (hsrc:∀ j v,cs[j]?=some v->w.cell? (ad.add j)=some v) (hfit:off+cs.length<=cur.length) (h1:∀ v∈cs,v.oneCell'=true)
  (h:G (a.put o.dst (goInt m)) (w.setRow g (cur.take off++cs++cur.drop (off+cs.length)).toArray)):if Region.wanted o (yielded ops a.tmps)=true then Oper.wp P o a w G Q else E:=by
 have hw:Region.wanted o (yielded ops a.tmps)=true:=by simp[Region.wanted,hgd]
 rw[if_pos hw]
 have aa:=dR (P:=P) w dT sT o.type elem g off dLen dCap ad sLen sCap cur.toArray t cs K m hu hsz hg hm hn hsrc (by simpa using hfit) h1
 rw[List.toList_toArray] at aa
 unfold Oper.wp
 simp only[execOp,ho,resolve,invoke,builtin,Sem.run_bind,Sem.run_pure,Result.andThen_ok,List.map_toArray,List.map_cons,List.map_nil,hd,hs,aa]
 exact h
theorem lX {P:Program}{w:World}(t tx ty e e':TypeId)(ht:P.underlying t=some (.slice e))(hx:P.underlying tx=some (.slice e')){v:Value}(hv:IsSl v)(x:Value):(Builtin.append_ #[t,tx] ty #[v,x]).run P w=(Builtin.append_ #[t,t] ty #[v,x]).run P w:=by
 obtain⟨A,n,c,rfl⟩:=hv
 simp[Builtin.append_,run_underlying ht,run_underlying hx]
theorem lY {α:Type}{P:Program}{enc:α->List Value}{K:Nat}{ST SX T:TypeId}{w:World}{κ:Value->Prop}(hT:Rg.SliceT P enc K ST T){e':TypeId}(hX:P.underlying SX=some (.slice e'))(hk:∀ i,P.info? T=some i->∀ z,i.zero=some z->∀ u∈z.cells,κ u)(hke:∀ x,∀ u∈enc x,κ u)
  {ops:Array Oper} {rest:List Oper} {o:Oper} {a:Act} {Q:Exit->Act->World->Prop} (hgd:o.guard=none) (sl x:Operand)
  (ho:o.op=.call { callee:=.builtin .append,args:=#[sl,x],argTypes:=#[ST,SX] })
  (B:Nat) (v:Value) (l m:List α) (hs:a.eval sl=v) (hown:Rg.Own enc K w B T v l) (hp:Pure κ w v) (ad:Addr) (c n:Nat) (hl:m.length=n) (hx:a.eval x=.slice (some ad) n c)
  (hnews:∀ j u,(Rg.flat enc m)[j]?=some u->w.cell? (ad.add j)=some u) (hm:0<n) (hsz:l.length+n<=1000000) (hB:B<=w.heap.size)
  (h:∀ v' w',Rg.Own enc K w' B T v' (l++m)->Pure κ w' v'->w.grownBy w' v.ownBlock->(v'.ownBlock=v.ownBlock\/∃ H,v'.ownBlock=some H/\w.heap.size<=H)->IsSl v'->wpList P ops Q rest (a.put o.dst v') w'):wpList P ops Q (o :: rest) a w:=by
 subst hl
 obtain⟨i,z,hi,ab,af,ae,hb⟩:=hT.info
 have aa:(l.length+m.length)*i.bytes<=140737488355328:=by
  have:(l.length+m.length)*i.bytes<=1000000*1000:=Nat.mul_le_mul hsz hb
  omega
 have ac:l.length+m.length<=maxLen:=by unfold maxLen;omega
 refine wpList_plain hgd fun _ hK=>?_
 obtain⟨g,cap,w',hr,h2,h3,h4,_⟩:=run_append_lies (P:=P) w ST o.type B T i z K i.bytes hT.under hi ab ae rfl af hT.pos v l.length (Rg.flat enc l) hown ad m.length c (Rg.flat enc m) (Rg.aV hT.fits m) hnews (Rg.bd hT.fits m) hm ac aa hB _ rfl
 have h6:=pure_run ST o.type B T i z K i.bytes hT.under hi ab ae rfl l.length (Rg.flat enc l) hown ad m.length c (Rg.flat enc m) (Rg.aV hT.fits m) hnews (Rg.bd hT.fits m) hm ac aa hr hp (fun u hu=>by
  obtain⟨y,_,hy⟩:=List.mem_flatMap.1 hu
  exact hke y u hy) (hk i hi z ab)
 rw[<-lX ST SX o.type T e' hT.under hX (by
  obtain⟨A,c2,ag,_⟩:=Rg.au hT.fits hown
  exact⟨_,_,_,ag⟩)] at hr
 unfold Oper.wp execOp
 simp only[ho,resolve,invoke,builtin,Sem.run_bind,Sem.run_pure,Result.andThen_ok,List.map_toArray,List.map_cons,List.map_nil,hs,hx,hr]
 refine hK _ _ (h _ w' ?_ h6 h3 ?_ ⟨_,_,_,rfl⟩)
 ·unfold Rg.Own
  rw[Rg.bG,List.length_append]
  exact h2
 ·rcases h4 with h4 | h4
  ·exact Or.inl h4.symm
  ·exact Or.inr ⟨g,rfl,by rw[h4];exact Nat.le_refl _⟩
theorem vL {α:Type}(X D Y L:List α)(hX:L.take X.length=X)(hl:X.length+D.length+Y.length<=L.length) :
  (((L.take (X.length+D.length)++Y++L.drop (X.length+D.length+Y.length)).take X.length++D++(L.take (X.length+D.length)++Y++L.drop (X.length+D.length+Y.length)).drop (X.length+D.length)).take (X.length+D.length+Y.length)=X++D++Y) /\
  (((L.take (X.length+D.length)++Y++L.drop (X.length+D.length+Y.length)).take X.length++D++(L.take (X.length+D.length)++Y++L.drop (X.length+D.length+Y.length)).drop (X.length+D.length)).length=L.length):=by
 have e1:(L.take (X.length+D.length)++Y++L.drop (X.length+D.length+Y.length)).take X.length=X:=by
  rw[List.append_assoc,List.take_append_of_le_length (by rw[List.length_take];omega),List.take_take,Nat.min_eq_left (by omega),hX]
 have e2:(L.take (X.length+D.length)++Y++L.drop (X.length+D.length+Y.length)).drop (X.length+D.length)=Y++L.drop (X.length+D.length+Y.length):=by
  rw[List.append_assoc,List.drop_append_of_le_length (by rw[List.length_take];omega),List.drop_of_length_le (by rw[List.length_take];omega)]
  rfl
 rw[e1,e2]
 constructor
 ·rw[<-List.append_assoc,List.take_append_of_le_length (by simp only[List.length_append];omega)]
  exact List.take_of_length_le (by simp only[List.length_append];omega)
 ·simp only[List.length_append,List.length_drop];omega
theorem zT {α:Type}(X D Y Z:List α)(hl:D.length+Y.length<=Z.length) :
  (((((X++Z).take X.length++D++(X++Z).drop (X.length+D.length)).take (X.length+D.length))++Y++((X++Z).take X.length++D++(X++Z).drop (X.length+D.length)).drop (X.length+D.length+Y.length)).take (X.length+D.length+Y.length)=X++D++Y) /\
  (((((X++Z).take X.length++D++(X++Z).drop (X.length+D.length)).take (X.length+D.length))++Y++((X++Z).take X.length++D++(X++Z).drop (X.length+D.length)).drop (X.length+D.length+Y.length)).length=X.length+Z.length):=by
 have e0:(X++Z).take X.length=X:=by simp
 have e1:(X++Z).drop (X.length+D.length)=Z.drop D.length:=by rw[List.drop_append];simp
 rw[e0,e1]
 have e2:(X++D++Z.drop D.length).take (X.length+D.length)=X++D:=by
  rw[List.take_append_of_le_length (by simp)]
  exact List.take_of_length_le (by simp)
 have e3:(X++D++Z.drop D.length).drop (X.length+D.length+Y.length)=Z.drop (D.length+Y.length):=by
  rw[List.drop_append,List.drop_of_length_le (by simp only[List.length_append];omega),List.nil_append,List.drop_drop]
  congr 1
  simp only[List.length_append]
  omega
 rw[e2,e3]
 constructor
 ·rw[List.take_append_of_le_length (by simp only[List.length_append];omega)]
  exact List.take_of_length_le (by simp only[List.length_append];omega)
 ·simp only[List.length_append,List.length_drop];omega
end
section
open Go.RowKit Rs At Pg Rp
namespace Rp
def Off {α:Type} (o:Option Nat) (A:Option Addr) (l:List α):Prop:=0<l.length->∀ a,A=some a->o≠some a.block
def PFar (o:Option Nat) (w:World) (d:PD) (p:Pk):Prop:=(d.nm=p.name/\d.vr=p.ver/\d.D.2.1=p.deps.length/\d.C.2.1=p.confl.length/\d.G.2.1=p.prov.length/\d.wt=p.wt) /\
 (∃ ds,Rg.Row encO 1 w d.D.1 ds/\DIn w ds p.deps/\Off o d.D.1 ds/\∀ (i:Nat) (e:Desc) (l:List Atm),ds[i]?=some e->p.deps[i]?=some l->Off o e.1 l)/\(ARow w d.C.1 p.confl/\Off o d.C.1 p.confl)/\GRow w d.G.1 p.prov/\Off o d.G.1 p.prov
theorem ym {o:Option Nat}{w:World}{d:PD}{p:Pk}(h:PFar o w d p):POne w d p:=by
 obtain⟨⟨h1,h2,h3,h4,h5,h6⟩,⟨ds,d1,d2,_,_⟩,⟨h8,_⟩,h9,_⟩:=h
 exact⟨h1,h2,h3,h4,h5,h6,⟨ds,d1,d2⟩,h8,h9⟩
theorem pN {o:Option Nat}{w u:World}{d:PD}{p:Pk}(h:PFar o w d p)(hb:But o w u)(hg:∀ g,o=some g->∀ j x,w.cell? ⟨g,j,none⟩=some x->NoB x):PFar o u d p:=by
 obtain⟨h1,⟨ds,d1,d2,d3,d4⟩,⟨h8,f8⟩,h9,f9⟩:=h
 exact⟨h1,⟨ds,cf d1 hb d3,⟨d2.1,fun i e l e1 e2=>⟨(d2.2 i e l e1 e2).1,dt (d2.2 i e l e1 e2).2 hb (d4 i e l e1 e2) hg⟩⟩,d3,d4⟩,⟨dt h8 hb f8 hg,f8⟩,cf h9 hb f9,f9⟩
theorem kW {o:Option Nat}{w u:World}{d:PD}{p:Pk}(h:PFar o w d p)(hb:Below w.heap.size w u):PFar o u d p:=by
 obtain⟨h1,⟨ds,d1,d2,d3,d4⟩,⟨h8,f8⟩,h9,f9⟩:=h
 exact⟨h1,⟨ds,Rg.ag d1 hb,eX d2 hb,d3,d4⟩,⟨bX h8 hb,f8⟩,Rg.ag h9 hb,f9⟩
theorem lZ {α:Type}{enc:α->List Value}{K:Nat}{w:World}{A:Option Addr}{l:List α}{H:Nat}(h:Rg.Row enc K w A l)(hH:w.heap.size<=H):0<l.length->∀ a,A=some a->some H≠some a.block:=fun h0 a ha e=>by
 obtain⟨a',e',hl,_⟩:=h h0
 rw[ha] at e';cases e'
 have:=Option.some.inj e
 omega
theorem pO {w:World}{A:Option Addr}{l:List Atm}{H:Nat}(h:ARow w A l)(hH:w.heap.size<=H):Off (some H) A l:=by
 obtain⟨ds,h1,h2⟩:=h
 intro h0
 exact lZ h1 hH (by rw[h2.1];exact h0)
theorem vM {B:Nat}{w:World}{p:Pk}{D C G:Option Addr}(h:PRows B w p D C G){o:Option Nat}(ho:∀ g,o=some g->g<B)(dc cc gc:Nat):PFar o w ⟨p.name,p.ver,(D,p.deps.length,dc),(C,p.confl.length,cc),(G,p.prov.length,gc),p.wt⟩ p:=by
 obtain⟨⟨⟨ds,d1,d2,d3⟩,fD⟩,⟨h8,fC⟩,h9,fG⟩:=h
 have far:∀ {A:Option Addr},AFr B A->∀ a,A=some a->o≠some a.block:=fun hA a ha e=>by
  have:=ho _ e
  have:=hA a ha
  omega
 exact⟨⟨rfl,rfl,rfl,rfl,rfl,rfl⟩,⟨ds,d1,d2,fun _=>far fD,fun i e l e1 _ _=>far (fun a ha=>d3 i e e1 a ha)⟩,⟨h8,fun _=>far fC⟩,h9,fun _=>far fG⟩
def POwn (w:World) (B:Nat) (T:TypeId) (v:Value) (ds:List PD) (l:List Pk):Prop:=Rg.Own encP 6 w B T v ds/\Pure NoB w v/\ds.length=l.length/\∀ (i:Nat) (d:PD) (p:Pk),ds[i]?=some d->l[i]?=some p->PFar v.ownBlock w d p
theorem yn (w:World)(B:Nat)(T:TypeId):POwn w B T (.slice none 0 0) [] []:=⟨Rg.an _ _ _,pure_nil _ _,rfl,fun i d p h=>by simp at h⟩
theorem kX {w w':World}{B:Nat}{T:TypeId}{v:Value}{ds:List PD}{l:List Pk}(h:POwn w B T v ds l)(hb:Below w.heap.size w w'):POwn w' B T v ds l:=⟨Rg.own_below h.1 hb,gu h.2.1 h.1 hb,h.2.2.1,fun i d p h1 h2=>kW (h.2.2.2 i d p h1 h2) hb⟩
theorem gD {w:World}{B:Nat}{T:TypeId}{v:Value}{ds:List PD}{l:List Pk}(h:POwn w B T v ds l):∃ A c,v=.slice A l.length c/\RRow w A l/\l.length<=c:=by
 obtain⟨A,c,hv,hr,hc,_⟩:=Rg.au fitsP h.1
 rw[h.2.2.1] at hv hc
 exact⟨A,c,hv,⟨ds,hr,h.2.2.1,fun i d p h1 h2=>ym (h.2.2.2 i d p h1 h2)⟩,hc⟩
theorem iU {α:Type}{l:List α}{x y:α}{i k:Nat}(hi:i<=l.length)(h:(l.take i++x :: l.drop i)[k]?=some y):(k<i/\l[k]?=some y)\/(k=i/\y=x)\/(i<k/\l[k-1]?=some y):=by
 have hl:(l.take i).length=i:=by rw[List.length_take];omega
 rcases Nat.lt_trichotomy k i with hk | hk | hk
 ·rw[List.getElem?_append_left (by omega),List.getElem?_take,if_pos hk] at h
  exact Or.inl ⟨hk,h⟩
 ·subst hk
  rw[List.getElem?_append_right (by omega),hl,Nat.sub_self] at h
  exact Or.inr (Or.inl ⟨rfl,(Option.some.inj h).symm⟩)
 ·rw[List.getElem?_append_right (by omega),hl] at h
  obtain⟨j,hj⟩:∃ j,k-i=j+1:=⟨k-i-1,by omega⟩
  rw[hj,List.getElem?_cons_succ,List.getElem?_drop] at h
  exact Or.inr (Or.inr ⟨hk,by rw[<-h];congr 1;omega⟩)
def InsRet (w:World) (B:Nat) (T:TypeId) (v:Value) (ds':List PD) (e:Ending) (w':World):Prop:=∃ v',e=.returned v'/\Rg.Own encP 6 w' B T v' ds'/\Pure NoB w' v'/\(v'.ownBlock=v.ownBlock\/∃ H,v'.ownBlock=some H/\w.heap.size<=H)/\w.grownBy w' v.ownBlock
theorem yo {w w':World}{B:Nat}{T:TypeId}{v v':Value}{ds:List PD}{l:List Pk}{d:PD}{p:Pk}{i:Nat}(h:POwn w B T v ds l)(hd:PFar v.ownBlock w d p)(hi:i<=l.length)(ho:Rg.Own encP 6 w' B T v' (ds.take i++d :: ds.drop i))(hp:Pure NoB w' v')(hv:v'.ownBlock=v.ownBlock\/∃ H,v'.ownBlock=some H/\w.heap.size<=H)(hg:w.grownBy w' v.ownBlock):POwn w' B T v' (ds.take i++d :: ds.drop i) (l.take i++p :: l.drop i):=by
 have aa:=h.2.2.1
 have key:∀ {x:PD} {q:Pk},PFar v.ownBlock w x q->PFar v'.ownBlock w' x q:=fun {x q} hx=>by
  have nb:∀ g,v.ownBlock=some g->∀ j x,w.cell? ⟨g,j,none⟩=some x->NoB x:=fun g hg2=>h.2.1 g hg2
  rcases hv with hv | ⟨H,hv,hH⟩
  ·rw[hv];exact pN hx (cY hg) nb
  ·have h2:PFar v.ownBlock w' x q:=pN hx (cY hg) nb
   obtain⟨h1,⟨ds,d1,d2,d3,d4⟩,⟨h8,f8⟩,h9,f9⟩:=hx
   obtain⟨_,⟨ad,ae,af,_,_⟩,⟨ab,_⟩,ac,_⟩:=h2
   rw[hv]
   refine⟨h1,?_,⟨ab,pO h8 hH⟩,ac,lZ h9 hH⟩
   exact⟨ds,cf d1 (cY hg) d3,⟨d2.1,fun i e l e1 e2=>⟨(d2.2 i e l e1 e2).1,dt (d2.2 i e l e1 e2).2 (cY hg) (d4 i e l e1 e2) nb⟩⟩,lZ d1 hH,fun i e l e1 e2=>pO (d2.2 i e l e1 e2).2 hH⟩
 refine⟨ho,hp,by simp[aa],fun k x q e1 e2=>key ?_⟩
 rcases iU (by rw[aa];exact hi) e1 with⟨a1,a2⟩ | ⟨a1,a2⟩ | ⟨a1,a2⟩
 ·rcases iU hi e2 with⟨b1,b2⟩ | ⟨b1,b2⟩ | ⟨b1,b2⟩
  ·exact h.2.2.2 k x q a2 b2
  ·omega
  ·omega
 ·rcases iU hi e2 with⟨b1,b2⟩ | ⟨b1,b2⟩ | ⟨b1,b2⟩
  ·omega
  ·rw[a2,b2];exact hd
  ·omega
 ·rcases iU hi e2 with⟨b1,b2⟩ | ⟨b1,b2⟩ | ⟨b1,b2⟩
  ·omega
  ·omega
  ·exact h.2.2.2 (k-1) x q a2 b2
end Rp
end
end Go.Proofs.YtgnaiidgjmicaaaGreatDoor
