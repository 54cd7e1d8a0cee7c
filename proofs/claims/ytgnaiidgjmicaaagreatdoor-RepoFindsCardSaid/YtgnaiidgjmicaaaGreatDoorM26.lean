/- Part 26 of what the laws lean on. -/
import Derived.Test.YtgnaiidgjmicaaaGreatDoorM25
import Derived.Laws.CopyOwn
import Derived.Lib.AppendZerosOnto
import Derived.Lib.Overlaps
set_option maxRecDepth 100000
set_option maxHeartbeats 6400000
namespace Go.Proofs.YtgnaiidgjmicaaaGreatDoor
section
open Go.RowKit Rs At Pg
attribute [local go_sem ↓] Go.wp_at_zero Go.wp_at_succ
attribute [local go_sem] Pg.av
theorem uU (p q:Addr)(x y k n:Int)(w:World)(hc:∀ u,Below w.heap.size w u->u.cell? p=some (.int .i64 x))(hz:∀ u,Below w.heap.size w u->u.frozen? p=false)(hc2:∀ u,Below w.heap.size w u->(u.setCell p (.int .i64 k)).cell? q=some (.int .i64 y))(hz2:∀ u,Below w.heap.size w u->(u.setCell p (.int .i64 k)).frozen? q=false) :
  CallsD Tryz.prog 179 #[.pointer (some p),.pointer (some q)] (.panicking [{ v:=.iface 158 (.agg #[.int .i64 k,.int .i64 n]),recovered:=false }]) w fun e u' w' =>
   e=.returned (.tuple #[])/\u'=.panicking [{ v:=.iface 158 (.agg #[.int .i64 k,.int .i64 n]),recovered:=true }]/\∃ u,Below w.heap.size w u/\w'=(u.setCell p (.int .i64 k)).setCell q (.int .i64 n):=by
 refine callsD_of_wpS Tryz.func179 rfl fun c₀ cs hu=>?_
 apply wpS_region
 simp[wpOpsS,go_sem,recoverD,hu,Tryz.ntmps179]
 refine (bN k n _).mono ?_
 rintro e w' ⟨rfl,hb⟩
 simp[go_sem,hc _ hb,hz _ hb,hc2 _ hb,hz2 _ hb,bodyPostS,results,Tryz.results179]
 exact⟨w',hb,rfl⟩
theorem zF (p q:Addr)(x y:Int)(w:World)(hc:w.cell? p=some (.int .i64 x))(hz:w.frozen? p=false)(hc2:(w.setCell p (.int .i64 0)).cell? q=some (.int .i64 y))(hz2:(w.setCell p (.int .i64 0)).frozen? q=false) :
  CallsD Tryz.prog 179 #[.pointer (some p),.pointer (some q)] .returning w fun e u' w'=>e=.returned (.tuple #[])/\u'=.returning/\w'=(w.setCell p (.int .i64 0)).setCell q (.int .i64 0):=by
 refine callsD_of_wpS Tryz.func179 rfl fun c₀ cs hu=>?_
 apply wpS_region
 simp[wpOpsS,go_sem,recoverD,hu,Tryz.ntmps179]
 refine (cJ _).mono ?_
 rintro e w' ⟨rfl,rfl⟩
 cases c₀
 simp_all [go_sem,bodyPostS,results,Tryz.results179]
def Pg.FromRet (w:World) (X:Int × Int × Pk) (e:Ending) (w':World):Prop:=Below w.heap.size w w'/\∃ D dc C cc G gc,e=.returned (.tuple #[.agg (pCells X.2.2 D C G dc cc gc),.int .i64 X.2.1,.int .i64 X.1])/\PRows w.heap.size w' X.2.2 D C G
def Pg.P3 (b:Nat) (u:World):Prop:=u.heap[b]?=some (.cells zeroC 68 (0,0))/\Sz.P2 (b+1) u
theorem Pg.af8 {w W0 W1 W2 u:World}(h0:w.alloc (.cells zeroC 68)=W0)(h1:W0.alloc (.cells #[.int .i64 0] 3)=W1)(h2:W1.alloc (.cells #[.int .i64 0] 77)=W2)(hb:Below W2.heap.size W2 u):P3 w.heap.size u:=by
 have aa:W0.heap.size=w.heap.size+1:=by rw[<-h0];simp
 have ab:W1.heap.size=w.heap.size+2:=by rw[<-h1];simp[aa]
 have ac:W2.heap.size=w.heap.size+3:=by rw[<-h2];simp[ab]
 refine⟨?_,by rw[<-aa];exact Sz.oD h1 h2 hb⟩
 rw[hb.block _ (by omega),(ai h2).block _ (by omega),(ai h1).block _ (by omega),<-h0]
 exact heap_alloc_new w _
theorem Pg.abC {u:World}{b j k:Nat}{x:Value}(h:u.heap[b]?=some (.cells zeroC 68 (0,0)))(hne:k≠b):(u.setCell ⟨k,j,none⟩ x).heap[b]?=some (.cells zeroC 68 (0,0)) :=
 (Below.heap_setCell u ⟨k,j,none⟩ x b (fun e=>hne e.symm)).trans h
theorem Pg.ae7 {u v:World}{b:Nat}(h:Sz.P2 b u)(h1:v.heap[b]?=u.heap[b]?)(h2:v.heap[b+1]?=u.heap[b+1]?):Sz.P2 b v:=⟨h1.trans h.1,h2.trans h.2⟩
theorem Pg.yp (u:World)(b k:Nat)(p:Pk)(D C G:Option Addr)(dc cc gc:Nat)(hk:k<u.heap.size)(hne:k≠b):(stP u b p D C G dc cc gc).heap[k]?=u.heap[k]? :=
 (gq u b p D C G dc cc gc).2 k hk (fun e=>hne (Option.some.inj e).symm)
theorem Pg.yq {u:World}{b:Nat}{x:Int}{T:TypeId}(h:u.heap[b]?=some (.cells #[.int .i64 x] T (0,0))):∀ j y,u.cell? ⟨b,j,none⟩=some y->NoB y:=fun j y hy z e=>by
 subst e
 have:=Sz.dC h rfl hy
 cases this
theorem Pg.yr {u:World}{b c:Nat}{cs:Array Value}{T:TypeId}{x y:Value}(h:u.heap[b]?=some (.cells cs T (0,0)))(h1:c≠b)(h2:c+1≠b):((u.setCell ⟨c,0,none⟩ x).setCell ⟨c+1,0,none⟩ y).heap[b]?=some (.cells cs T (0,0)) :=
 (Below.heap_setCell _ ⟨c+1,0,none⟩ y b (fun e=>h2 e.symm)).trans ((Below.heap_setCell u ⟨c,0,none⟩ x b (fun e=>h1 e.symm)).trans h)
theorem Pg.uV {B b:Nat}{u:World}{p:Pk}{D C G:Option Addr}{x y:Int}(h:PRows B u p D C G)(h2:Sz.P2 b u)(hlt:b+1<B):PRows B ((u.setCell ⟨b,0,none⟩ (.int .i64 x)).setCell ⟨b+1,0,none⟩ (.int .i64 y)) p D C G:=by
 have r1:=bG h (aP u ⟨b,0,none⟩ (.int .i64 x)) (Nat.lt_of_succ_lt hlt) (yq h2.1)
 have e2:(u.setCell ⟨b,0,none⟩ (.int .i64 x)).heap[b+1]?=some (.cells #[.int .i64 0] 77 (0,0)):=(Below.heap_setCell u ⟨b,0,none⟩ _ (b+1) (by show b+1≠b;omega)).trans h2.2
 exact bG r1 (aP _ ⟨b+1,0,none⟩ (.int .i64 y)) hlt (yq e2)
theorem wT (A:Option Addr)(n c:Nat)(l:List Sz.Fld)(w:World)(hk:KOk w)(hn:l.length=n)(hr:Rg.Row Sz.encF 3 w A l)(hl:n<=1000)(hs:Sz.Short l)(hv:∀ f∈l,ValFit f.key f.val) :
  Calls Tryz.prog 142 #[.slice A n c] w (Pg.FromRet w (fromP l)):=by
 have aB:∀ (fn:Fn) (first cap:Array Value) (w:World),(Instr.makeFunc fn first cap).run Tryz.prog w=.ok (.func fn first cap) w:=fun _ _ _ _=>rfl
 obtain⟨X,hX⟩:=ex (fromP l)
 rw[hX]
 unfold fromP at hX
 obtain⟨W0,af⟩:=ex (w.alloc (.cells zeroC 68))
 obtain⟨W1,ag⟩:=ex (W0.alloc (.cells #[.int .i64 0] 3))
 obtain⟨W2,ak⟩:=ex (W1.alloc (.cells #[.int .i64 0] 77))
 have ad:Hid (∀ u,Below W2.heap.size W2 u->P3 w.heap.size u):=fun u hb=>af8 af ag ak hb
 have au:W0.heap.size=w.heap.size+1:=by rw[<-af];simp
 have av:W1.heap.size=w.heap.size+1+1:=by rw[<-ag];simp[au]
 have an:W2.heap.size=w.heap.size+3:=by rw[<-ak];simp[av]
 have aa:=zh an
 have ah:Hid (Below w.heap.size w W2):=(ai af).trans (((ai ag).trans ((ai ak).mono (ai ag).size)).mono (ai af).size)
 have al:=zh (wS A n c l W2 (aH hk ah.out) hn (Rg.aj hr ah.out) hl hs hv)
 obtain⟨R,hR⟩:=ex (readP l)
 rw[hR] at al hX
 clear hk hn hr hl hs hv hR an
 go_enter_defers Tryz.func142,Tryz.ntmps142
 go_wp2_with fail
 clear af ag ak
 refine al.out.mono ?_
 rintro e z1 ⟨hb,hr⟩
 have HB:=zh hb
 clear hb al
 cases R with
 | ok p =>
  obtain⟨D,dc,C,cc,G,gc,rfl,ab⟩:∃ D dc C cc G gc,e=.returned (.agg (pCells p D C G dc cc gc))/\PRows W2.heap.size z1 p D C G:=hr
  have HX:Hid (X=(0,0,p)):=hX.symm
  have h3:=ad.out _ HB.out
  have ao:Hid (w.heap.size+3<=z1.heap.size):=by have:=HB.out.size;rw[aa.out] at this;exact this
  have ae:Hid (Sz.P2 (w.heap.size+1) (stP z1 w.heap.size p D C G dc cc gc)):=ae7 h3.2 (yp _ _ _ _ _ _ _ _ _ _ (by have:=ao.out;omega) (by omega)) (yp _ _ _ _ _ _ _ _ _ _ (by have:=ao.out;omega) (by omega))
  obtain⟨k0,k1,k2,k3,k4,k5⟩:=aS h3.1
  have z0:=aC h3.1 0
  have aD:=aC h3.1 1
  have z2:=aC h3.1 2
  have z3:=aC h3.1 3
  have z4:=aC h3.1 4
  have z5:=aC h3.1 5
  have aE:=zh h3.1
  have aF:=zh ab
  have HS:Hid (PRows w.heap.size (stP z1 w.heap.size p D C G dc cc gc) p D C G):=jX (bG ab (gq z1 w.heap.size p D C G dc cc gc) (by rw[aa.out];omega) (dE h3.1)) (by rw[aa.out];omega)
  have ap:Hid (PRows W2.heap.size (stP z1 w.heap.size p D C G dc cc gc) p D C G):=bG ab (gq z1 w.heap.size p D C G dc cc gc) (by rw[aa.out];omega) (dE h3.1)
  have aq:Hid (Below w.heap.size w (stP z1 w.heap.size p D C G dc cc gc)):=iF (bt ah.out HB.out) (Nat.le_refl _) p D C G dc cc gc
  have ar:=zh (jY h3.1 p D C G dc cc gc)
  obtain⟨V,hV⟩:=ex (stP z1 w.heap.size p D C G dc cc gc)
  rw[hV] at ae HS ap aq ar
  obtain⟨c0,f0,c1,f1⟩:=Sz.aL ae.out
  obtain⟨d0,g0,d1,g1⟩:=Sz.aM ae.out (.int .i64 0)
  have ac:=zh (Sz.gR ae.out)
  unfold stP at hV
  clear h3 ab hX
  go_wp2_with fail
  have aw:Hid (((V.setCell ⟨w.heap.size+1,0,none⟩ (.int .i64 0)).setCell ⟨w.heap.size+1+1,0,none⟩ (.int .i64 0)).heap[w.heap.size]?=some (.cells (pCells p D C G dc cc gc) 68 (0,0))):=yr (c:=w.heap.size+1) ar.out (by omega) (by omega)
  have ax:=zh (uV (x:=0) (y:=0) ap.out ae.out (show w.heap.size+1+1<W2.heap.size by rw[aa.out];omega))
  have ay:Hid (Below w.heap.size w ((V.setCell ⟨w.heap.size+1,0,none⟩ (.int .i64 0)).setCell ⟨w.heap.size+1+1,0,none⟩ (.int .i64 0))):=(aq.out.setCell (by show w.heap.size<=w.heap.size+1;omega) _).setCell (by show w.heap.size<=w.heap.size+1+1;omega) _
  generalize (V.setCell ⟨w.heap.size+1,0,none⟩ (.int .i64 0)).setCell ⟨w.heap.size+1+1,0,none⟩ (.int .i64 0)=V2 at *
  obtain⟨k0,m0,k1,m1⟩:=Sz.aL ac.out
  obtain⟨l0,o0,l1,o1⟩:=Sz.aM ac.out (.int .i64 0)
  obtain⟨q0,q1⟩:=Sz.bO ac.out (.int .i64 0) (.int .i64 0)
  have az:=zh (yr (c:=w.heap.size+1) (x:=.int .i64 0) (y:=.int .i64 0) aw.out (by omega) (by omega))
  have aA:=zh (uV (x:=0) (y:=0) ax.out ac.out (show w.heap.size+1+1<W2.heap.size by rw[aa.out];omega))
  obtain⟨s0,s1,s2,s3,s4,s5⟩:=aS az.out
  refine leaves_cons (f:=179) (args:=#[.pointer (some ⟨w.heap.size+1,0,none⟩),.pointer (some ⟨w.heap.size+1+1,0,none⟩)]) (by simp) (by simp[go_sem]) ?_
  refine (zF ⟨w.heap.size+1,0,none⟩ ⟨w.heap.size+1+1,0,none⟩ 0 0 _ k0 m0 l1 o1).mono ?_
  rintro e u' w3 ⟨rfl,rfl,rfl⟩
  simp[Leaves,settle,results,Tryz.results142,go_sem,q0,q1,s0,s1,s2,s3,s4,s5]
  rw[HX.out]
  exact⟨(ay.out.setCell (by show w.heap.size<=w.heap.size+1;omega) _).setCell (by show w.heap.size<=w.heap.size+1+1;omega) _,D,dc,C,cc,G,gc,rfl,jX aA.out (by rw[aa.out];omega)⟩
 | error x =>
  obtain⟨i0,k⟩:=x
  obtain rfl:e=panAt i0 k:=hr
  have HX:Hid (X=(k,i0,zeroP)):=hX.symm
  clear hX
  go_wp2_with fail
  refine leaves_cons (f:=179) (args:=#[.pointer (some ⟨w.heap.size+1,0,none⟩),.pointer (some ⟨w.heap.size+1+1,0,none⟩)]) (by simp) (by simp[go_sem]) ?_
  refine (uU ⟨w.heap.size+1,0,none⟩ ⟨w.heap.size+1+1,0,none⟩ 0 0 i0 k _ (fun u hb=>(Sz.aL (ad.out _ (bt HB.out hb)).2).1) (fun u hb=>(Sz.aL (ad.out _ (bt HB.out hb)).2).2.1) (fun u hb=>(Sz.aM (ad.out _ (bt HB.out hb)).2 _).2.2.1) (fun u hb=>(Sz.aM (ad.out _ (bt HB.out hb)).2 _).2.2.2)).mono ?_
  rintro e u' w3 ⟨rfl,rfl,u,hb,rfl⟩
  have am:=zh (bt HB.out hb)
  obtain⟨q0,q1⟩:=Sz.bO (ad.out _ am.out).2 (.int .i64 i0) (.int .i64 k)
  obtain⟨k0,k1,k2,k3,k4,k5⟩:=aS (abC (j:=0) (x:=.int .i64 k) (abC (j:=0) (x:=.int .i64 i0) (ad.out _ am.out).1 (show w.heap.size+1≠w.heap.size by omega)) (show w.heap.size+1+1≠w.heap.size by omega))
  simp[Leaves,settle,results,Tryz.results142,go_sem,q0,q1,k0,k1,k2,k3,k4,k5]
  rw[HX.out]
  exact⟨((bt ah.out am.out).setCell (by show w.heap.size<=w.heap.size+1;omega) _).setCell (by show w.heap.size<=w.heap.size+1+1;omega) _,none,0,none,0,none,0,rfl,rm _ _⟩
end
section
open Go.RowKit Rs At Pg
namespace Pg
def ToSt (V:World) (v:Value) (fs:List Sz.Fld) (u:World):Prop:=Rg.Own Sz.encF 3 u V.heap.size 168 v fs/\Below V.heap.size V u
theorem jZ {V u u2 W5:World}{v v5:Value}{fs:List Sz.Fld}{f:Sz.Fld}{o:Obj}(h:ToSt V v fs u)(hb:Below u.heap.size u u2)(ho:Rg.Own Sz.encF 3 W5 V.heap.size 168 v5 (fs++[f]))(hg:(u2.alloc o).grownBy W5 v.ownBlock):ToSt V v5 (fs++[f]) W5:=by
 have aa:Below u.heap.size u (u2.alloc o):=hb.alloc hb.size _
 have ab:V.heap.size<=u.heap.size:=h.2.size
 exact⟨ho,(h.2.trans (aa.mono ab)).trans (Rg.aA (Rg.own_below h.1 aa) (Nat.le_trans ab aa.size) hg)⟩
theorem ae8 {u:World}{f g:Sz.Fld}{B:Nat}{T:TypeId}(hB:B<=u.heap.size):Rg.Own Sz.encF 3 (u.alloc (.cells #[.string ⟨f.key.toArray⟩,.string ⟨f.val.toArray⟩,.int .i64 f.line,.string ⟨g.key.toArray⟩,.string ⟨g.val.toArray⟩,.int .i64 g.line] T)) B T (.slice (some ⟨u.heap.size,0,none⟩) 2 2) [f,g] :=
 ⟨rfl,.inr ⟨u.heap.size,2,_,rfl,hB,heap_alloc_new u _,Nat.le_refl _,by decide,rfl,rfl⟩⟩
end Pg
attribute [local go_sem ↓] Go.wp_at_zero Go.wp_at_succ
theorem abD (p:Pk)(D C G:Option Addr)(dn dc cn cc gn gc:Nat)(w:World)(hk:KOk w)(hd:Pg.DRow w D p.deps)(hdn:p.deps.length=dn)(hc:ARow w C p.confl)(hcn:p.confl.length=cn)(hg:GRow w G p.prov)(hgn:p.prov.length=gn)(ht:PTxt p) :
  Calls Tryz.prog 112 #[.agg #[.string ⟨p.name.toArray⟩,.string ⟨p.ver.toArray⟩,.slice D dn dc,.slice C cn cc,.slice G gn gc,.float .f64 p.wt]] w fun e w'=>∃ A n c,e=.returned (.slice A n c)/\(toPk p).length=n/\Rg.Row Sz.encF 3 w' A (toPk p)/\Below w.heap.size w w':=by
 obtain⟨t1,t2,t3,t4,t5,t6,t7,t8,t9,aU,aV,aW⟩:=ht
 obtain⟨V,hV⟩:=ex (w.alloc (.cells #[.string ⟨p.name.toArray⟩,.string ⟨p.ver.toArray⟩,.slice D dn dc,.slice C cn cc,.slice G gn gc,.float .f64 p.wt] 68))
 have HB:Hid (Below w.heap.size w V):=ai hV
 obtain⟨b,hb⟩:=ex w.heap.size
 have ab:=zh (fun W (h:Below V.heap.size V W)=>aw hV h)
 rw[hb] at ab
 have HK:=zh (fun W (h:Below V.heap.size V W)=>aH (aH hk HB.out) h)
 have HM:=zh (fun W (h:Below V.heap.size V W)=>ag (ag hk.1 HB.out) h)
 have aO:Hid (∀ W,Below V.heap.size V W->Calls Tryz.prog 149 #[.slice D dn dc,.func (.func 150) #[] #[],.string ⟨#[59,32]⟩] W fun e w'=>e=.returned (.string ⟨(depsT p).toArray⟩)/\Below W.heap.size W w'):=fun W h=>uE semi D dn dc p.deps W (HM.out W h) hdn (aJ (aJ hd HB.out) h) (by rw[<-hdn];exact t3) t4 t5
 have aP:Hid (∀ W,Below V.heap.size V W->Calls Tryz.prog 151 #[.slice C cn cc,.func (.func 152) #[] #[],.string ⟨#[59,32]⟩] W fun e w'=>e=.returned (.string ⟨(conflT p).toArray⟩)/\Below W.heap.size W w'):=fun W h=>ke semi C cn cc p.confl W (HM.out W h) hcn (ay (ay hc HB.out) h) (by rw[<-hcn];exact t6) t7 t8
 have aQ:Hid (∀ W,Below V.heap.size V W->Calls Tryz.prog 153 #[.slice G gn gc,.func (.func 154) #[] #[],.string ⟨#[59,32]⟩] W fun e w'=>e=.returned (.string ⟨(provT p).toArray⟩)/\Below W.heap.size W w'):=fun W h=>rT semi G gn gc p.prov W (HM.out W h) hgn (Rg.aj (Rg.aj hg HB.out) h) (by rw[<-hgn];exact t9) aU aV
 have ax:Hid (∀ W,Below V.heap.size V W->Calls Tryz.prog 155 #[.float .f64 p.wt] W fun e w'=>e=.returned (.string ⟨(Wm.textW p.wt).toArray⟩)/\Below W.heap.size W w'):=fun W h=>afO p.wt aW W (HK.out W h)
 obtain⟨nm,ar⟩:=ex p.name
 obtain⟨vr,au⟩:=ex p.ver
 obtain⟨fw,av⟩:=ex p.wt
 have HN:Hid (nm.length<=281474976710656/\vr.length<=281474976710656):=by rw[<-ar,<-au];exact⟨Nat.le_trans t1 (by decide),Nat.le_trans t2 (by decide)⟩
 have H0:Hid (to0 p=[⟨kPkg,nm,0⟩,⟨kVer,vr,0⟩]):=by rw[<-ar,<-au];rfl
 have aA:Hid (dn=0↔p.deps=[]):=by rw[<-hdn];exact List.length_eq_zero_iff
 have aB:Hid (cn=0↔p.confl=[]):=by rw[<-hcn];exact List.length_eq_zero_iff
 have aC:Hid (gn=0↔p.prov=[]):=by rw[<-hgn];exact List.length_eq_zero_iff
 rw[ar,au,av] at ab hV
 rw[ar,au,av]
 rw[av] at ax
 have aR:Hid (p.wt=fw):=av
 obtain⟨y0,y1,y2,y3,y4,y5⟩:=ab.out _ (Below.refl _ _)
 have aS:Hid (w.heap.size<=V.heap.size):=HB.out.size
 obtain⟨TD,aG⟩:=ex (depsT p)
 obtain⟨TC,aI⟩:=ex (conflT p)
 obtain⟨TG,aK⟩:=ex (provT p)
 obtain⟨TW,aL⟩:=ex (Wm.textW fw)
 rw[aG] at aO
 rw[aI] at aP
 rw[aK] at aQ
 rw[aL] at ax
 have E1:Hid (to1 p=if dn=0 then to0 p else to0 p++[⟨kDep,TD,0⟩]):=by
  show _=_
  unfold to1;rw[aG]
  by_cases h:dn=0
  ·rw[if_pos h,if_pos (aA.out.1 h)]
  ·rw[if_neg h,if_neg (fun e=>h (aA.out.2 e))]
 have E2:Hid (to2 p=if cn=0 then to1 p else to1 p++[⟨kCon,TC,0⟩]):=by
  show _=_
  unfold to2;rw[aI]
  by_cases h:cn=0
  ·rw[if_pos h,if_pos (aB.out.1 h)]
  ·rw[if_neg h,if_neg (fun e=>h (aB.out.2 e))]
 have E3:Hid (to3 p=if gn=0 then to2 p else to2 p++[⟨kPro,TG,0⟩]):=by
  show _=_
  unfold to3;rw[aK]
  by_cases h:gn=0
  ·rw[if_pos h,if_pos (aC.out.1 h)]
  ·rw[if_neg h,if_neg (fun e=>h (aC.out.2 e))]
 have E4:Hid (toPk p=if TW=[48] then to3 p else to3 p++[⟨kWei,TW,0⟩]):=by
  show _=_
  unfold toPk;rw[aR.out,aL]
 have aZ:=zh hb
 clear hk hd hdn hc hcn hg hgn t1 t2 t3 t4 t5 t6 t7 t8 t9 aU aV aW ar au av aG aI aK aL aA aB aC aR
 go_enter Tryz.func112,Tryz.ntmps112
 go_upto_region 1 with fail
 clear hV
 go_cut [3] (fun v wx=>Hid (ToSt V v (to0 p) wx))
 case first =>
  have aD:Hid (Below V.heap.size V V.drew):=(Below.refl _ _).drew
  go_region_held3 (fun w'=>w'.cell? ⟨b,0,none⟩=some (.string ⟨nm.toArray⟩)/\w'.cell? ⟨b,1,none⟩=some (.string ⟨vr.toArray⟩))
   (first
    | exact⟨(ab.out _ aD.out).1,(ab.out _ aD.out).2.1⟩
    | exact⟨(ab.out _ aE.out).1,(ab.out _ aE.out).2.1⟩
    | exact⟨(ab.out _ ah.out).1,(ab.out _ ah.out).2.1⟩
    | exact⟨(ab.out _ (ah.out.alloc ah.out.size _)).1,(ab.out _ (ah.out.alloc ah.out.size _)).2.1⟩)
   (first
    | (go_at_call 49;refine (a6 vr _ HN.out.2).mono ?_;rintro _ u4 ⟨rfl,aX⟩;have ah:=zh (bt aE.out aX);clear aX)
    | (go_at_call 49;refine (a6 nm _ HN.out.1).mono ?_;rintro _ u3 ⟨rfl,aY⟩;have aE:=zh (bt aD.out aY);clear aY))
  go_wp2_with fail
  go_meet
  case rel =>
   show ToSt _ _ _ _
   rw[H0.out]
   exact⟨ae8 ah.out.size,ah.out.alloc ah.out.size _⟩
 case rest =>
 have ak:Hid (ToSt V u3 (to0 p) wc):=hcut
 clear hcut y0 y1 y2 y3 y4 y5
 obtain⟨A0,c0,rfl,_,_,_⟩:=Rg.aF Sz.fitsF ak.out.1
 obtain⟨y0,y1,y2,y3,y4,y5⟩:=ab.out _ ak.out.2
 go_upto_if 17 with fail
 go_cut [3] (fun v wx=>Hid (ToSt V v (to1 p) wx))
 case first =>
  by_cases h0:dn=0
  ·have HF:Hid (to1 p=to0 p):=by show _=_;rw[E1.out,if_pos h0]
   subst h0
   go_wp2_with fail
   go_meet
   case rel=>show ToSt _ _ _ _;rw[HF.out];exact ak.out
  ·have HF:Hid (to1 p=to0 p++[⟨kDep,TD,0⟩]):=by show _=_;rw[E1.out,if_neg h0]
   have aq:0<dn:=by omega
   clear h0
   go_wp2_with fail
   refine (aO.out _ ak.out.2).mono ?_
   rintro _ u1 ⟨rfl,ac⟩
   have aa:=zh ac
   clear ac
   have ao:Hid ((to0 p).length+1<=1000000):=by have:=aeW p;show _<=_;omega
   go_wp2_with (at_builtin;refine Rg.aN Sz.sliceF rfl (.tmp 18) (.tmp 23) rfl V.heap.size _ (to0 p) [⟨kDep,TD,0⟩] rfl (Rg.own_below ak.out.1 (aa.out.alloc aa.out.size _)) _ _ rfl (Rg.az u1 _ _ _ (by rfl)) (Nat.zero_lt_succ _) ao.out ?b2 ?_)
   case b2=>have:=ak.out.2.size;have:=aa.out.size;simp;omega
   intro v5 W5 ad ae ap
   have al:Hid (ToSt V v5 (to1 p) W5):=by show ToSt _ _ _ _;rw[HF.out];exact jZ ak.out aa.out ad ae
   clear ad ae ap
   go_wp2_with fail
   go_meet
   case rel=>exact al
 case rest =>
 have am:Hid (ToSt V u3 (to1 p) wc):=hcut
 clear hcut ak y0 y1 y2 y3 y4 y5
 obtain⟨A1,c1,rfl,_,_,_⟩:=Rg.aF Sz.fitsF am.out.1
 obtain⟨y0,y1,y2,y3,y4,y5⟩:=ab.out _ am.out.2
 go_upto_if 28 with fail
 go_cut [3] (fun v wx=>Hid (ToSt V v (to2 p) wx))
 case first =>
  by_cases h0:cn=0
  ·have HF:Hid (to2 p=to1 p):=by show _=_;rw[E2.out,if_pos h0]
   subst h0
   go_wp2_with fail
   go_meet
   case rel=>show ToSt _ _ _ _;rw[HF.out];exact am.out
  ·have HF:Hid (to2 p=to1 p++[⟨kCon,TC,0⟩]):=by show _=_;rw[E2.out,if_neg h0]
   have aq:0<cn:=by omega
   clear h0
   go_wp2_with fail
   refine (aP.out _ am.out.2).mono ?_
   rintro _ u1 ⟨rfl,ac⟩
   have aa:=zh ac
   clear ac
   have ao:Hid ((to1 p).length+1<=1000000):=by have:=xW p;show _<=_;omega
   go_wp2_with (at_builtin;refine Rg.aN Sz.sliceF rfl (.tmp 29) (.tmp 34) rfl V.heap.size _ (to1 p) [⟨kCon,TC,0⟩] rfl (Rg.own_below am.out.1 (aa.out.alloc aa.out.size _)) _ _ rfl (Rg.az u1 _ _ _ (by rfl)) (Nat.zero_lt_succ _) ao.out ?b2 ?_)
   case b2=>have:=am.out.2.size;have:=aa.out.size;simp;omega
   intro v5 W5 ad ae ap
   have al:Hid (ToSt V v5 (to2 p) W5):=by show ToSt _ _ _ _;rw[HF.out];exact jZ am.out aa.out ad ae
   clear ad ae ap
   go_wp2_with fail
   go_meet
   case rel=>exact al
 case rest =>
 have an:Hid (ToSt V u3 (to2 p) wc):=hcut
 clear hcut am y0 y1 y2 y3 y4 y5
 obtain⟨A2,c2,rfl,_,_,_⟩:=Rg.aF Sz.fitsF an.out.1
 obtain⟨y0,y1,y2,y3,y4,y5⟩:=ab.out _ an.out.2
 go_upto_if 39 with fail
 go_cut [3] (fun v wx=>Hid (ToSt V v (to3 p) wx))
 case first =>
  by_cases h0:gn=0
  ·have HF:Hid (to3 p=to2 p):=by show _=_;rw[E3.out,if_pos h0]
   subst h0
   go_wp2_with fail
   go_meet
   case rel=>show ToSt _ _ _ _;rw[HF.out];exact an.out
  ·have HF:Hid (to3 p=to2 p++[⟨kPro,TG,0⟩]):=by show _=_;rw[E3.out,if_neg h0]
   have aq:0<gn:=by omega
   clear h0
   go_wp2_with fail
   refine (aQ.out _ an.out.2).mono ?_
   rintro _ u1 ⟨rfl,ac⟩
   have aa:=zh ac
   clear ac
   have ao:Hid ((to2 p).length+1<=1000000):=by have:=xX p;show _<=_;omega
   go_wp2_with (at_builtin;refine Rg.aN Sz.sliceF rfl (.tmp 40) (.tmp 45) rfl V.heap.size _ (to2 p) [⟨kPro,TG,0⟩] rfl (Rg.own_below an.out.1 (aa.out.alloc aa.out.size _)) _ _ rfl (Rg.az u1 _ _ _ (by rfl)) (Nat.zero_lt_succ _) ao.out ?b2 ?_)
   case b2=>have:=an.out.2.size;have:=aa.out.size;simp;omega
   intro v5 W5 ad ae ap
   have al:Hid (ToSt V v5 (to3 p) W5):=by show ToSt _ _ _ _;rw[HF.out];exact jZ an.out aa.out ad ae
   clear ad ae ap
   go_wp2_with fail
   go_meet
   case rel=>exact al
 case rest =>
 have af:Hid (ToSt V u3 (to3 p) wc):=hcut
 clear hcut an y0 y1 y2 y3 y4 y5
 obtain⟨A3,c3,rfl,_,_,_⟩:=Rg.aF Sz.fitsF af.out.1
 obtain⟨y0,y1,y2,y3,y4,y5⟩:=ab.out _ af.out.2
 by_cases h0:TW=[48]
 ·have HF:Hid (toPk p=to3 p):=by show _=_;rw[E4.out,if_pos h0]
  have d0:(TW==[48])=true:=beq_iff_eq.2 h0
  have d1:(TW != [48])=false:=by rw[bne,d0];rfl
  clear h0
  go_wp2_with fail
  refine (ax.out _ af.out.2).mono ?_
  rintro _ u1 ⟨rfl,ac⟩
  have aT:Hid (ToSt V (.slice A3 (to3 p).length c3) (to3 p) u1):=⟨Rg.own_below af.out.1 ac,af.out.2.trans (ac.mono af.out.2.size)⟩
  clear ac
  go_wp2_with fail
  go_ret
  rw[HF.out]
  obtain⟨A4,c4,e4,aM,_,_⟩:=Rg.aF Sz.fitsF aT.out.1
  cases e4
  exact⟨_,_,_,rfl,rfl,aM,HB.out.trans (aT.out.2.mono aS.out)⟩
 ·have HF:Hid (toPk p=to3 p++[⟨kWei,TW,0⟩]):=by show _=_;rw[E4.out,if_neg h0]
  have d0:(TW==[48])=false:=beq_eq_false_iff_ne.2 h0
  have d1:(TW != [48])=true:=by rw[bne,d0];rfl
  clear h0
  go_wp2_with fail
  refine (ax.out _ af.out.2).mono ?_
  rintro _ u1 ⟨rfl,ac⟩
  have aa:=zh ac
  clear ac
  have ao:Hid ((to3 p).length+1<=1000000):=by have:=xY p;show _<=_;omega
  go_wp2_with (at_builtin;refine Rg.aN Sz.sliceF rfl (.tmp 52) (.tmp 55) rfl V.heap.size _ (to3 p) [⟨kWei,TW,0⟩] rfl (Rg.own_below af.out.1 (aa.out.alloc aa.out.size _)) _ _ rfl (Rg.az u1 _ _ _ (by rfl)) (Nat.zero_lt_succ _) ao.out ?b2 ?_)
  case b2=>have:=af.out.2.size;have:=aa.out.size;simp;omega
  intro v5 W5 ad ae ap
  have al:Hid (ToSt V v5 (toPk p) W5):=by show ToSt _ _ _ _;rw[HF.out];exact jZ af.out aa.out ad ae
  clear ad ae ap
  go_wp2_with fail
  go_ret
  obtain⟨A4,c4,rfl,aM,_,_⟩:=Rg.aF Sz.fitsF al.out.1
  exact⟨_,_,_,rfl,rfl,aM,HB.out.trans (al.out.2.mono aS.out)⟩
end
section
open Go.RowKit Rs At Pg
attribute [local go_sem ↓] Go.wp_at_zero Go.wp_at_succ
attribute [local go_sem] Pg.av
namespace Pg
theorem ady {u:World}(hw:MaxOk u)(p:Pk)(D C G:Option Addr)(dn dc cn cc gn gc:Nat)(hd:Pg.DRow u D p.deps)(hdn:p.deps.length=dn)(hc:ARow u C p.confl)(hcn:p.confl.length=cn)(hg:GRow u G p.prov)(hgn:p.prov.length=gn)(hf:PFew p){nm vr:List UInt8}{wt:Nat}(e0:p.name=nm)(e1:p.ver=vr)(e5:p.wt=wt){k:Int}(hk:checkP p=k) :
  Calls Tryz.prog 109 #[.agg #[.string ⟨nm.toArray⟩,.string ⟨vr.toArray⟩,.slice D dn dc,.slice C cn cc,.slice G gn gc,.float .f64 wt]] u fun e w'=>e=.returned (.int .i64 k)/\Below u.heap.size u w':=by
 subst e0 e1 e5 hk
 exact tZ p D C G dn dc cn cc gn gc u hw hd hdn hc hcn hg hgn hf
theorem ae9 {u:World}(p:Pk)(D C G:Option Addr)(dn dc cn cc gn gc:Nat)(q:Pk)(D' C' G':Option Addr)(dn' dc' cn' cc' gn' gc':Nat)(hd:Pg.DRow u D p.deps)(hdn:p.deps.length=dn)(hc:ARow u C p.confl)(hcn:p.confl.length=cn)(hg:GRow u G p.prov)(hgn:p.prov.length=gn)(hf:PFew p)(hd':Pg.DRow u D' q.deps)(hdn':q.deps.length=dn')(hc':ARow u C' q.confl)(hcn':q.confl.length=cn')(hg':GRow u G' q.prov)(hgn':q.prov.length=gn')(hf':PFew q){nm vr nm' vr':List UInt8}{wt wt':Nat}(e0:p.name=nm)(e1:p.ver=vr)(e5:p.wt=wt)(e0':q.name=nm')(e1':q.ver=vr')(e5':q.wt=wt'){b:Bool}(hb:samP p q=b) :
  Calls Tryz.prog 73 #[.agg #[.string ⟨nm.toArray⟩,.string ⟨vr.toArray⟩,.slice D dn dc,.slice C cn cc,.slice G gn gc,.float .f64 wt],.agg #[.string ⟨nm'.toArray⟩,.string ⟨vr'.toArray⟩,.slice D' dn' dc',.slice C' cn' cc',.slice G' gn' gc',.float .f64 wt']] u fun e w'=>e=.returned (.bool b)/\Below u.heap.size u w':=by
 subst e0 e1 e5 e0' e1' e5' hb
 exact wG p q D C G D' C' G' dn dc cn cc gn gc dn' dc' cn' cc' gn' gc' u hd hdn hc hcn hg hgn hf hd' hdn' hc' hcn' hg' hgn' hf'
theorem adz {u:World}(hw:MaxOk u)(p:Pk)(D C G:Option Addr)(dn dc cn cc gn gc:Nat)(nm:List UInt8)(B:Option Addr)(m d:Nat)(r:List Sp)(hg:GRow u G p.prov)(hgn:p.prov.length=gn)(hgl:gn<=1000000)(ho:∀ g∈p.prov,g.ver=[]\/Vm.check g.ver=0)(hv:Vm.check p.ver=0)(hm:r.length=m)(hq:SRow u B r)(hm2:m<=64)(hk:checkR r=0){pn vr:List UInt8}{wt:Nat}(e0:p.name=pn)(e1:p.ver=vr)(e5:p.wt=wt){b:Bool}(hb:metP p ⟨nm,r⟩=b) :
  Calls Tryz.prog 54 #[.agg #[.string ⟨pn.toArray⟩,.string ⟨vr.toArray⟩,.slice D dn dc,.slice C cn cc,.slice G gn gc,.float .f64 wt],.agg #[.string ⟨nm.toArray⟩,.slice B m d]] u fun e w'=>e=.returned (.bool b)/\Below u.heap.size u w':=by
 subst e0 e1 e5 hb
 exact ud p D C G dn dc cn cc gn gc nm B m d r u hw hg hgn hgl ho hv hm hq hm2 hk
theorem af9 {u:World}(hk:KOk u)(p:Pk)(D C G:Option Addr)(dn dc cn cc gn gc:Nat)(hd:Pg.DRow u D p.deps)(hdn:p.deps.length=dn)(hc:ARow u C p.confl)(hcn:p.confl.length=cn)(hg:GRow u G p.prov)(hgn:p.prov.length=gn)(ht:PTxt p){nm vr:List UInt8}{wt:Nat}(e0:p.name=nm)(e1:p.ver=vr)(e5:p.wt=wt){n:Nat}(hn:(toPk p).length=n) :
  Calls Tryz.prog 112 #[.agg #[.string ⟨nm.toArray⟩,.string ⟨vr.toArray⟩,.slice D dn dc,.slice C cn cc,.slice G gn gc,.float .f64 wt]] u fun e w'=>∃ A c,e=.returned (.slice A n c)/\Rg.Row Sz.encF 3 w' A (toPk p)/\Below u.heap.size u w':=by
 subst e0 e1 e5
 refine (abD p D C G dn dc cn cc gn gc u hk hd hdn hc hcn hg hgn ht).mono ?_
 rintro e w' ⟨A,m,c,rfl,hm,hr,hb⟩
 rw[hn] at hm
 subst hm
 exact⟨A,c,rfl,hr,hb⟩
theorem dF {P:Program}{id:Nat}{L:Array Oper}{b:Bool}{Q:Exit->Act->World->Prop}{a:Act}{w:World}(h:∀ ops,L=ops->(Code.region id ops b).wp P Q a w):(Code.region id L b).wp P Q a w:=h L rfl
section
variable {P:Program} {ops:Array Oper} {L:List Oper} {md:Region.Mode} {Q:Exit->Act->World->Prop} {S:World->Prop} {fuel:Nat} {listed:Array Bool} {a:Act} {w:World}
theorem take_at (hL:L.toArray=ops)(i:Nat){oi:Oper}{v:Value}(hi:L[i]?=some oi)(hs:Region.noSelect ops=true)(hf:Region.free md L.toArray listed i=true)(hr:(Region.ready md L.toArray listed).contains i=true)
  (hQ:∀ c a w,Q (.panic c) (a.put oi.dst v) w->Q (.panic c) a w) (hw:Region.wanted oi (yielded L.toArray a.tmps)=true) (hS:S w) (hy:∀ w,S w->(execOp a.eval oi).run P w=.ok (.value v) w)
  (h:wpAnyH P md ops Q S fuel (listed.setIfInBounds i true) (a.put oi.dst v) w):wpAnyH P md ops Q S (fuel+1) listed a w:=by
 subst hL
 exact wpAnyH_take (by simpa using hi) hs hf hr hQ (Or.inl ⟨hw,hy⟩) hS h
theorem mvS {α:Type}:(∀ (l:List α) (i:Nat) (v:α),l.toArray.setIfInBounds i v=(l.set i v).toArray)/\(∀ (x v:α) (l:List α),(x :: l).set 0 v=v :: l)/\∀ (x v:α) (l:List α) (n:Nat),(x :: l).set (n+1) v=x :: l.set n v:=⟨fun _ _ _=>List.setIfInBounds_toArray ..,fun _ _ _=>List.set_cons_zero,fun _ _ _ _=>List.set_cons_succ⟩
theorem mv (hS:S w)(hL:L.toArray=ops)(hs:Region.noSelect ops=true)(i:Nat){oi:Oper}{v:Value}(h:wpAnyH P md ops Q S fuel (listed.setIfInBounds i true) (a.put oi.dst v) w)
  (hi:L[i]?=some oi:=by rfl) (hf:Region.free md L.toArray listed i=true:=by kernel_rfl) (hr:(Region.ready md L.toArray listed).contains i=true:=by kernel_rfl) (hQ:∀ c a w,Q (.panic c) (a.put oi.dst v) w->Q (.panic c) a w:=by exact fun _ _ _ h=>h) (hw:Region.wanted oi (yielded L.toArray a.tmps)=true:=by rfl)
  (hy:∀ w,S w->(execOp a.eval oi).run P w=.ok (.value v) w:=by (intro w aa;(try dsimp only at aa);go_simp;(try with_reducible rfl))):wpAnyH P md ops Q S (fuel+1) listed a w:=take_at hL i hi hs hf hr hQ hw hS hy h
theorem cN (hL:L.toArray=ops)(i:Nat){oi:Oper}(hi:L[i]?=some oi)(hr:Region.ready md L.toArray listed=[i])(hw:Region.wanted oi (yielded L.toArray a.tmps)=true)
  (h:∀ K:Act->World->Prop,Shut (∀ a w,S w->(S w->wpAnyH P md ops Q S fuel (listed.setIfInBounds i true) a w)->K a w)->Oper.wp P oi a w K Q):wpAnyH P md ops Q S (fuel+1) listed a w:=by
 subst hL
 refine wpAnyH_ready (rs:=[i]) hr (by simp) (AllReadyH.cons (by simpa using hi) (fun K hK=>?_) AllReadyH.nil)
 rw[if_pos hw]
 exact h K hK
theorem gr (hL:L.toArray=ops)(hr:Region.ready md L.toArray listed=[])(h:Q .normal a w):wpAnyH P md ops Q S fuel listed a w:=by
 subst hL
 exact wpAnyH_done hr h fuel
theorem jm (hL:L.toArray=ops){n:Nat}(h:L.length=n):ops.size=n:=by subst hL;simpa using h
theorem gS (hL:L.toArray=ops)(h:Region.noSelect L.toArray=true):Region.noSelect ops=true:=by subst hL;exact h
end
end Pg
end
section
open Go.RowKit Rs At Pg
theorem fL {P:Program}(w:World)(dT sT ty elem:TypeId)(g o dLen dCap:Nat)(a:Addr)(sLen sCap:Nat)(cur:Array Value)(t:TypeId)(cs:List Value)(K m:Nat)
  (hu:P.underlying dT=some (.slice elem)) (hs:(P.info? elem).map (·.size)=some K) (hg:w.heap[g]?=some (.cells cur t (0,0))) (hm:min sLen dLen=m) (hn:cs.length=m*K)
  (hsrc:∀ j v,cs[j]?=some v->w.cell? (a.add j)=some v) (hfit:o+cs.length<=cur.size) (h1:∀ v∈cs,v.oneCell'=true) :
  (Builtin.copy_ #[dT,sT] ty #[.slice (some ⟨g,o,none⟩) dLen dCap,.slice (some a) sLen sCap]).run P w=.ok (goInt m) (w.setRow g (cur.toList.take o++cs++cur.toList.drop (o+cs.length)).toArray):=by
 have hl:=run_loadCells_list (P:=P) w a cs hsrc
 have aa:=run_storeCells_at P g o t cs 0 cur w hg (by simpa using hfit) h1
 rw[hn] at hl
 cases hq:P.info? elem with
 | none=>simp[hq] at hs
 | some i =>
  have hi:i.size=K:=by simpa [hq] using hs
  have ab:Nat.min sLen dLen=m:=hm
  simp[Builtin.copy_,run_underlying hu,Builtin.lenOf,Builtin.firstCells,sizeOf,typeInfo,hq,hi,ab,hl,aa]
theorem oO {P:Program}{w:World}{ops:Array Oper}{o:Oper}{a:Act}{G:Act->World->Prop}{Q:Exit->Act->World->Prop}{E:Prop}(hgd:o.guard=none)(d s:Operand)(dT sT:TypeId)
  (ho:o.op=.call { callee:=.builtin .copy,args:=#[d,s],argTypes:=#[dT,sT] }) (elem:TypeId) (K m:Nat) (hu:P.underlying dT=some (.slice elem)) (hsz:(P.info? elem).map (·.size)=some K)
  (g off dLen dCap:Nat) (ad:Addr) (sLen sCap:Nat) (hd:a.eval d=.slice (some ⟨g,off,none⟩) dLen dCap) (hs:a.eval s=.slice (some ad) sLen sCap)
  (cur:List Value) (t:TypeId) (hg:w.heap[g]?=some (.cells cur.toArray t (0,0))) (cs:List Value) (hm:min sLen dLen=m) (hn:cs.length=m*K)
  (hsrc:∀ j v,cs[j]?=some v->w.cell? (ad.add j)=some v) (hfit:off+cs.length<=cur.length) (h1:∀ v∈cs,v.oneCell'=true)
  (h:G (a.put o.dst (goInt m)) (w.setRow g (cur.take off++cs++cur.drop (off+cs.length)).toArray)):if Region.wanted o (yielded ops a.tmps)=true then Oper.wp P o a w G Q else E:=by
 have hw:Region.wanted o (yielded ops a.tmps)=true:=by simp[Region.wanted,hgd]
 rw[if_pos hw]
 have aa:=fL (P:=P) w dT sT o.type elem g off dLen dCap ad sLen sCap cur.toArray t cs K m hu hsz hg hm hn hsrc (by simpa using hfit) h1
 rw[List.toList_toArray] at aa
 unfold Oper.wp
 simp only[execOp,ho,resolve,invoke,builtin,Sem.run_bind,Sem.run_pure,Result.andThen_ok,List.map_toArray,List.map_cons,List.map_nil,hd,hs,aa]
 exact h
theorem pP {P:Program}{w:World}(t tx ty e e':TypeId)(ht:P.underlying t=some (.slice e))(hx:P.underlying tx=some (.slice e')){v:Value}(hv:IsSl v)(x:Value):(Builtin.append_ #[t,tx] ty #[v,x]).run P w=(Builtin.append_ #[t,t] ty #[v,x]).run P w:=by
 obtain⟨A,n,c,rfl⟩:=hv
 simp[Builtin.append_,run_underlying ht,run_underlying hx]
theorem jn {α:Type}{P:Program}{enc:α->List Value}{K:Nat}{ST SX T:TypeId}{w:World}{κ:Value->Prop}(hT:Rg.SliceT P enc K ST T){e':TypeId}(hX:P.underlying SX=some (.slice e'))(hk:∀ i,P.info? T=some i->∀ z,i.zero=some z->∀ u∈z.cells,κ u)(hke:∀ x,∀ u∈enc x,κ u)
  {ops:Array Oper} {rest:List Oper} {o:Oper} {a:Act} {Q:Exit->Act->World->Prop} (hgd:o.guard=none) (sl x:Operand)
  (ho:o.op=.call { callee:=.builtin .append,args:=#[sl,x],argTypes:=#[ST,SX] })
  (B:Nat) (v:Value) (l m:List α) (hs:a.eval sl=v) (hown:Rg.Own enc K w B T v l) (hp:Pure κ w v) (ad:Addr) (c n:Nat) (hl:m.length=n) (hx:a.eval x=.slice (some ad) n c)
  (hnews:∀ j u,(Rg.flat enc m)[j]?=some u->w.cell? (ad.add j)=some u) (hm:0<n) (hsz:l.length+n<=1000000) (hB:B<=w.heap.size)
  (h:∀ v' w',Rg.Own enc K w' B T v' (l++m)->Pure κ w' v'->w.grownBy w' v.ownBlock->(v'.ownBlock=v.ownBlock\/∃ H,v'.ownBlock=some H/\w.heap.size<=H)->IsSl v'->wpList P ops Q rest (a.put o.dst v') w'):wpList P ops Q (o :: rest) a w:=by
 subst hl
 obtain⟨i,z,hi,ab,af,ae,hb⟩:=hT.info
 have aa:(l.length+m.length)*i.bytes<=140737488355328:=by
  have:(l.length+m.length)*i.bytes<=1000000*1000:=Nat.mul_le_mul hsz hb
  omega
 have ac:l.length+m.length<=maxLen:=by unfold maxLen;omega
 refine wpList_plain hgd fun _ hK=>?_
 obtain⟨g,cap,w',hr,h2,h3,h4,_⟩:=run_append_lies (P:=P) w ST o.type B T i z K i.bytes hT.under hi ab ae rfl af hT.pos v l.length (Rg.flat enc l) hown ad m.length c (Rg.flat enc m) (Rg.bH hT.fits m) hnews (Rg.bF hT.fits m) hm ac aa hB _ rfl
 have h6:=pure_run ST o.type B T i z K i.bytes hT.under hi ab ae rfl l.length (Rg.flat enc l) hown ad m.length c (Rg.flat enc m) (Rg.bH hT.fits m) hnews (Rg.bF hT.fits m) hm ac aa hr hp (fun u hu=>by
  obtain⟨y,_,hy⟩:=List.mem_flatMap.1 hu
  exact hke y u hy) (hk i hi z ab)
 rw[<-pP ST SX o.type T e' hT.under hX (by
  obtain⟨A,c2,ag,_⟩:=Rg.aF hT.fits hown
  exact⟨_,_,_,ag⟩)] at hr
 unfold Oper.wp execOp
 simp only[ho,resolve,invoke,builtin,Sem.run_bind,Sem.run_pure,Result.andThen_ok,List.map_toArray,List.map_cons,List.map_nil,hs,hx,hr]
 refine hK _ _ (h _ w' ?_ h6 h3 ?_ ⟨_,_,_,rfl⟩)
 ·unfold Rg.Own
  rw[Rg.cG,List.length_append]
  exact h2
 ·rcases h4 with h4 | h4
  ·exact Or.inl h4.symm
  ·exact Or.inr ⟨g,rfl,by rw[h4];exact Nat.le_refl _⟩
theorem abE {α:Type}(X D Y L:List α)(hX:L.take X.length=X)(hl:X.length+D.length+Y.length<=L.length) :
  (((L.take (X.length+D.length)++Y++L.drop (X.length+D.length+Y.length)).take X.length++D++(L.take (X.length+D.length)++Y++L.drop (X.length+D.length+Y.length)).drop (X.length+D.length)).take (X.length+D.length+Y.length)=X++D++Y) /\
  (((L.take (X.length+D.length)++Y++L.drop (X.length+D.length+Y.length)).take X.length++D++(L.take (X.length+D.length)++Y++L.drop (X.length+D.length+Y.length)).drop (X.length+D.length)).length=L.length):=by
 have e1:(L.take (X.length+D.length)++Y++L.drop (X.length+D.length+Y.length)).take X.length=X:=by
  rw[List.append_assoc,List.take_append_of_le_length (by rw[List.length_take];omega),List.take_take,Nat.min_eq_left (by omega),hX]
 have e2:(L.take (X.length+D.length)++Y++L.drop (X.length+D.length+Y.length)).drop (X.length+D.length)=Y++L.drop (X.length+D.length+Y.length):=by
  rw[List.append_assoc,List.drop_append_of_le_length (by rw[List.length_take];omega),List.drop_of_length_le (by rw[List.length_take];omega)]
  rfl
 rw[e1,e2]
 constructor
 ·rw[<-List.append_assoc,List.take_append_of_le_length (by simp only[List.length_append];omega)]
  exact List.take_of_length_le (by simp only[List.length_append];omega)
 ·simp only[List.length_append,List.length_drop];omega
theorem afa {α:Type}(X D Y Z:List α)(hl:D.length+Y.length<=Z.length) :
  (((((X++Z).take X.length++D++(X++Z).drop (X.length+D.length)).take (X.length+D.length))++Y++((X++Z).take X.length++D++(X++Z).drop (X.length+D.length)).drop (X.length+D.length+Y.length)).take (X.length+D.length+Y.length)=X++D++Y) /\
  (((((X++Z).take X.length++D++(X++Z).drop (X.length+D.length)).take (X.length+D.length))++Y++((X++Z).take X.length++D++(X++Z).drop (X.length+D.length)).drop (X.length+D.length+Y.length)).length=X.length+Z.length):=by
 have e0:(X++Z).take X.length=X:=by simp
 have e1:(X++Z).drop (X.length+D.length)=Z.drop D.length:=by rw[List.drop_append];simp
 rw[e0,e1]
 have e2:(X++D++Z.drop D.length).take (X.length+D.length)=X++D:=by
  rw[List.take_append_of_le_length (by simp)]
  exact List.take_of_length_le (by simp)
 have e3:(X++D++Z.drop D.length).drop (X.length+D.length+Y.length)=Z.drop (D.length+Y.length):=by
  rw[List.drop_append,List.drop_of_length_le (by simp only[List.length_append];omega),List.nil_append,List.drop_drop]
  congr 1
  simp only[List.length_append]
  omega
 rw[e2,e3]
 constructor
 ·rw[List.take_append_of_le_length (by simp only[List.length_append];omega)]
  exact List.take_of_length_le (by simp only[List.length_append];omega)
 ·simp only[List.length_append,List.length_drop];omega
end
section
open Go.RowKit Rs At Pg Rp
namespace Rp
def Off {α:Type} (o:Option Nat) (A:Option Addr) (l:List α):Prop:=0<l.length->∀ a,A=some a->o≠some a.block
def PFar (o:Option Nat) (w:World) (d:PD) (p:Pk):Prop:=(d.nm=p.name/\d.vr=p.ver/\d.D.2.1=p.deps.length/\d.C.2.1=p.confl.length/\d.G.2.1=p.prov.length/\d.wt=p.wt) /\
 (∃ ds,Rg.Row encO 1 w d.D.1 ds/\DIn w ds p.deps/\Off o d.D.1 ds/\∀ (i:Nat) (e:Desc) (l:List Atm),ds[i]?=some e->p.deps[i]?=some l->Off o e.1 l)/\(ARow w d.C.1 p.confl/\Off o d.C.1 p.confl)/\GRow w d.G.1 p.prov/\Off o d.G.1 p.prov
theorem adB {o:Option Nat}{w:World}{d:PD}{p:Pk}(h:PFar o w d p):POne w d p:=by
 obtain⟨⟨h1,h2,h3,h4,h5,h6⟩,⟨ds,d1,d2,_,_⟩,⟨h8,_⟩,h9,_⟩:=h
 exact⟨h1,h2,h3,h4,h5,h6,⟨ds,d1,d2⟩,h8,h9⟩
theorem uW {o:Option Nat}{w u:World}{d:PD}{p:Pk}(h:PFar o w d p)(hb:But o w u)(hg:∀ g,o=some g->∀ j x,w.cell? ⟨g,j,none⟩=some x->NoB x):PFar o u d p:=by
 obtain⟨h1,⟨ds,d1,d2,d3,d4⟩,⟨h8,f8⟩,h9,f9⟩:=h
 exact⟨h1,⟨ds,cq d1 hb d3,⟨d2.1,fun i e l e1 e2=>⟨(d2.2 i e l e1 e2).1,d9 (d2.2 i e l e1 e2).2 hb (d4 i e l e1 e2) hg⟩⟩,d3,d4⟩,⟨d9 h8 hb f8 hg,f8⟩,cq h9 hb f9,f9⟩
theorem j3 {o:Option Nat}{w u:World}{d:PD}{p:Pk}(h:PFar o w d p)(hb:Below w.heap.size w u):PFar o u d p:=by
 obtain⟨h1,⟨ds,d1,d2,d3,d4⟩,⟨h8,f8⟩,h9,f9⟩:=h
 exact⟨h1,⟨ds,Rg.aj d1 hb,ix d2 hb,d3,d4⟩,⟨ay h8 hb,f8⟩,Rg.aj h9 hb,f9⟩
theorem pQ {α:Type}{enc:α->List Value}{K:Nat}{w:World}{A:Option Addr}{l:List α}{H:Nat}(h:Rg.Row enc K w A l)(hH:w.heap.size<=H):0<l.length->∀ a,A=some a->some H≠some a.block:=fun h0 a ha e=>by
 obtain⟨a',e',hl,_⟩:=h h0
 rw[ha] at e';cases e'
 have:=Option.some.inj e
 omega
theorem uX {w:World}{A:Option Addr}{l:List Atm}{H:Nat}(h:ARow w A l)(hH:w.heap.size<=H):Off (some H) A l:=by
 obtain⟨ds,h1,h2⟩:=h
 intro h0
 exact pQ h1 hH (by rw[h2.1];exact h0)
theorem rp {B:Nat}{w:World}{p:Pk}{D C G:Option Addr}(h:PRows B w p D C G){o:Option Nat}(ho:∀ g,o=some g->g<B)(dc cc gc:Nat):PFar o w ⟨p.name,p.ver,(D,p.deps.length,dc),(C,p.confl.length,cc),(G,p.prov.length,gc),p.wt⟩ p:=by
 obtain⟨⟨⟨ds,d1,d2,d3⟩,fD⟩,⟨h8,fC⟩,h9,fG⟩:=h
 have far:∀ {A:Option Addr},AFr B A->∀ a,A=some a->o≠some a.block:=fun hA a ha e=>by
  have:=ho _ e
  have:=hA a ha
  omega
 exact⟨⟨rfl,rfl,rfl,rfl,rfl,rfl⟩,⟨ds,d1,d2,fun _=>far fD,fun i e l e1 _ _=>far (fun a ha=>d3 i e e1 a ha)⟩,⟨h8,fun _=>far fC⟩,h9,fun _=>far fG⟩
def POwn (w:World) (B:Nat) (T:TypeId) (v:Value) (ds:List PD) (l:List Pk):Prop:=Rg.Own encP 6 w B T v ds/\Pure NoB w v/\ds.length=l.length/\∀ (i:Nat) (d:PD) (p:Pk),ds[i]?=some d->l[i]?=some p->PFar v.ownBlock w d p
theorem uY (w:World)(B:Nat)(T:TypeId):POwn w B T (.slice none 0 0) [] []:=⟨Rg.aB _ _ _,pure_nil _ _,rfl,fun i d p h=>by simp at h⟩
theorem gh {w w':World}{B:Nat}{T:TypeId}{v:Value}{ds:List PD}{l:List Pk}(h:POwn w B T v ds l)(hb:Below w.heap.size w w'):POwn w' B T v ds l:=⟨Rg.own_below h.1 hb,c8 h.2.1 h.1 hb,h.2.2.1,fun i d p h1 h2=>j3 (h.2.2.2 i d p h1 h2) hb⟩
theorem gT {w:World}{B:Nat}{T:TypeId}{v:Value}{ds:List PD}{l:List Pk}(h:POwn w B T v ds l):∃ A c,v=.slice A l.length c/\RRow w A l/\l.length<=c:=by
 obtain⟨A,c,hv,hr,hc,_⟩:=Rg.aF fitsP h.1
 rw[h.2.2.1] at hv hc
 exact⟨A,c,hv,⟨ds,hr,h.2.2.1,fun i d p h1 h2=>adB (h.2.2.2 i d p h1 h2)⟩,hc⟩
theorem lR {α:Type}{l:List α}{x y:α}{i k:Nat}(hi:i<=l.length)(h:(l.take i++x :: l.drop i)[k]?=some y):(k<i/\l[k]?=some y)\/(k=i/\y=x)\/(i<k/\l[k-1]?=some y):=by
 have hl:(l.take i).length=i:=by rw[List.length_take];omega
 rcases Nat.lt_trichotomy k i with hk | hk | hk
 ·rw[List.getElem?_append_left (by omega),List.getElem?_take,if_pos hk] at h
  exact Or.inl ⟨hk,h⟩
 ·subst hk
  rw[List.getElem?_append_right (by omega),hl,Nat.sub_self] at h
  exact Or.inr (Or.inl ⟨rfl,(Option.some.inj h).symm⟩)
 ·rw[List.getElem?_append_right (by omega),hl] at h
  obtain⟨j,hj⟩:∃ j,k-i=j+1:=⟨k-i-1,by omega⟩
  rw[hj,List.getElem?_cons_succ,List.getElem?_drop] at h
  exact Or.inr (Or.inr ⟨hk,by rw[<-h];congr 1;omega⟩)
def InsRet (w:World) (B:Nat) (T:TypeId) (v:Value) (ds':List PD) (e:Ending) (w':World):Prop:=∃ v',e=.returned v'/\Rg.Own encP 6 w' B T v' ds'/\Pure NoB w' v'/\(v'.ownBlock=v.ownBlock\/∃ H,v'.ownBlock=some H/\w.heap.size<=H)/\w.grownBy w' v.ownBlock
theorem uZ {w w':World}{B:Nat}{T:TypeId}{v v':Value}{ds:List PD}{l:List Pk}{d:PD}{p:Pk}{i:Nat}(h:POwn w B T v ds l)(hd:PFar v.ownBlock w d p)(hi:i<=l.length)(ho:Rg.Own encP 6 w' B T v' (ds.take i++d :: ds.drop i))(hp:Pure NoB w' v')(hv:v'.ownBlock=v.ownBlock\/∃ H,v'.ownBlock=some H/\w.heap.size<=H)(hg:w.grownBy w' v.ownBlock):POwn w' B T v' (ds.take i++d :: ds.drop i) (l.take i++p :: l.drop i):=by
 have aa:=h.2.2.1
 have key:∀ {x:PD} {q:Pk},PFar v.ownBlock w x q->PFar v'.ownBlock w' x q:=fun {x q} hx=>by
  have nb:∀ g,v.ownBlock=some g->∀ j x,w.cell? ⟨g,j,none⟩=some x->NoB x:=fun g hg2=>h.2.1 g hg2
  rcases hv with hv | ⟨H,hv,hH⟩
  ·rw[hv];exact uW hx (dD hg) nb
  ·have h2:PFar v.ownBlock w' x q:=uW hx (dD hg) nb
   obtain⟨h1,⟨ds,d1,d2,d3,d4⟩,⟨h8,f8⟩,h9,f9⟩:=hx
   obtain⟨_,⟨ad,ae,af,_,_⟩,⟨ab,_⟩,ac,_⟩:=h2
   rw[hv]
   refine⟨h1,?_,⟨ab,uX h8 hH⟩,ac,pQ h9 hH⟩
   exact⟨ds,cq d1 (dD hg) d3,⟨d2.1,fun i e l e1 e2=>⟨(d2.2 i e l e1 e2).1,d9 (d2.2 i e l e1 e2).2 (dD hg) (d4 i e l e1 e2) nb⟩⟩,pQ d1 hH,fun i e l e1 e2=>uX (d2.2 i e l e1 e2).2 hH⟩
 refine⟨ho,hp,by simp[aa],fun k x q e1 e2=>key ?_⟩
 rcases lR (by rw[aa];exact hi) e1 with⟨a1,a2⟩ | ⟨a1,a2⟩ | ⟨a1,a2⟩
 ·rcases lR hi e2 with⟨b1,b2⟩ | ⟨b1,b2⟩ | ⟨b1,b2⟩
  ·exact h.2.2.2 k x q a2 b2
  ·omega
  ·omega
 ·rcases lR hi e2 with⟨b1,b2⟩ | ⟨b1,b2⟩ | ⟨b1,b2⟩
  ·omega
  ·rw[a2,b2];exact hd
  ·omega
 ·rcases lR hi e2 with⟨b1,b2⟩ | ⟨b1,b2⟩ | ⟨b1,b2⟩
  ·omega
  ·omega
  ·exact h.2.2.2 (k-1) x q a2 b2
end Rp
end
end Go.Proofs.YtgnaiidgjmicaaaGreatDoor
