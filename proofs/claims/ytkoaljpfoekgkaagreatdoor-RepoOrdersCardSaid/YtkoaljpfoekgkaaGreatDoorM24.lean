/- Part 24 of what the laws lean on. -/
import Derived.Test.YtkoaljpfoekgkaaGreatDoorM23
import Derived.Test.YtkoaljpfoekgkaaGreatDoorM20
set_option maxRecDepth 100000
set_option maxHeartbeats 12800000
namespace Go.Proofs.YtkoaljpfoekgkaaGreatDoor
section
open Go.RowKit Rs At Pg
attribute [local go_sem ↓] Go.wp_at_zero Go.wp_at_succ
attribute [local go_sem] Pg.av
namespace Pg
theorem abd {u:World}(hw:MaxOk u)(p:Pk)(D C G:Option Addr)(dn dc cn cc gn gc:Nat)(hd:Pg.DRow u D p.deps)(hdn:p.deps.length=dn)(hc:ARow u C p.confl)(hcn:p.confl.length=cn)(hg:GRow u G p.prov)(hgn:p.prov.length=gn)(hf:PFew p){nm vr:List UInt8}{wt:Nat}(e0:p.name=nm)(e1:p.ver=vr)(e5:p.wt=wt){k:Int}(hk:checkP p=k) :
  Calls Tryz.prog 62 #[.agg #[.string ⟨nm.toArray⟩,.string ⟨vr.toArray⟩,.slice D dn dc,.slice C cn cc,.slice G gn gc,.float .f64 wt]] u fun e w'=>e=.returned (.int .i64 k)/\Below u.heap.size u w':=by
 subst e0 e1 e5 hk
 exact re p D C G dn dc cn cc gn gc u hw hd hdn hc hcn hg hgn hf
theorem acJ {u:World}(p:Pk)(D C G:Option Addr)(dn dc cn cc gn gc:Nat)(q:Pk)(D' C' G':Option Addr)(dn' dc' cn' cc' gn' gc':Nat)(hd:Pg.DRow u D p.deps)(hdn:p.deps.length=dn)(hc:ARow u C p.confl)(hcn:p.confl.length=cn)(hg:GRow u G p.prov)(hgn:p.prov.length=gn)(hf:PFew p)(hd':Pg.DRow u D' q.deps)(hdn':q.deps.length=dn')(hc':ARow u C' q.confl)(hcn':q.confl.length=cn')(hg':GRow u G' q.prov)(hgn':q.prov.length=gn')(hf':PFew q){nm vr nm' vr':List UInt8}{wt wt':Nat}(e0:p.name=nm)(e1:p.ver=vr)(e5:p.wt=wt)(e0':q.name=nm')(e1':q.ver=vr')(e5':q.wt=wt'){b:Bool}(hb:samP p q=b) :
  Calls Tryz.prog 40 #[.agg #[.string ⟨nm.toArray⟩,.string ⟨vr.toArray⟩,.slice D dn dc,.slice C cn cc,.slice G gn gc,.float .f64 wt],.agg #[.string ⟨nm'.toArray⟩,.string ⟨vr'.toArray⟩,.slice D' dn' dc',.slice C' cn' cc',.slice G' gn' gc',.float .f64 wt']] u fun e w'=>e=.returned (.bool b)/\Below u.heap.size u w':=by
 subst e0 e1 e5 e0' e1' e5' hb
 exact tE p q D C G D' C' G' dn dc cn cc gn gc dn' dc' cn' cc' gn' gc' u hd hdn hc hcn hg hgn hf hd' hdn' hc' hcn' hg' hgn' hf'
theorem abe {u:World}(hw:MaxOk u)(p:Pk)(D C G:Option Addr)(dn dc cn cc gn gc:Nat)(nm:List UInt8)(B:Option Addr)(m d:Nat)(r:List Sp)(hg:GRow u G p.prov)(hgn:p.prov.length=gn)(hgl:gn<=1000000)(ho:∀ g∈p.prov,g.ver=[]\/Vm.check g.ver=0)(hv:Vm.check p.ver=0)(hm:r.length=m)(hq:SRow u B r)(hm2:m<=64)(hk:checkR r=0){pn vr:List UInt8}{wt:Nat}(e0:p.name=pn)(e1:p.ver=vr)(e5:p.wt=wt){b:Bool}(hb:metP p ⟨nm,r⟩=b) :
  Calls Tryz.prog 45 #[.agg #[.string ⟨pn.toArray⟩,.string ⟨vr.toArray⟩,.slice D dn dc,.slice C cn cc,.slice G gn gc,.float .f64 wt],.agg #[.string ⟨nm.toArray⟩,.slice B m d]] u fun e w'=>e=.returned (.bool b)/\Below u.heap.size u w':=by
 subst e0 e1 e5 hb
 exact rh p D C G dn dc cn cc gn gc nm B m d r u hw hg hgn hgl ho hv hm hq hm2 hk
theorem adP {u:World}(hk:KOk u)(p:Pk)(D C G:Option Addr)(dn dc cn cc gn gc:Nat)(hd:Pg.DRow u D p.deps)(hdn:p.deps.length=dn)(hc:ARow u C p.confl)(hcn:p.confl.length=cn)(hg:GRow u G p.prov)(hgn:p.prov.length=gn)(ht:PTxt p){nm vr:List UInt8}{wt:Nat}(e0:p.name=nm)(e1:p.ver=vr)(e5:p.wt=wt){n:Nat}(hn:(toPk p).length=n) :
  Calls Tryz.prog 65 #[.agg #[.string ⟨nm.toArray⟩,.string ⟨vr.toArray⟩,.slice D dn dc,.slice C cn cc,.slice G gn gc,.float .f64 wt]] u fun e w'=>∃ A c,e=.returned (.slice A n c)/\Rg.Row Sz.encF 3 w' A (toPk p)/\Below u.heap.size u w':=by
 subst e0 e1 e5
 refine (yX p D C G dn dc cn cc gn gc u hk hd hdn hc hcn hg hgn ht).mono ?_
 rintro e w' ⟨A,m,c,rfl,hm,hr,hb⟩
 rw[hn] at hm
 subst hm
 exact⟨A,c,rfl,hr,hb⟩
end Pg
end
section
open Go.RowKit Rs At Pg Rp
attribute [local go_sem ↓] Go.wp_at_zero Go.wp_at_succ
attribute [local go_sem] Pg.av
theorem Rp.or2 (x y:Int):orL [x,y]=Vm.both x y:=by rw[orL,orL,orL,fB]
theorem fX (nm vr nm2 vr2:List UInt8)(D C G D2 C2 G2:Option Addr)(dn dc cn cc gn gc dn2 dc2 cn2 cc2 gn2 gc2 wt wt2:Nat)(w:World)(hw:MaxOk w)(h1:Vm.check vr=0)(h2:Vm.check vr2=0) :
  Calls Tryz.prog 56 #[.agg #[.string ⟨nm.toArray⟩,.string ⟨vr.toArray⟩,.slice D dn dc,.slice C cn cc,.slice G gn gc,.float .f64 wt],.agg #[.string ⟨nm2.toArray⟩,.string ⟨vr2.toArray⟩,.slice D2 dn2 dc2,.slice C2 cn2 cc2,.slice G2 gn2 gc2,.float .f64 wt2]] w fun e w'=>e=.returned (.int .i64 (Vm.both (Lib.compareBytes nm nm2) (Vm.cmpV vr vr2)))/\Below w.heap.size w w':=by
 obtain⟨W1,ag⟩:=ex (w.alloc (.cells #[.string ⟨nm.toArray⟩,.string ⟨vr.toArray⟩,.slice D dn dc,.slice C cn cc,.slice G gn gc,.float .f64 wt] 39))
 obtain⟨W2,ah⟩:=ex (W1.alloc (.cells #[.string ⟨nm2.toArray⟩,.string ⟨vr2.toArray⟩,.slice D2 dn2 dc2,.slice C2 cn2 cc2,.slice G2 gn2 gc2,.float .f64 wt2] 39))
 have ai:=ab ag
 have ac:=ab ah
 have HB:Hid (Below w.heap.size w W2):=bt ai ac
 have aj:Hid (∀ u,Below W2.heap.size W2 u->Below w.heap.size w u):=fun u h=>bt HB.out h
 have an:Hid (∀ u,Below W2.heap.size W2 u->MaxOk u):=fun u h=>aa hw (aj.out u h)
 obtain⟨b,hb⟩:=ex w.heap.size
 obtain⟨b1,am⟩:=ex W1.heap.size
 have ad:Hid (∀ u,Below W2.heap.size W2 u->u.cell? ⟨b,0,none⟩=some (.string ⟨nm.toArray⟩)/\u.cell? ⟨b,1,none⟩=some (.string ⟨vr.toArray⟩)/\u.cell? ⟨b1,0,none⟩=some (.string ⟨nm2.toArray⟩)/\u.cell? ⟨b1,1,none⟩=some (.string ⟨vr2.toArray⟩)):=fun u h=>by
  rw[<-hb,<-am]
  have q1:=ak ag (bt ac h)
  have q2:=ak ah h
  exact⟨q1.1,q1.2.1,q2.1,q2.2.1⟩
 have ae:Hid (Below W2.heap.size W2 W2.drew):=(Below.refl _ _).drew
 have F1:Hid (∀ u,Calls Tryz.prog 86 #[.string ⟨nm.toArray⟩,.string ⟨nm2.toArray⟩] u fun e w'=>e=.returned (.int .i64 (Lib.compareBytes nm nm2))/\u=w'):=fun u=>i6 nm nm2 u
 have F2:Hid (∀ u,Below W2.heap.size W2 u->Calls Tryz.prog 31 #[.string ⟨vr.toArray⟩,.string ⟨vr2.toArray⟩] u fun e w'=>e=.returned (.int .i64 (Vm.cmpV vr vr2))/\Below u.heap.size u w'):=fun u h=>gj vr vr2 u (an.out u h) h1 h2
 obtain⟨x,hx⟩:=ex (Lib.compareBytes nm nm2)
 obtain⟨y,hy⟩:=ex (Vm.cmpV vr vr2)
 rw[hx] at F1
 rw[hy] at F2
 rw[hx,hy]
 clear hw h1 h2 hx hy ai ac
 go_enter Tryz.func56,Tryz.ntmps56
 go_wp2_with fail
 clear ag ah hb am
 go_region_held3 (fun u=>u.cell? ⟨b,0,none⟩=some (.string ⟨nm.toArray⟩)/\u.cell? ⟨b,1,none⟩=some (.string ⟨vr.toArray⟩)/\u.cell? ⟨b1,0,none⟩=some (.string ⟨nm2.toArray⟩)/\u.cell? ⟨b1,1,none⟩=some (.string ⟨vr2.toArray⟩))
  (first
   | with_reducible exact ad.out _ ae.out
   | with_reducible exact ad.out _ af.out
   | with_reducible exact ad.out _ al.out)
  (first
   | (go_at_call 85;refine (fA [x,y] _ _ _ (by simp) (cells2 _ _ _)).mono ?_;rintro _ u3 ⟨rfl,rfl⟩)
   | (go_at_call 31;refine (F2.out _ ae.out).mono ?_;rintro _ u2 ⟨rfl,hb⟩;have af:=zh (bt ae.out hb);have al:Hid (Below W2.heap.size W2 (u2.alloc (.cells #[.int .i64 x,.int .i64 y] 3))):=af.out.alloc af.out.size _;clear hb)
   | (go_at_call 86;refine (F1.out _).mono ?_;rintro _ u1 ⟨rfl,rfl⟩))
 go_wp2_with fail
 go_ret
 exact⟨by show Ending.returned (.int .i64 (orL [x,y]))=_;rw[Rp.or2],aj.out _ al.out⟩
theorem Rp.yY (i:Int):okRp i 0=.returned (.tuple #[]):=rfl
theorem Rp.np {i k:Int}(h:k≠0):okRp i k=panAt i k:=if_neg h
theorem fY (A:Option Addr)(n c:Nat)(l:List Pk)(w:World)(hw:MaxOk w)(hn:l.length=n)(hr:RRow w A l)(hf:RFew l) :
  Calls Tryz.prog 33 #[.slice A n c] w fun e w'=>e=okR n (chkF 0 none l)/\Below w.heap.size w w':=by
 have HM:=zh (fun u (h:Below w.heap.size w u)=>aa hw h)
 have HN:=zh hn
 have HR:=zh hr
 have HF:=zh hf
 clear hw hn hr hf
 by_cases aq:64<n
 ·have d:decide ((n:Int)<=64)=false:=decide_eq_false (by omega)
  have HE:Hid (okR n (chkF 0 none l)=pan 4):=if_pos aq
  clear aq
  go_enter Tryz.func33,Tryz.ntmps33
  go_wp2_with fail
  refine (ai _).mono ?_
  rintro _ z ⟨rfl,rfl⟩
  go_wp2_with fail
  exact⟨rfl,by rw[HE.out],Below.refl _ _⟩
 have aY:n<=64:=by omega
 have d:decide ((n:Int)<=64)=true:=decide_eq_true (by omega)
 obtain⟨R,hR⟩:=ex (chkF 0 none l)
 have HE:Hid (okR n R=okRp R.1 R.2):=if_neg aq
 rw[hR,HE.out]
 have aZ:=zh hR
 clear aq hR HE
 go_enter Tryz.func33,Tryz.ntmps33
 go_wp2_with fail
 refine (ag _).mono ?_
 rintro _ z ⟨rfl,rfl⟩
 clear d
 go_wp2_with fail
 go_loopw [12] (fun i wr=>∃ k:Nat,k<=n/\i=.int .i64 k/\Hid (chkF k (prevP l k) (l.drop k)=R)/\Hid (∀ p∈l.take k,checkP p=0)/\Hid (Below w.heap.size w wr)) (fun i _=>n-(intOf i).toNat)
 case atStart=>exact⟨0,Nat.zero_le _,rfl,aZ.out,fun p h=>(by cases h),Below.refl _ _⟩
 case round =>
  obtain⟨k,hk,rfl,HI,HO,HB⟩:=hrel
  by_cases aK:k<n
  ·have aj:=zh aK
   have ar:k<l.length:=by rw[HN.out];exact aK
   obtain⟨s1,s2,s3⟩:=ads ar HI.out
   obtain⟨ad,D,dc,C,cc,G,gc,rfl,hd,hc,hg,ac⟩:=bn HR.out k ar
   have aE:=nh HF.out k ar
   have aF:∀ p∈l.take (k+1),p∈l.take k\/p=l[k]:=fun p hp=>by
    rw[List.take_succ_eq_append_getElem ar] at hp
    rcases List.mem_append.1 hp with h | h
    ·exact Or.inl h
    ·exact Or.inr (List.mem_singleton.1 h)
   obtain⟨q,hq⟩:=ex (l[k])
   rw[hq] at hd hc hg ac aE s1 s2 s3 aF
   obtain⟨c0,c1,c2,c3,c4,c5⟩:=ac _ HB.out
   obtain⟨nm,h0⟩:=ex q.name
   obtain⟨vr,h1⟩:=ex q.ver
   obtain⟨dn,h2⟩:=ex q.deps.length
   obtain⟨cn,h3⟩:=ex q.confl.length
   obtain⟨gn,h4⟩:=ex q.prov.length
   obtain⟨wt,h5⟩:=ex q.wt
   rw[h0] at c0
   rw[h1] at c1
   rw[h2] at c2
   rw[h3] at c3
   rw[h4] at c4
   rw[h5] at c5
   obtain⟨bx,aW⟩:=ex wr.heap.size
   obtain⟨V,hV⟩:=ex (wr.alloc (.cells #[.string ⟨nm.toArray⟩,.string ⟨vr.toArray⟩,.slice D dn dc,.slice C cn cc,.slice G gn gc,.float .f64 wt] 39))
   have HV:Hid (Below wr.heap.size wr V):=ab hV
   have af:Hid (Below w.heap.size w V):=bt HB.out HV.out
   have aL:Hid (∀ u,Below V.heap.size V u->u.cell? ⟨bx,0,none⟩=some (.string ⟨nm.toArray⟩)/\u.cell? ⟨bx,1,none⟩=some (.string ⟨vr.toArray⟩)/\u.cell? ⟨bx,2,none⟩=some (.slice D dn dc)/\u.cell? ⟨bx,3,none⟩=some (.slice C cn cc)/\u.cell? ⟨bx,4,none⟩=some (.slice G gn gc)/\u.cell? ⟨bx,5,none⟩=some (.float .f64 wt)):=fun u h=>by
    rw[<-aW]
    exact ak hV h
   obtain⟨x,hx⟩:=ex (checkP q)
   have HC:=zh (abd (HM.out V af.out) q D C G dn dc cn cc gn gc (aX hd af.out) h2 (aB hc af.out) h3 (Rg.ah hg af.out) h4 aE h0 h1 h5 hx)
   rw[hx] at s1 s2 s3
   have aM:=zh s1
   have aN:=zh s2
   have aO:=zh s3
   have HX:=zh hx
   have H0:=zh h0
   have H1:=zh h1
   have a0:=zh aF
   obtain⟨g0,g1,g2,g3,g4,g5⟩:=aL.out V (Below.refl _ _)
   clear hq hd hc hg ac aE s1 s2 s3 aF h0 h1 h2 h3 h4 h5 hx
   go_wp2_with fail
   clear hV aW c0 c1 c2 c3 c4 c5 g0 g1 g2 g3 g4 g5
   refine HC.out.mono ?_
   rintro _ u ⟨rfl,hb⟩
   have a1:Hid (Below V.heap.size V u):=hb
   have HU:Hid (Below w.heap.size w u):=bt af.out hb
   clear hb HC
   by_cases ap:x=0
   ·subst ap
    have d1:((0:Int)==0)=true:=rfl
    have aP:Hid (∀ p∈l.take (k+1),checkP p=0):=fun p hp=>by
     rcases a0.out p hp with h | rfl
     ·exact HO.out p h
     ·exact HX.out
    go_wp2_with fail
    refine (ax _).mono ?_
    rintro _ z ⟨rfl,rfl⟩
    clear d1
    by_cases aG:k=0
    ·have a2:=zh (aN.out trivial aG)
     have d0:decide (0<k)=false:=decide_eq_false (by omega)
     clear aG
     go_wp2_with fail
     go_roundw
     case rel=>exact⟨k+1,(by have:=aj.out;omega),by go_num,a2.out,aP.out,HU.out⟩
     case measure=>have:=aj.out;simp[intOf];omega
    ·obtain⟨p,hp⟩:∃ p,p+1=k:=⟨k-1,by omega⟩
     have aQ:p<l.length:=by have:=aj.out;have:=HN.out;omega
     obtain⟨t1,t2,t3⟩:=aO.out trivial p aQ hp
     have au:Vm.check l[p].ver=0:=fp (HO.out _ (List.mem_take_iff_getElem.2 ⟨p,by have:=HN.out;have:=aj.out;omega,rfl⟩))
     obtain⟨bb,D2,av,C2,aw,G2,ay,e',_,_,_,ac⟩:=bn HR.out p aQ
     cases e'
     obtain⟨P,hP⟩:=ex (l[p])
     rw[hP] at t1 t2 t3 au ac
     obtain⟨am,i0⟩:=ex P.name
     obtain⟨ao,i1⟩:=ex P.ver
     obtain⟨az,i2⟩:=ex P.deps.length
     obtain⟨aA,i3⟩:=ex P.confl.length
     obtain⟨aC,i4⟩:=ex P.prov.length
     obtain⟨aD,i5⟩:=ex P.wt
     have aR:cmpP P q=Vm.both (Lib.compareBytes am nm) (Vm.cmpV ao vr):=by unfold cmpP;rw[i0,i1,H0.out,H1.out]
     obtain⟨y,hy⟩:=ex (Vm.both (Lib.compareBytes am nm) (Vm.cmpV ao vr))
     rw[aR,hy] at t1 t2 t3
     rw[i0,i1,i2,i3,i4,i5] at ac
     have aS:Vm.check vr=0:=by rw[<-H1.out];exact fp HX.out
     rw[i1] at au
     have aT:Hid (∀ u,Below V.heap.size V u->(u.cell? ⟨bx,0,none⟩=some (.string ⟨nm.toArray⟩)/\u.cell? ⟨bx,1,none⟩=some (.string ⟨vr.toArray⟩)/\u.cell? ⟨bx,2,none⟩=some (.slice D dn dc)/\u.cell? ⟨bx,3,none⟩=some (.slice C cn cc)/\u.cell? ⟨bx,4,none⟩=some (.slice G gn gc)/\u.cell? ⟨bx,5,none⟩=some (.float .f64 wt))/\(u.cell? (ad.add (p*6))=some (.string ⟨am.toArray⟩)/\u.cell? ⟨(ad.add (p*6)).block,(ad.add (p*6)).off+1,none⟩=some (.string ⟨ao.toArray⟩)/\u.cell? ⟨(ad.add (p*6)).block,(ad.add (p*6)).off+2,none⟩=some (.slice D2 az av)/\u.cell? ⟨(ad.add (p*6)).block,(ad.add (p*6)).off+3,none⟩=some (.slice C2 aA aw)/\u.cell? ⟨(ad.add (p*6)).block,(ad.add (p*6)).off+4,none⟩=some (.slice G2 aC ay)/\u.cell? ⟨(ad.add (p*6)).block,(ad.add (p*6)).off+5,none⟩=some (.float .f64 aD))):=fun u' h=>⟨aL.out u' h,ac u' (bt af.out h)⟩
     have FC:Hid (∀ u',Below V.heap.size V u'->Calls Tryz.prog 56 #[.agg #[.string ⟨am.toArray⟩,.string ⟨ao.toArray⟩,.slice D2 az av,.slice C2 aA aw,.slice G2 aC ay,.float .f64 aD],.agg #[.string ⟨nm.toArray⟩,.string ⟨vr.toArray⟩,.slice D dn dc,.slice C cn cc,.slice G gn gc,.float .f64 wt]] u' fun e w'=>e=.returned (.int .i64 y)/\Below u'.heap.size u' w'):=fun u' h=>by
      rw[<-hy]
      exact fX am ao nm vr D2 C2 G2 D C G az av aA aw aC ay dn dc cn cc gn gc aD wt u' (HM.out u' (bt af.out h)) au aS
     have aU:(k:Int)-1=(p:Int):=by omega
     have a3:IntKind.i64.wrap ((k:Int)-1)=(p:Int):=by rw[aU];exact IntWalk.i64_in _ (by omega)
     have a4:(p:Int)<(n:Int):=by have:=aj.out;omega
     have a5:(0:Int)<=(p:Int):=by omega
     have a6:IntKind.i64.wrap (p:Int)=(p:Int):=IntWalk.i64_in _ (by omega)
     have d0:decide (0<k)=true:=decide_eq_true (by omega)
     have aH:Hid (Below V.heap.size V u.drew):=a1.out.drew
     have a7:=zh t1
     have a8:=zh t2
     have a9:=zh t3
     clear t1 t2 t3 au aS ac hP i0 i1 i2 i3 i4 i5 aR hy hp aG aM aN aO
     go_wp2_with fail
     go_region_held3 (fun u=>(u.cell? ⟨bx,0,none⟩=some (.string ⟨nm.toArray⟩)/\u.cell? ⟨bx,1,none⟩=some (.string ⟨vr.toArray⟩)/\u.cell? ⟨bx,2,none⟩=some (.slice D dn dc)/\u.cell? ⟨bx,3,none⟩=some (.slice C cn cc)/\u.cell? ⟨bx,4,none⟩=some (.slice G gn gc)/\u.cell? ⟨bx,5,none⟩=some (.float .f64 wt))/\(u.cell? (ad.add (p*6))=some (.string ⟨am.toArray⟩)/\u.cell? ⟨(ad.add (p*6)).block,(ad.add (p*6)).off+1,none⟩=some (.string ⟨ao.toArray⟩)/\u.cell? ⟨(ad.add (p*6)).block,(ad.add (p*6)).off+2,none⟩=some (.slice D2 az av)/\u.cell? ⟨(ad.add (p*6)).block,(ad.add (p*6)).off+3,none⟩=some (.slice C2 aA aw)/\u.cell? ⟨(ad.add (p*6)).block,(ad.add (p*6)).off+4,none⟩=some (.slice G2 aC ay)/\u.cell? ⟨(ad.add (p*6)).block,(ad.add (p*6)).off+5,none⟩=some (.float .f64 aD)))
      (first
       | with_reducible exact aT.out _ aH.out
       | with_reducible exact aT.out _ aV.out)
      ((go_at_call 56;refine (FC.out _ aH.out).mono ?_;rintro _ u2 ⟨rfl,hb⟩;have aV:=zh (bt aH.out hb);clear hb))
     have aI:Hid (Below w.heap.size w u2):=bt af.out aV.out
     clear aU a3 a6 a4 a5 FC
     by_cases al:y=0
     ·have ae:=zh (a7.out al)
      have d2:(y != 0)=false:=by simpa using al
      clear al
      go_wp2_with fail
      refine (an _).mono ?_
      rintro _ z ⟨rfl,rfl⟩
      go_wp2_with fail
      exact⟨rfl,by rw[ae.out];rfl,aI.out⟩
     ·have d2:(y != 0)=true:=by simpa using al
      have HY:=zh al
      clear al
      go_wp2_with fail
      refine (ax _).mono ?_
      rintro _ z ⟨rfl,rfl⟩
      clear d2
      by_cases aJ:0<y
      ·have ae:=zh (a8.out HY.out aJ)
       have d3:decide (y<0)=false:=decide_eq_false (by omega)
       clear aJ
       go_wp2_with fail
       refine (an _).mono ?_
       rintro _ z ⟨rfl,rfl⟩
       go_wp2_with fail
       exact⟨rfl,by rw[ae.out];rfl,aI.out⟩
      ·have ae:=zh (a9.out HY.out (by omega))
       have d3:decide (y<0)=true:=decide_eq_true (by have:=HY.out;omega)
       clear aJ
       go_wp2_with fail
       refine (ax _).mono ?_
       rintro _ z ⟨rfl,rfl⟩
       clear d3
       go_wp2_with fail
       go_roundw
       case rel=>exact⟨k+1,(by have:=aj.out;omega),by go_num,ae.out,aP.out,aI.out⟩
       case measure=>have:=aj.out;simp[intOf];omega
   ·have ae:=zh (aM.out ap)
    have d1:(x==0)=false:=by simpa using ap
    have ba:=zh ap
    clear ap
    go_wp2_with fail
    refine (an _).mono ?_
    rintro _ z ⟨rfl,rfl⟩
    go_wp2_with fail
    exact⟨rfl,by rw[ae.out];exact (np ba.out).symm,HU.out⟩
  ·obtain rfl:k=n:=by omega
   have hI:=HI.out
   rw[List.drop_eq_nil_of_le (by rw[HN.out];exact Nat.le_refl _)] at hI
   have ae:Hid (R=(0,0)):=hI.symm
   clear hI
   go_wp2_with fail
   go_end0
   exact⟨by rw[ae.out];rfl,HB.out⟩
end
section
open Go.RowKit Rs At Pg Rp
theorem pr (p q:Addr)(x y n:Int)(w:World)(hc:w.cell? p=some (.int .i64 x))(hz:w.frozen? p=false)(hc2:(w.setCell p (.int .i64 0)).cell? q=some (.int .i64 y))(hz2:(w.setCell p (.int .i64 0)).frozen? q=false) :
  CallsD Tryz.prog 32 #[.pointer (some p),.pointer (some q)] (.panicking [{ v:=.iface 29 (.int .i64 n),recovered:=false }]) w fun e u' w' =>
   e=.returned (.tuple #[])/\u'=.panicking [{ v:=.iface 29 (.int .i64 n),recovered:=true }]/\w'=(w.setCell p (.int .i64 0)).setCell q (.int .i64 n):=by
 refine callsD_of_wpS Tryz.func32 rfl fun c₀ cs hu=>?_
 apply wpS_region
 simp[wpOpsS,go_sem,recoverD,hu,Tryz.ntmps32]
 refine (dt n _).mono ?_
 rintro e w' ⟨rfl,rfl⟩
 simp[go_sem,hc,hz,hc2,hz2,bodyPostS,results,Tryz.results32]
theorem nq (p q:Addr)(x y k n:Int)(w:World)(hc:∀ u,Below w.heap.size w u->u.cell? p=some (.int .i64 x))(hz:∀ u,Below w.heap.size w u->u.frozen? p=false)(hc2:∀ u,Below w.heap.size w u->(u.setCell p (.int .i64 k)).cell? q=some (.int .i64 y))(hz2:∀ u,Below w.heap.size w u->(u.setCell p (.int .i64 k)).frozen? q=false) :
  CallsD Tryz.prog 32 #[.pointer (some p),.pointer (some q)] (.panicking [{ v:=.iface 98 (.agg #[.int .i64 k,.int .i64 n]),recovered:=false }]) w fun e u' w' =>
   e=.returned (.tuple #[])/\u'=.panicking [{ v:=.iface 98 (.agg #[.int .i64 k,.int .i64 n]),recovered:=true }]/\∃ u,Below w.heap.size w u/\w'=(u.setCell p (.int .i64 k)).setCell q (.int .i64 n):=by
 refine callsD_of_wpS Tryz.func32 rfl fun c₀ cs hu=>?_
 apply wpS_region
 simp[wpOpsS,go_sem,recoverD,hu,Tryz.ntmps32]
 refine (bq k n _).mono ?_
 rintro e w' ⟨rfl,hb⟩
 simp[go_sem,hc _ hb,hz _ hb,hc2 _ hb,hz2 _ hb,bodyPostS,results,Tryz.results32]
 exact⟨w',hb,rfl⟩
theorem rT (p q:Addr)(x y:Int)(w:World)(hc:w.cell? p=some (.int .i64 x))(hz:w.frozen? p=false)(hc2:(w.setCell p (.int .i64 0)).cell? q=some (.int .i64 y))(hz2:(w.setCell p (.int .i64 0)).frozen? q=false) :
  CallsD Tryz.prog 32 #[.pointer (some p),.pointer (some q)] .returning w fun e u' w'=>e=.returned (.tuple #[])/\u'=.returning/\w'=(w.setCell p (.int .i64 0)).setCell q (.int .i64 0):=by
 refine callsD_of_wpS Tryz.func32 rfl fun c₀ cs hu=>?_
 apply wpS_region
 simp[wpOpsS,go_sem,recoverD,hu,Tryz.ntmps32]
 refine (bT _).mono ?_
 rintro e w' ⟨rfl,rfl⟩
 cases c₀
 simp_all [go_sem,bodyPostS,results,Tryz.results32]
theorem Rp.rU {l:List Pk}{n:Nat}(hn:l.length=n):(64<n->chkR l=(0,4))/\(¬ 64<n->chkR l=chkF 0 none l):=by
 subst hn
 exact⟨fun h=>if_pos h,fun h=>if_neg h⟩
theorem Rp.kU:∀ (l:List Pk) (i:Nat) (o:Option Pk),(chkF i o l).2=0->(chkF i o l).1=0
 | [],_,_,_=>rfl
 | p :: l,i,o,h=>by
  unfold chkF at h ⊢
  split at h
  ·rename_i hc;exact absurd h hc
  ·rename_i hc
   rw[if_neg hc]
   split at h
   ·exact kU l _ _ h
   ·split at h
    ·exact absurd h (show (6:Int)≠0 by decide)
    ·rename_i h1
     rw[if_neg h1]
     split at h
     ·exact absurd h (show (7:Int)≠0 by decide)
     ·rename_i h2
      rw[if_neg h2]
      exact kU l _ _ h
attribute [local go_sem ↓] Go.wp_at_zero Go.wp_at_succ
theorem pw (A:Option Addr)(n c:Nat)(l:List Pk)(w:World)(hw:MaxOk w)(hn:l.length=n)(hr:RRow w A l)(hf:RFew l) :
  Calls Tryz.prog 11 #[.slice A n c] w fun e w'=>e=.returned (.tuple #[.int .i64 (chkR l).1,.int .i64 (chkR l).2])/\Below w.heap.size w w':=by
 have am:∀ (fn:Fn) (first cap:Array Value) (w:World),(Instr.makeFunc fn first cap).run Tryz.prog w=.ok (.func fn first cap) w:=fun _ _ _ _=>rfl
 obtain⟨X,hX⟩:=ex (chkR l)
 rw[hX]
 obtain⟨x1,x2⟩:=rU hn
 obtain⟨W1,af⟩:=ex (w.alloc (.cells #[.int .i64 0] 3))
 obtain⟨W2,ah⟩:=ex (W1.alloc (.cells #[.int .i64 0] 29))
 have ac:Hid (∀ u,Below W2.heap.size W2 u->Sz.P2 w.heap.size u):=fun u hb=>Sz.mg af ah hb
 have an:W1.heap.size=w.heap.size+1:=by rw[<-af];simp
 have ag:Hid (Below w.heap.size w W2):=(ab af).trans ((ab ah).mono (ab af).size)
 have HQ:=zh (fY A n c l W2 (aa hw ag.out) hn (bH hr ag.out) hf)
 clear hw hn hr hf
 by_cases ae:64<n
 ·have HX:Hid (X=(0,4)):=by show _=_;rw[<-hX];exact x1 ae
  have ad:Hid (Calls Tryz.prog 33 #[.slice A n c] W2 fun e w'=>e=pan 4/\Below W2.heap.size W2 w'):=HQ.out.mono fun _ _ h=>by unfold okR at h;rw[if_pos ae] at h;exact h
  clear hX x1 x2 HQ ae
  go_enter_defers Tryz.func11,Tryz.ntmps11
  go_wp2_with fail
  clear af ah
  refine ad.out.mono ?_
  rintro _ z1 ⟨rfl,hb⟩
  have HB:=zh hb
  clear hb
  obtain⟨c0,f0,c1,f1⟩:=Sz.aD (ac.out _ HB.out)
  obtain⟨d0,g0,d1,g1⟩:=Sz.aE (ac.out _ HB.out) (.int .i64 0)
  obtain⟨q0,q1⟩:=Sz.br (ac.out _ HB.out) (.int .i64 0) (.int .i64 4)
  go_wp2_with fail
  refine leaves_cons (f:=32) (args:=#[.pointer (some ⟨w.heap.size,0,none⟩),.pointer (some ⟨w.heap.size+1,0,none⟩)]) (by simp) (by simp[go_sem]) ?_
  refine (pr ⟨w.heap.size,0,none⟩ ⟨w.heap.size+1,0,none⟩ 0 0 4 _ c0 f0 d1 g1).mono ?_
  rintro e u' w3 ⟨rfl,rfl,rfl⟩
  simp[Leaves,settle,results,Tryz.results11,go_sem,q0,q1]
  exact⟨by rw[HX.out];exact⟨rfl,rfl⟩,((bt ag.out HB.out).setCell (Nat.le_refl _) _).setCell (Nat.le_succ _) _⟩
 obtain⟨k,m⟩:=X
 rw[hX] at x2
 have h2:=x2 ae
 have ad:Hid (Calls Tryz.prog 33 #[.slice A n c] W2 fun e w'=>e=okRp k m/\Below W2.heap.size W2 w'):=HQ.out.mono fun _ _ h=>by unfold okR at h;rw[if_neg ae,<-h2] at h;exact h
 have ak:Hid (m=0->k=0):=fun h=>by have:=kU l 0 none (by rw[<-h2];exact h);rw[<-h2] at this;exact this
 clear hX x1 x2 h2 HQ ae
 go_enter_defers Tryz.func11,Tryz.ntmps11
 go_wp2_with fail
 clear af ah
 refine ad.out.mono ?_
 rintro _ z1 ⟨rfl,hb⟩
 have HB:=zh hb
 clear hb
 by_cases hm:m=0
 ·subst hm
  obtain rfl:=ak.out rfl
  rw[yY]
  obtain⟨c0,f0,c1,f1⟩:=Sz.aD (ac.out _ HB.out)
  obtain⟨d0,g0,d1,g1⟩:=Sz.aE (ac.out _ HB.out) (.int .i64 0)
  have ai:=zh (Sz.fo (ac.out _ HB.out))
  have al:Hid (Below w.heap.size w ((z1.setCell ⟨w.heap.size,0,none⟩ (.int .i64 0)).setCell ⟨w.heap.size+1,0,none⟩ (.int .i64 0))):=((bt ag.out HB.out).setCell (Nat.le_refl _) _).setCell (Nat.le_succ _) _
  go_wp2_with fail
  generalize (z1.setCell ⟨w.heap.size,0,none⟩ (.int .i64 0)).setCell ⟨w.heap.size+1,0,none⟩ (.int .i64 0)=V at *
  obtain⟨k0,m0,k1,m1⟩:=Sz.aD ai.out
  obtain⟨l0,o0,l1,o1⟩:=Sz.aE ai.out (.int .i64 0)
  obtain⟨q0,q1⟩:=Sz.br ai.out (.int .i64 0) (.int .i64 0)
  refine leaves_cons (f:=32) (args:=#[.pointer (some ⟨w.heap.size,0,none⟩),.pointer (some ⟨w.heap.size+1,0,none⟩)]) (by simp) (by simp[go_sem]) ?_
  refine (rT ⟨w.heap.size,0,none⟩ ⟨w.heap.size+1,0,none⟩ 0 0 _ k0 m0 l1 o1).mono ?_
  rintro e u' w3 ⟨rfl,rfl,rfl⟩
  simp[Leaves,settle,results,Tryz.results11,go_sem,q0,q1]
  exact (al.out.setCell (Nat.le_refl _) _).setCell (Nat.le_succ _) _
 ·rw[np hm]
  clear hm
  go_wp2_with fail
  refine leaves_cons (f:=32) (args:=#[.pointer (some ⟨w.heap.size,0,none⟩),.pointer (some ⟨w.heap.size+1,0,none⟩)]) (by simp) (by simp[go_sem]) ?_
  refine (nq ⟨w.heap.size,0,none⟩ ⟨w.heap.size+1,0,none⟩ 0 0 k m _ (fun u hb=>(Sz.aD (ac.out _ (bt HB.out hb))).1) (fun u hb=>(Sz.aD (ac.out _ (bt HB.out hb))).2.1) (fun u hb=>(Sz.aE (ac.out _ (bt HB.out hb)) _).2.2.1) (fun u hb=>(Sz.aE (ac.out _ (bt HB.out hb)) _).2.2.2)).mono ?_
  rintro e u' w3 ⟨rfl,rfl,u,hb,rfl⟩
  have aj:=zh (bt HB.out hb)
  obtain⟨q0,q1⟩:=Sz.br (ac.out _ aj.out) (.int .i64 k) (.int .i64 m)
  simp[Leaves,settle,results,Tryz.results11,go_sem,q0,q1]
  exact ((bt ag.out aj.out).setCell (Nat.le_refl _) _).setCell (Nat.le_succ _) _
end
section
open Go.RowKit Rs At Pg Rp
attribute [local go_sem ↓] Go.wp_at_zero Go.wp_at_succ
attribute [local go_sem] Pg.av
def Rp.samL:List Pk->List Pk->Bool
 | [],[]=>true
 | p :: l,q :: k=>samP p q&&samL l k
 | _,_=>false
theorem Rp.rV:∀ (l k:List Pk),l.length≠k.length->samL l k=false
 | [],[],h=>absurd rfl h
 | _ :: l,_ :: k,h=>by
  rw[samL,rV l k (fun e=>h (by simpa using e)),Bool.and_false]
 | [],_ :: _,_=>rfl
 | _ :: _,[],_=>rfl
theorem Rp.acK {l k:List Pk}{j:Nat}{X:Bool}(h1:j<l.length)(h2:j<k.length)(h:samL (l.drop j) (k.drop j)=X):(samP l[j] k[j]=true->samL (l.drop (j+1)) (k.drop (j+1))=X)/\(samP l[j] k[j]=false->X=false):=by
 rw[List.drop_eq_getElem_cons h1,List.drop_eq_getElem_cons h2,samL] at h
 refine⟨fun e=>?_,fun e=>?_⟩
 ·rw[e,Bool.true_and] at h;exact h
 ·rw[e,Bool.false_and] at h;exact h.symm
theorem wG (A B:Option Addr)(n m c d:Nat)(l k:List Pk)(w:World)(hn:l.length=n)(hm:k.length=m)(hr:RRow w A l)(hq:RRow w B k)(hl:n<=1000000)(hf:RFew l)(hg:RFew k) :
  Calls Tryz.prog 39 #[.slice A n c,.slice B m d,.func (.func 40) #[] #[]] w fun e w'=>e=.returned (.bool (samL l k))/\Below w.heap.size w w':=by
 obtain⟨X,hX⟩:=ex (samL l k)
 rw[hX]
 have HX:=zh hX
 have HR:=zh hr
 have HQ:=zh hq
 have HN:=zh hn
 have HM:=zh hm
 have HF:=zh hf
 have HG:=zh hg
 clear hX hr hq hn hm hf hg
 by_cases hlen:n=m
 ·have hd:((n:Int) != m)=false:=by rw[hlen];simp
  have HL:=zh hlen
  clear hlen
  go_enter Tryz.func39,Tryz.ntmps39
  go_wp2_with fail
  clear hd
  go_loopw [17] (fun i wr=>∃ j:Nat,j<=n/\i=.int .i64 j/\Hid (samL (l.drop j) (k.drop j)=X)/\Hid (Below w.heap.size w wr)) (fun i _=>n-(intOf i).toNat)
  case atStart=>exact⟨0,Nat.zero_le _,rfl,HX.out,Below.refl _ _⟩
  case round =>
   obtain⟨j,hj,rfl,HT,HW⟩:=hrel
   by_cases aL:j<n
   ·have ag:j<m:=by have:=HL.out;omega
    have h1:j<l.length:=by rw[HN.out];exact aL
    have h2:j<k.length:=by rw[HM.out];exact ag
    obtain⟨ad,D,dc,C,cc,G,gc,rfl,pd,pc,pg,hc⟩:=bn HR.out j h1
    obtain⟨ae,D',aC,C',aD,G',aE,rfl,qd,qc,qg,he⟩:=bn HQ.out j h2
    have f1:=nh HF.out j h1
    have g1:=nh HG.out j h2
    obtain⟨ac,af⟩:=acK h1 h2 HT.out
    obtain⟨a,ha⟩:=ex (l[j])
    obtain⟨b,hb⟩:=ex (k[j])
    rw[ha,hb] at ac af
    rw[ha] at pd pc pg f1 hc
    rw[hb] at qd qc qg g1 he
    obtain⟨s,hs⟩:=ex (samP a b)
    rw[hs] at ac af
    have ai:=zh ac
    have aj:=zh af
    obtain⟨c0,c1,c2,c3,c4,c5⟩:=hc _ HW.out
    obtain⟨aO,an⟩:=ex a.name
    obtain⟨aP,ao⟩:=ex a.ver
    obtain⟨aF,ap⟩:=ex a.deps.length
    obtain⟨aG,aq⟩:=ex a.confl.length
    obtain⟨aH,ar⟩:=ex a.prov.length
    obtain⟨aQ,au⟩:=ex a.wt
    rw[an] at c0
    rw[ao] at c1
    rw[ap] at c2
    rw[aq] at c3
    rw[ar] at c4
    rw[au] at c5
    obtain⟨V,hV⟩:=ex (wr.alloc (.cells #[.string ⟨aO.toArray⟩,.string ⟨aP.toArray⟩,.slice D aF dc,.slice C aG cc,.slice G aH gc,.float .f64 aQ] 39))
    have al:Hid (Below w.heap.size w V):=HW.out.trans ((ab hV).mono HW.out.size)
    obtain⟨e0,e1,e2,e3,e4,e5⟩:=he _ al.out
    obtain⟨aR,av⟩:=ex b.name
    obtain⟨aS,aw⟩:=ex b.ver
    obtain⟨aI,ax⟩:=ex b.deps.length
    obtain⟨aJ,ay⟩:=ex b.confl.length
    obtain⟨aK,az⟩:=ex b.prov.length
    obtain⟨aT,aA⟩:=ex b.wt
    rw[av] at e0
    rw[aw] at e1
    rw[ax] at e2
    rw[ay] at e3
    rw[az] at e4
    rw[aA] at e5
    obtain⟨U,hU⟩:=ex (V.alloc (.cells #[.string ⟨aR.toArray⟩,.string ⟨aS.toArray⟩,.slice D' aI aC,.slice C' aJ aD,.slice G' aK aE,.float .f64 aT] 39))
    have aa:Hid (Below w.heap.size w U):=al.out.trans ((ab hU).mono al.out.size)
    obtain⟨u0,u1,u2,u3,u4,u5⟩:=ak hV (ab hU)
    obtain⟨v0,v1,v2,v3,v4,v5⟩:=ak hU (Below.refl _ _)
    have HS:=zh (acJ a D C G aF dc aG cc aH gc b D' C' G' aI aC aJ aD aK aE (aX pd aa.out) ap (aB pc aa.out) aq (Rg.ah pg aa.out) ar f1 (aX qd aa.out) ax (aB qc aa.out) ay (Rg.ah qg aa.out) az g1 an ao au av aw aA hs)
    clear hc he pd pc pg qd qc qg f1 g1 an ao ap aq ar au av aw ax ay az aA hs ha hb ac af h1 h2
    go_wp2_with fail
    clear hV hU
    refine HS.out.mono ?_
    rintro _ u ⟨rfl,hb⟩
    have HU:Hid (Below w.heap.size w u):=bt aa.out hb
    clear hb HS c0 c1 c2 c3 c4 c5 e0 e1 e2 e3 e4 e5 u0 u1 u2 u3 u4 u5 v0 v1 v2 v3 v4 v5
    cases s with
    | true =>
     have aM:=zh (ai.out rfl)
     clear ai aj
     go_wp2_with fail
     go_roundw
     case rel=>exact⟨j+1,by omega,by go_num,aM.out,HU.out⟩
     case measure=>simp[intOf];omega
    | false =>
     have am:=zh (aj.out rfl)
     clear ai aj
     go_wp2_with fail
     go_ret
     exact⟨by rw[am.out];rfl,HU.out⟩
   ·obtain rfl:j=n:=by omega
    have aN:Hid (X=true):=by
     show _=_
     have:=HT.out
     rw[List.drop_eq_nil_of_le (by rw[HN.out];exact Nat.le_refl _),List.drop_eq_nil_of_le (by rw[HM.out,HL.out];exact Nat.le_refl _)] at this
     exact this.symm
    clear HT
    go_wp2_with fail
    go_ret
    exact⟨by rw[aN.out];rfl,HW.out⟩
 ·have hd:((n:Int) != m)=true:=by simp;omega
  have am:Hid (X=false):=by show _=_;rw[<-HX.out];exact rV l k (by rw[HN.out,HM.out];exact hlen)
  go_enter Tryz.func39,Tryz.ntmps39
  go_wp2_with fail
  go_ret
  exact⟨by rw[am.out];rfl,Below.refl _ _⟩
theorem rW (A B:Option Addr)(n m c d:Nat)(l k:List Pk)(w:World)(hn:l.length=n)(hm:k.length=m)(hr:RRow w A l)(hq:RRow w B k)(hl:n<=1000000)(hf:RFew l)(hg:RFew k) :
  Calls Tryz.prog 13 #[.slice A n c,.slice B m d] w fun e w'=>e=.returned (.bool (samL l k))/\Below w.heap.size w w':=by
 have HC:=zh (wG A B n m c d l k w hn hm hr hq hl hf hg)
 clear hn hm hr hq hf hg
 go_enter Tryz.func13,Tryz.ntmps13
 go_wp2_with fail
 refine HC.out.mono ?_
 rintro _ u ⟨rfl,hb⟩
 have HB:=zh hb
 clear hb
 go_wp2_with fail
 go_ret
 exact⟨rfl,HB.out⟩
def Rp.isP (nm v:List UInt8) (p:Pk):Bool:=decide (p.name=nm)&&(Vm.cmpV p.ver v==0)
def Rp.idxF (f:Pk->Bool):Nat->List Pk->Int
 | _,[] => -1
 | i,p :: l=>if f p=true then (i:Int) else idxF f (i+1) l
theorem Rp.adt {f:Pk->Bool}{l:List Pk}{k:Nat}{X:Int}(hk:k<l.length)(h:idxF f k (l.drop k)=X):(f l[k]=true->X=(k:Int))/\(f l[k]=false->idxF f (k+1) (l.drop (k+1))=X):=by
 rw[List.drop_eq_getElem_cons hk,idxF] at h
 refine⟨fun e=>?_,fun e=>?_⟩
 ·rw[if_pos e] at h;exact h.symm
 ·rw[if_neg (by rw[e];decide)] at h;exact h
def Rp.findR (nm v:List UInt8) (l:List Pk):Int × Bool:=if Vm.check v≠0 then (0,false) else if idxF (isP nm v) 0 l<0 then (0,false) else (idxF (isP nm v) 0 l,true)
theorem yZ (p:Pk)(D C G:Option Addr)(dn dc cn cc gn gc b1 b2:Nat)(nm v pn pv:List UInt8)(wt:Nat)(w:World)(hw:MaxOk w)(hv:Vm.check v=0)(hpv:Vm.check pv=0)(e0:p.name=pn)(e1:p.ver=pv)(hx1:w.cell? ⟨b1,0,none⟩=some (.string ⟨nm.toArray⟩))(hx2:w.cell? ⟨b2,0,none⟩=some (.string ⟨v.toArray⟩))(hb1:b1<w.heap.size)(hb2:b2<w.heap.size) :
  Calls Tryz.prog 30 #[.agg #[.string ⟨pn.toArray⟩,.string ⟨pv.toArray⟩,.slice D dn dc,.slice C cn cc,.slice G gn gc,.float .f64 wt],.pointer (some ⟨b1,0,none⟩),.pointer (some ⟨b2,0,none⟩)] w fun e w'=>e=.returned (.bool (isP nm v p))/\Below w.heap.size w w':=by
 obtain⟨R,hR⟩:=ex (isP nm v p)
 rw[hR]
 unfold isP at hR
 rw[e0,e1] at hR
 obtain⟨V,hV⟩:=ex (w.alloc (.cells #[.string ⟨pn.toArray⟩,.string ⟨pv.toArray⟩,.slice D dn dc,.slice C cn cc,.slice G gn gc,.float .f64 wt] 39))
 have HB:Hid (Below w.heap.size w V):=ab hV
 have HC:=zh (gj pv v V (aa hw HB.out) hpv hv)
 have k1:=(HB.out.cell (p:=⟨b1,0,none⟩) hb1).trans hx1
 have k2:=(HB.out.cell (p:=⟨b2,0,none⟩) hb2).trans hx2
 obtain⟨c0,c1,-,-,-,-⟩:=ak hV (Below.refl _ _)
 obtain⟨y,hy⟩:=ex (Vm.cmpV pv v)
 rw[hy] at hR HC
 have HR:=zh hR
 clear hw hv hpv e0 e1 hx1 hx2 hb1 hb2 hy hR
 by_cases e1:pn=nm
 case neg =>
  have d1:(pn==nm)=false:=beq_eq_false_iff_ne.2 e1
  have HF:Hid (R=false):=by show _=_;rw[<-HR.out,decide_eq_false e1];rfl
  clear e1 HC HR
  go_enter Tryz.func30,Tryz.ntmps30
  go_wp2_with fail
  go_ret
  exact⟨by rw[HF.out];rfl,HB.out⟩
 have d1:(pn==nm)=true:=beq_iff_eq.2 e1
 have ac:Hid ((y==0)=R):=by show _=_;rw[<-HR.out,decide_eq_true e1,Bool.true_and]
 clear e1 HR
 go_enter Tryz.func30,Tryz.ntmps30
 go_wp2_with fail
 clear hV c0 c1 k1 k2 d1
 refine HC.out.mono ?_
 rintro _ u ⟨rfl,hb⟩
 have HU:Hid (Below w.heap.size w u):=bt HB.out hb
 clear hb HC
 go_wp2_with fail
 go_ret
 exact⟨by rw[<-ac.out];rfl,HU.out⟩
theorem tT (A:Option Addr)(n c:Nat)(l:List Pk)(b1 b2:Nat)(nm v:List UInt8)(w:World)(hw:MaxOk w)(hn:l.length=n)(hr:RRow w A l)(hl:n<=1000000)(hv:Vm.check v=0)(ho:∀ p∈l,Vm.check p.ver=0)(hx1:w.cell? ⟨b1,0,none⟩=some (.string ⟨nm.toArray⟩))(hx2:w.cell? ⟨b2,0,none⟩=some (.string ⟨v.toArray⟩))(hb1:b1<w.heap.size)(hb2:b2<w.heap.size) :
  Calls Tryz.prog 29 #[.slice A n c,.func (.func 30) #[] #[.pointer (some ⟨b1,0,none⟩),.pointer (some ⟨b2,0,none⟩)]] w fun e w'=>e=.returned (.int .i64 (idxF (isP nm v) 0 l))/\Below w.heap.size w w':=by
 have HR:=zh hr
 have HN:=zh hn
 have HO:=zh ho
 have HC:=zh (fun (p:Pk) (D C G:Option Addr) (dn dc cn cc gn gc:Nat) (pn pv:List UInt8) (wt:Nat) (hpv:Vm.check pv=0) (e0:p.name=pn) (e1:p.ver=pv) (W:World) (h:Below w.heap.size w W)=>yZ p D C G dn dc cn cc gn gc b1 b2 nm v pn pv wt W (aa hw h) hv hpv e0 e1 ((h.cell (p:=⟨b1,0,none⟩) hb1).trans hx1) ((h.cell (p:=⟨b2,0,none⟩) hb2).trans hx2) (Nat.lt_of_lt_of_le hb1 h.size) (Nat.lt_of_lt_of_le hb2 h.size))
 obtain⟨f,hf⟩:∃ f:Pk->Bool,isP nm v=f:=⟨_,rfl⟩
 rw[hf] at HC ⊢
 obtain⟨X,hX⟩:=ex (idxF f 0 l)
 rw[hX]
 have HX:=zh hX
 clear hw hr hn ho hv hx1 hx2 hb1 hb2 hX hf
 go_enter Tryz.func29,Tryz.ntmps29
 go_wp2_with fail
 go_loopw [8] (fun i wr=>∃ k:Nat,k<=n/\i=.int .i64 k/\Hid (idxF f k (l.drop k)=X)/\Hid (Below w.heap.size w wr)) (fun i _=>n-(intOf i).toNat)
 case atStart=>exact⟨0,Nat.zero_le _,rfl,HX.out,Below.refl _ _⟩
 case round =>
  obtain⟨k,hk,rfl,HA,HB⟩:=hrel
  by_cases ap:k<n
  ·have ab:k<l.length:=by rw[HN.out];exact ap
   obtain⟨ad,D,dc,C,cc,G,gc,rfl,-,-,-,hc⟩:=bn HR.out k ab
   obtain⟨c0,c1,c2,c3,c4,c5⟩:=hc _ HB.out
   obtain⟨hy,ag⟩:=adt ab HA.out
   have ae:=HO.out _ (List.getElem_mem ab)
   obtain⟨a,ha⟩:=ex (l[k])
   rw[ha] at c0 c1 c2 c3 c4 c5 hy ag ae
   have HY:=zh hy
   have af:=zh ag
   obtain⟨av,ah⟩:=ex a.name
   obtain⟨aw,ac⟩:=ex a.ver
   obtain⟨ax,ak⟩:=ex a.deps.length
   obtain⟨ay,al⟩:=ex a.confl.length
   obtain⟨az,am⟩:=ex a.prov.length
   obtain⟨aA,an⟩:=ex a.wt
   rw[ah] at c0
   rw[ac] at c1
   rw[ak] at c2
   rw[al] at c3
   rw[am] at c4
   rw[an] at c5
   have ai:=zh (HC.out a D C G ax dc ay cc az gc av aw aA (by rw[<-ac];exact ae) ah ac wr HB.out)
   clear hc hy ag ae ab ha ah ac ak al am an
   go_wp2_with fail
   refine ai.out.mono ?_
   rintro _ w1 ⟨rfl,ao⟩
   have aj:Hid (Below w.heap.size w w1):=bt HB.out ao
   clear ao c0 c1 c2 c3 c4 c5 ai
   cases hp:f a
   ·have aq:=zh (af.out hp)
    clear hp HY af
    go_wp2_with fail
    go_roundw
    case rel=>exact⟨k+1,by omega,by go_num,aq.out,aj.out⟩
    case measure=>simp[intOf];omega
   ·have ar:=zh (HY.out hp)
    clear hp HY af
    go_wp2_with fail
    go_ret
    exact⟨by rw[ar.out];rfl,aj.out⟩
  ·obtain rfl:k=n:=by omega
   have au:Hid (X = -1):=by
    show _=_
    have:=HA.out
    rw[List.drop_eq_nil_of_le (by rw[HN.out];exact Nat.le_refl _)] at this
    exact this.symm
   go_wp2_with fail
   go_ret
   exact⟨by rw[au.out];rfl,HB.out⟩
theorem jF (A:Option Addr)(n c:Nat)(l:List Pk)(nm v:List UInt8)(w:World)(hw:MaxOk w)(hn:l.length=n)(hr:RRow w A l)(hl:n<=1000000)(ho:∀ p∈l,Vm.check p.ver=0) :
  Calls Tryz.prog 10 #[.slice A n c,.string ⟨nm.toArray⟩,.string ⟨v.toArray⟩] w fun e w'=>e=.returned (.tuple #[.int .i64 (findR nm v l).1,.bool (findR nm v l).2])/\Below w.heap.size w w':=by
 have al:∀ (fn:Fn) (first cap:Array Value) (w:World),(Instr.makeFunc fn first cap).run Tryz.prog w=.ok (.func fn first cap) w:=fun _ _ _ _=>rfl
 obtain⟨V,hV⟩:=ex (w.alloc (.cells #[.string ⟨nm.toArray⟩] 9))
 obtain⟨U,hU⟩:=ex (V.alloc (.cells #[.string ⟨v.toArray⟩] 9))
 obtain⟨b1,ai⟩:=ex w.heap.size
 obtain⟨b2,aj⟩:=ex V.heap.size
 have ae:Below V.heap.size V U:=ab hU
 have HB:Hid (Below w.heap.size w U):=(ab hV).trans (ae.mono (ab hV).size)
 have l1:b1<V.heap.size:=by rw[<-hV,<-ai];simp
 have l2:b2<U.heap.size:=by rw[<-hU,<-aj];simp
 have k1:U.cell? ⟨b1,0,none⟩=some (.string ⟨nm.toArray⟩):=(ae.cell (p:=⟨b1,0,none⟩) l1).trans (by rw[<-hV,<-ai];simp[go_sem])
 have k2:U.cell? ⟨b2,0,none⟩=some (.string ⟨v.toArray⟩):=by rw[<-hU,<-aj];simp[go_sem]
 have HC:=zh (xp v U (aa hw HB.out))
 have HI:=zh (fun (W:World) (hv:Vm.check v=0) (h:Below U.heap.size U W)=>tT A n c l b1 b2 nm v W (aa hw (bt HB.out h)) hn (bH hr (bt HB.out h)) hl hv ho ((h.cell (p:=⟨b1,0,none⟩) (Nat.lt_of_lt_of_le l1 ae.size)).trans k1) ((h.cell (p:=⟨b2,0,none⟩) l2).trans k2) (Nat.lt_of_lt_of_le (Nat.lt_of_lt_of_le l1 ae.size) h.size) (Nat.lt_of_lt_of_le l2 h.size))
 obtain⟨R,hR⟩:=ex (findR nm v l)
 rw[hR]
 unfold findR at hR
 obtain⟨x,hx⟩:=ex (Vm.check v)
 obtain⟨i,hi⟩:=ex (idxF (isP nm v) 0 l)
 rw[hx] at HC hR HI
 rw[hi] at HI hR
 have HR:=zh hR
 clear hw hn hr ho l1 l2 k1 ae hx hi hR
 go_enter Tryz.func10,Tryz.ntmps10
 go_wp2_with fail
 clear hV hU ai aj k2
 refine HC.out.mono ?_
 rintro _ u ⟨rfl,hb⟩
 have HU:Hid (Below U.heap.size U u):=hb
 clear hb HC
 by_cases ac:x=0
 ·have d1:(x != 0)=false:=by simpa using ac
  have ak:=zh (HI.out u ac HU.out)
  have ag:Hid ((if i<0 then ((0:Int),false) else (i,true))=R):=by show _=_;rw[<-HR.out,if_neg (show ¬ x≠0 from fun e=>e ac)]
  clear HI HR ac
  go_wp2_with fail
  refine ak.out.mono ?_
  rintro _ u2 ⟨rfl,hb⟩
  have ah:Hid (Below w.heap.size w u2):=HB.out.trans ((bt HU.out hb).mono HB.out.size)
  clear hb ak d1
  by_cases ad:i<0
  ·have d2:decide (i<0)=true:=decide_eq_true ad
   have af:Hid (R=(0,false)):=by show _=_;rw[<-ag.out,if_pos ad]
   clear ad ag
   go_wp2_with fail
   go_ret2
   exact⟨by rw[af.out];rfl,ah.out⟩
  ·have d2:decide (i<0)=false:=decide_eq_false ad
   have af:Hid (R=(i,true)):=by show _=_;rw[<-ag.out,if_neg ad]
   clear ad ag
   go_wp2_with fail
   go_ret2
   exact⟨by rw[af.out];rfl,ah.out⟩
 ·have d1:(x != 0)=true:=by simpa using ac
  have ah:Hid (Below w.heap.size w u):=bt HB.out HU.out
  have af:Hid (R=(0,false)):=by show _=_;rw[<-HR.out,if_pos ac]
  clear HI HR ac
  go_wp2_with fail
  go_ret2
  exact⟨by rw[af.out];rfl,ah.out⟩
end
end Go.Proofs.YtkoaljpfoekgkaaGreatDoor
