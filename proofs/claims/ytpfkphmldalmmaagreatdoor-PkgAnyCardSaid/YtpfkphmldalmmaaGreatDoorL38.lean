/- Part 38 of what the laws lean on. -/
import Derived.Test.YtpfkphmldalmmaaGreatDoorL37
import Derived.Stop.LaidErr
import Derived.LaidMore
set_option maxRecDepth 100000
set_option maxHeartbeats 32000000
namespace Go.Proofs.YtpfkphmldalmmaaGreatDoor
section
open Go.RowKit Rs At Pg
attribute [local go_sem ↓] Go.wp_at_zero Go.wp_at_succ
attribute [local go_sem] Pg.bd
namespace Pg
theorem j4 {c:Prop} [Decidable c] {k v:List UInt8}{f:Sz.Fld}(h:f∈optF c k v):¬ c/\f=⟨k,v,0⟩:=by
 unfold optF at h
 split at h
 ·cases h
 ·rename_i hc;exact⟨hc,by simpa using h⟩
theorem lI {k v:List UInt8}(h1:k≠kDep)(h2:k≠kCon)(h3:k≠kPro)(hv:v.length<=1000):ValFit k v:=⟨fun e=>absurd e h1,fun e=>absurd e h2,fun e=>absurd e h3,fun _ _ _=>hv⟩
theorem aee {d:List Atm}(h:atomsE d=0)(h1:1<=d.length)(h8:d.length<=8):Fit orT (depT d):=by
 refine⟨Nat.le_trans (lZ h h8) (by decide),fun q hq=>?_⟩
 have e:Lib.split (depT d) orT=d.map textA:=dF (by decide) _ (fun e=>by
  have:=congrArg List.length e
  rw[List.length_map] at this
  simp at this
  rw[this] at h1
  simp at h1) (fun x hx=>by
  obtain⟨a,ha,rfl⟩:=List.mem_map.1 hx
  exact aaN (lG (a9 h a ha)).1)
 rw[e] at hq
 exact jW h q hq
theorem aaU {l:List Atm}(h:atomsE l=0)(h0:l≠[])(h1:(Lib.join (l.map textA) semi).length<=200000):Fit semi (Lib.join (l.map textA) semi):=by
 refine⟨h1,fun q hq=>?_⟩
 have e:Lib.split (Lib.join (l.map textA) semi) semi=l.map textA:=dF (by decide) _ (fun e=>h0 (List.map_eq_nil_iff.1 e)) (fun x hx=>by
  obtain⟨a,ha,rfl⟩:=List.mem_map.1 hx
  exact fZ (lG (a9 h a ha)).2)
 rw[e] at hq
 exact jW h q hq
theorem aaV {l:List Gv}(h:givesE l=0)(h0:l≠[])(h1:(Lib.join (l.map gvT) semi).length<=200000):Fit semi (Lib.join (l.map gvT) semi):=by
 refine⟨h1,fun q hq=>?_⟩
 have e:Lib.split (Lib.join (l.map gvT) semi) semi=l.map gvT:=dF (by decide) _ (fun e=>h0 (List.map_eq_nil_iff.1 e)) (fun x hx=>by
  obtain⟨a,ha,rfl⟩:=List.mem_map.1 hx
  exact fZ (re (bI h a ha)))
 rw[e] at hq
 obtain⟨a,ha,rfl⟩:=List.mem_map.1 hq
 exact Nat.le_trans (l8 (bI h a ha)).2.2 (by decide)
theorem uG {p:Pk}(h:checkP p=0)(hw:p.wt<Wm.W):∀ f∈toPk p,f.key.length<=9/\f.val.length<=200000/\ValFit f.key f.val:=by
 obtain⟨h1,h2,h3,h4,h5,h6,h7,h8,h9⟩:=dC h
 intro f hf
 rw[lH] at hf
 simp only[List.mem_cons,List.mem_append,List.not_mem_nil,or_false] at hf
 rcases hf with rfl | rfl | hf | hf | hf | hf
 ·have:=cU h1
  show kPkg.length<=9/\p.name.length<=200000/\ValFit kPkg p.name
  exact⟨by decide,by omega,lI (by decide) (by decide) (by decide) (by omega)⟩
 ·have:=(Vm.bU (dD h2).1).1
  show kVer.length<=9/\p.ver.length<=200000/\ValFit kVer p.ver
  exact⟨by decide,by omega,lI (by decide) (by decide) (by decide) (by omega)⟩
 ·obtain⟨hc,rfl⟩:=j4 hf
  have hl:(depsT p).length<=200000:=Nat.le_trans (uo h4 h3) (by decide)
  show kDep.length<=9/\(depsT p).length<=200000/\ValFit kDep (depsT p)
  refine⟨by decide,hl,fun _=>⟨hl,fun q hq=>?_⟩,fun e=>absurd e (by decide),fun e=>absurd e (by decide),fun e=>absurd rfl e⟩
  have e:Lib.split (depsT p) semi=p.deps.map depT:=dF (by decide) _ (fun e=>hc (List.map_eq_nil_iff.1 e)) (fun x hx=>by
   obtain⟨a,ha,rfl⟩:=List.mem_map.1 hx
   exact fZ (qZ (bC h4 a ha).2.2))
  have aa:q∈Lib.split (depsT p) semi:=hq
  rw[e] at aa
  obtain⟨d,hd,rfl⟩:=List.mem_map.1 aa
  obtain⟨q1,q2,q3⟩:=bC h4 d hd
  exact aee q3 q1 q2
 ·obtain⟨hc,rfl⟩:=j4 hf
  have hl:(conflT p).length<=200000:=Nat.le_trans (qV h6 h5) (by decide)
  show kCon.length<=9/\(conflT p).length<=200000/\ValFit kCon (conflT p)
  exact⟨by decide,hl,fun e=>absurd e (by decide),fun _=>aaU h6 hc hl,fun e=>absurd e (by decide),fun _ e=>absurd rfl e⟩
 ·obtain⟨hc,rfl⟩:=j4 hf
  have hl:(provT p).length<=200000:=Nat.le_trans (uq h8 h7) (by decide)
  show kPro.length<=9/\(provT p).length<=200000/\ValFit kPro (provT p)
  exact⟨by decide,hl,fun e=>absurd e (by decide),fun e=>absurd e (by decide),fun _=>aaV h8 hc hl,fun _ _ e=>absurd rfl e⟩
 ·obtain⟨hc,rfl⟩:=j4 hf
  have:=aat p.wt hw
  show kWei.length<=9/\(Wm.textW p.wt).length<=200000/\ValFit kWei (Wm.textW p.wt)
  exact⟨by decide,by omega,lI (by decide) (by decide) (by decide) (by omega)⟩
theorem acK {p:Pk}(h:checkP p=0)(hw:p.wt<Wm.W):Sz.Short (toPk p):=fun f hf=>⟨Nat.le_trans (uG h hw f hf).1 (by decide),Nat.le_trans (uG h hw f hf).2.1 (by decide)⟩
theorem uH {u:World}(p:Pk)(D C G:Option Addr)(dc cc gc:Nat)(hd:Pg.DRow u D p.deps)(hc:ARow u C p.confl)(hg:GRow u G p.prov)(hf:PSmall p){nm vr:List UInt8}{dn cn gn wt:Nat}(e0:p.name=nm)(e1:p.ver=vr)(e2:p.deps.length=dn)(e3:p.confl.length=cn)(e4:p.prov.length=gn)(e5:p.wt=wt) :
  Calls Tryz.prog 6 #[.agg #[.string ⟨nm.toArray⟩,.string ⟨vr.toArray⟩,.slice D dn dc,.slice C cn cc,.slice G gn gc,.float .f64 wt]] u fun e w'=>∃ D' dc' C' cc' G' gc',e=.returned (.agg #[.string ⟨nm.toArray⟩,.string ⟨vr.toArray⟩,.slice D' dn dc',.slice C' cn cc',.slice G' gn gc',.float .f64 wt])/\Pg.DRow w' D' p.deps/\ARow w' C' p.confl/\GRow w' G' p.prov/\Below u.heap.size u w':=by
 subst e0 e1 e5
 exact ad8 p D C G dn dc cn cc gn gc u hd e2 hc e3 hg e4 hf
theorem aaW {u:World}(hw:MaxOk u)(p:Pk)(D C G:Option Addr)(dc cc gc:Nat)(hd:Pg.DRow u D p.deps)(hc:ARow u C p.confl)(hg:GRow u G p.prov)(hf:PWide p){b:Bool}(hb:fewP p=b){nm vr:List UInt8}{dn cn gn wt:Nat}(e0:p.name=nm)(e1:p.ver=vr)(e2:p.deps.length=dn)(e3:p.confl.length=cn)(e4:p.prov.length=gn)(e5:p.wt=wt) :
  Calls Tryz.prog 5 #[.agg #[.string ⟨nm.toArray⟩,.string ⟨vr.toArray⟩,.slice D dn dc,.slice C cn cc,.slice G gn gc,.float .f64 wt]] u fun e w'=>e=.returned (.bool b)/\Below u.heap.size u w':=by
 subst e0 e1 e5 hb
 exact ack p D C G dn dc cn cc gn gc u hw hd e2 hc e3 hg e4 hf
theorem aaX {u:World}(hw:MaxOk u)(p:Pk)(D C G:Option Addr)(dc cc gc:Nat)(hd:Pg.DRow u D p.deps)(hc:ARow u C p.confl)(hg:GRow u G p.prov)(hf:PFew p){k:Int}(hk:checkP p=k){nm vr:List UInt8}{dn cn gn wt:Nat}(e0:p.name=nm)(e1:p.ver=vr)(e2:p.deps.length=dn)(e3:p.confl.length=cn)(e4:p.prov.length=gn)(e5:p.wt=wt) :
  Calls Tryz.prog 8 #[.agg #[.string ⟨nm.toArray⟩,.string ⟨vr.toArray⟩,.slice D dn dc,.slice C cn cc,.slice G gn gc,.float .f64 wt]] u fun e w'=>e=.returned (.int .i64 k)/\Below u.heap.size u w':=by
 subst e0 e1 e5 hk
 exact o8 p D C G dn dc cn cc gn gc u hw hd e2 hc e3 hg e4 hf
theorem aeK {u:World}(hw:MaxOk u)(p:Pk)(D C G:Option Addr)(dc cc gc:Nat)(hd:Pg.DRow u D p.deps)(hc:ARow u C p.confl)(hg:GRow u G p.prov)(hok:checkP p=0)(hwt:p.wt<Wm.W){nm vr:List UInt8}{dn cn gn wt:Nat}(e0:p.name=nm)(e1:p.ver=vr)(e2:p.deps.length=dn)(e3:p.confl.length=cn)(e4:p.prov.length=gn)(e5:p.wt=wt){n:Nat}(hn:(toPk p).length=n) :
  Calls Tryz.prog 15 #[.agg #[.string ⟨nm.toArray⟩,.string ⟨vr.toArray⟩,.slice D dn dc,.slice C cn cc,.slice G gn gc,.float .f64 wt]] u fun e w'=>∃ A c,e=.returned (.slice A n c)/\Rg.Row Sz.encF 3 w' A (toPk p)/\Below u.heap.size u w':=by
 subst e0 e1 e5
 refine (aaT p D C G dn dc cn cc gn gc u hw hd e2 hc e3 hg e4 hok hwt).mono ?_
 rintro e w' ⟨A,m,c,rfl,hm,hr,hb⟩
 rw[hn] at hm
 subst hm
 exact⟨A,c,rfl,hr,hb⟩
theorem aaY {u:World}(p q:Pk)(D C G D' C' G':Option Addr)(dc cc gc dc' cc' gc':Nat)(hd:Pg.DRow u D p.deps)(hc:ARow u C p.confl)(hg:GRow u G p.prov)(hd':Pg.DRow u D' q.deps)(hc':ARow u C' q.confl)(hg':GRow u G' q.prov)(hf:PFew p/\PSmall p)(hf':PFew q/\PSmall q){nm vr:List UInt8}{dn cn gn wt:Nat}(e0:p.name=nm)(e1:p.ver=vr)(e2:p.deps.length=dn)(e3:p.confl.length=cn)(e4:p.prov.length=gn)(e5:p.wt=wt){nm' vr':List UInt8}{dn' cn' gn' wt':Nat}(i0:q.name=nm')(i1:q.ver=vr')(i2:q.deps.length=dn')(i3:q.confl.length=cn')(i4:q.prov.length=gn')(i5:q.wt=wt'){b:Bool}(hb:samP p q=b) :
  Calls Tryz.prog 10 #[.agg #[.string ⟨nm.toArray⟩,.string ⟨vr.toArray⟩,.slice D dn dc,.slice C cn cc,.slice G gn gc,.float .f64 wt],.agg #[.string ⟨nm'.toArray⟩,.string ⟨vr'.toArray⟩,.slice D' dn' dc',.slice C' cn' cc',.slice G' gn' gc',.float .f64 wt']] u fun e w'=>e=.returned (.bool b)/\Below u.heap.size u w':=by
 subst e0 e1 e5 i0 i1 i5 hb
 obtain⟨m1,m2,m3,m4⟩:=ns hf.2
 obtain⟨k1,k2,k3,k4⟩:=ns hf'.2
 exact ja p q D C G D' C' G' dn dc cn cc gn gc dn' dc' cn' cc' gn' gc' u hd e2 hc e3 hg e4 hf.1 hd' i2 hc' i3 hg' i4 hf'.1 ⟨by omega,by omega,by omega,by omega,m4,k4⟩
end Pg
theorem rK (p q:Pk)(D C G:Option Addr)(dn dc0 cn cc0 gn gc0:Nat)(D2 C2 G2:Option Addr)(dn2 dc1 cn2 cc1 gn2 gc1:Nat)(w:World)(hk:KOk w)(hd:Pg.DRow w D p.deps)(hdn:p.deps.length=dn)(hc:ARow w C p.confl)(hcn:p.confl.length=cn)(hg:GRow w G p.prov)(hgn:p.prov.length=gn)(hf:PWide p)(hd2:Pg.DRow w D2 q.deps)(hdn2:q.deps.length=dn2)(hc2:ARow w C2 q.confl)(hcn2:q.confl.length=cn2)(hg2:GRow w G2 q.prov)(hgn2:q.prov.length=gn2)(hf2:PWide q) :
  Calls Tryz.prog 3 #[.agg #[.string ⟨p.name.toArray⟩,.string ⟨p.ver.toArray⟩,.slice D dn dc0,.slice C cn cc0,.slice G gn gc0,.float .f64 p.wt],.agg #[.string ⟨q.name.toArray⟩,.string ⟨q.ver.toArray⟩,.slice D2 dn2 dc1,.slice C2 cn2 cc1,.slice G2 gn2 gc1,.float .f64 q.wt]] w fun e w'=>e=.returned (.bool true)/\Below w.heap.size w w':=by
 obtain⟨nm,h0⟩:=ex p.name
 obtain⟨vr,h1⟩:=ex p.ver
 obtain⟨wt,h5⟩:=ex p.wt
 obtain⟨ap,i0⟩:=ex q.name
 obtain⟨aq,i1⟩:=ex q.ver
 obtain⟨ar,i5⟩:=ex q.wt
 rw[h0,h1,h5,i0,i1,i5]
 obtain⟨W1,a2⟩:=ex (w.alloc (.cells #[.string ⟨nm.toArray⟩,.string ⟨vr.toArray⟩,.slice D dn dc0,.slice C cn cc0,.slice G gn gc0,.float .f64 wt] 27))
 obtain⟨W2,a3⟩:=ex (W1.alloc (.cells #[.string ⟨ap.toArray⟩,.string ⟨aq.toArray⟩,.slice D2 dn2 dc1,.slice C2 cn2 cc1,.slice G2 gn2 gc1,.float .f64 ar] 27))
 have a6:=ai a2
 have aN:=ai a3
 have HB:Hid (Below w.heap.size w W2):=bt a6 aN
 have ad:Hid (∀ u,Below W2.heap.size W2 u->Below w.heap.size w u):=fun u h=>bt HB.out h
 obtain⟨b,hb⟩:=ex w.heap.size
 obtain⟨b1,bc⟩:=ex W1.heap.size
 have aI:Hid (∀ u,Below W2.heap.size W2 u->(u.cell? ⟨b,0,none⟩=some (.string ⟨nm.toArray⟩)/\u.cell? ⟨b,1,none⟩=some (.string ⟨vr.toArray⟩)/\u.cell? ⟨b,2,none⟩=some (.slice D dn dc0)/\u.cell? ⟨b,3,none⟩=some (.slice C cn cc0)/\u.cell? ⟨b,4,none⟩=some (.slice G gn gc0)/\u.cell? ⟨b,5,none⟩=some (.float .f64 wt))/\(u.cell? ⟨b1,0,none⟩=some (.string ⟨ap.toArray⟩)/\u.cell? ⟨b1,1,none⟩=some (.string ⟨aq.toArray⟩)/\u.cell? ⟨b1,2,none⟩=some (.slice D2 dn2 dc1)/\u.cell? ⟨b1,3,none⟩=some (.slice C2 cn2 cc1)/\u.cell? ⟨b1,4,none⟩=some (.slice G2 gn2 gc1)/\u.cell? ⟨b1,5,none⟩=some (.float .f64 ar))):=fun u h=>by
  rw[<-hb,<-bc]
  exact⟨az a2 (bt aN h),az a3 h⟩
 have HK:Hid (∀ u,Below W2.heap.size W2 u->KOk u):=fun u h=>aX hk (ad.out u h)
 have ab:Hid (∀ u,Below W2.heap.size W2 u->Pg.DRow u D p.deps/\ARow u C p.confl/\GRow u G p.prov):=fun u h=>⟨drowD_below hd (ad.out u h),au hc (ad.out u h),Rg.ak hg (ad.out u h)⟩
 have af:Hid (∀ u,Below W2.heap.size W2 u->Pg.DRow u D2 q.deps/\ARow u C2 q.confl/\GRow u G2 q.prov):=fun u h=>⟨drowD_below hd2 (ad.out u h),au hc2 (ad.out u h),Rg.ak hg2 (ad.out u h)⟩
 have H0:=zh h0
 have H1:=zh h1
 have H2:=zh hdn
 have H3:=zh hcn
 have H4:=zh hgn
 have H5:=zh h5
 have J0:=zh i0
 have J1:=zh i1
 have J2:=zh hdn2
 have J3:=zh hcn2
 have J4:=zh hgn2
 have J5:=zh i5
 have aO:=zh hf
 have a7:=zh hf2
 obtain⟨fp,bd⟩:=ex (fewP p)
 obtain⟨fq,be⟩:=ex (fewP q)
 obtain⟨K,hK⟩:=ex (checkP p)
 obtain⟨sm,bf⟩:=ex (samP p q)
 have aF:=zh bd
 have aG:=zh be
 have av:=zh hK
 have aH:=zh bf
 clear hk hd hdn hc hcn hg hgn hf hd2 hdn2 hc2 hcn2 hg2 hgn2 hf2 h0 h1 h5 i0 i1 i5 a6 aN bd be hK bf
 go_enter Tryz.func3,Tryz.ntmps3
 go_wp2_with fail
 clear a2 a3 hb bc
 refine (yE _ (HK.out _ (Below.refl _ _))).mono ?_
 rintro _ u1 ⟨rfl,hb⟩
 have ay:=zh hb
 clear hb
 obtain⟨⟨c0,c1,c2,c3,c4,c5⟩,-⟩:=aI.out _ ay.out
 go_wp2_with fail
 refine (aaW (HK.out _ ay.out).1 p D C G dc0 cc0 gc0 (ab.out _ ay.out).1 (ab.out _ ay.out).2.1 (ab.out _ ay.out).2.2 aO.out aF.out H0.out H1.out H2.out H3.out H4.out H5.out).mono ?_
 rintro _ u2 ⟨rfl,hb⟩
 have aw:=zh (bt ay.out hb)
 clear hb c0 c1 c2 c3 c4 c5
 cases fp
 ·go_wp2_with fail
  go_ret
  exact⟨rfl,ad.out _ aw.out⟩
 obtain⟨-,c0,c1,c2,c3,c4,c5⟩:=aI.out _ aw.out
 go_wp2_with fail
 refine (aaW (HK.out _ aw.out).1 q D2 C2 G2 dc1 cc1 gc1 (af.out _ aw.out).1 (af.out _ aw.out).2.1 (af.out _ aw.out).2.2 a7.out aG.out J0.out J1.out J2.out J3.out J4.out J5.out).mono ?_
 rintro _ u3 ⟨rfl,hb⟩
 have aA:=zh (bt aw.out hb)
 clear hb c0 c1 c2 c3 c4 c5
 cases fq
 ·go_wp2_with fail
  go_ret
  exact⟨rfl,ad.out _ aA.out⟩
 have ao:=zh (uA aF.out aO.out.2.2.2.2.2.2.2.2)
 have aP:=zh (uA aG.out a7.out.2.2.2.2.2.2.2.2)
 obtain⟨⟨c0,c1,c2,c3,c4,c5⟩,-⟩:=aI.out _ aA.out
 go_wp2_with fail
 refine (uH p D C G dc0 cc0 gc0 (ab.out _ aA.out).1 (ab.out _ aA.out).2.1 (ab.out _ aA.out).2.2 ao.out.2 H0.out H1.out H2.out H3.out H4.out H5.out).mono ?_
 rintro _ u4 ⟨DX,al,CX,am,GX,an,rfl,hd,hc,hg,hb⟩
 have bi:=zh (bt aA.out hb)
 obtain⟨bx,bg⟩:=ex u4.heap.size
 obtain⟨V5,a4⟩:=ex (u4.alloc (.cells #[.string ⟨nm.toArray⟩,.string ⟨vr.toArray⟩,.slice DX dn al,.slice CX cn am,.slice GX gn an,.float .f64 wt] 34))
 have ae:=ai a4
 have bj:=zh (bt bi.out ae)
 have ag:Hid (∀ u,Below V5.heap.size V5 u->Pg.DRow u DX p.deps/\ARow u CX p.confl/\GRow u GX p.prov):=fun u h=>⟨drowD_below (drowD_below hd ae) h,au (au hc ae) h,Rg.ak (Rg.ak hg ae) h⟩
 have aa:Hid (∀ u,Below V5.heap.size V5 u->Below W2.heap.size W2 u):=fun u h=>bt bj.out h
 have bk:Hid (∀ u,Below V5.heap.size V5 u->u.cell? ⟨bx,0,none⟩=some (.string ⟨nm.toArray⟩)/\u.cell? ⟨bx,1,none⟩=some (.string ⟨vr.toArray⟩)/\u.cell? ⟨bx,2,none⟩=some (.slice DX dn al)/\u.cell? ⟨bx,3,none⟩=some (.slice CX cn am)/\u.cell? ⟨bx,4,none⟩=some (.slice GX gn an)/\u.cell? ⟨bx,5,none⟩=some (.float .f64 wt)):=fun u h=>by
  rw[<-bg]
  exact az a4 h
 have ah:Hid (∀ u,Below V5.heap.size V5 u->(u.cell? ⟨bx,0,none⟩=some (.string ⟨nm.toArray⟩)/\u.cell? ⟨bx,1,none⟩=some (.string ⟨vr.toArray⟩)/\u.cell? ⟨bx,2,none⟩=some (.slice DX dn al)/\u.cell? ⟨bx,3,none⟩=some (.slice CX cn am)/\u.cell? ⟨bx,4,none⟩=some (.slice GX gn an)/\u.cell? ⟨bx,5,none⟩=some (.float .f64 wt))/\(u.cell? ⟨b,0,none⟩=some (.string ⟨nm.toArray⟩)/\u.cell? ⟨b,1,none⟩=some (.string ⟨vr.toArray⟩)/\u.cell? ⟨b,2,none⟩=some (.slice D dn dc0)/\u.cell? ⟨b,3,none⟩=some (.slice C cn cc0)/\u.cell? ⟨b,4,none⟩=some (.slice G gn gc0)/\u.cell? ⟨b,5,none⟩=some (.float .f64 wt))/\(u.cell? ⟨b1,0,none⟩=some (.string ⟨ap.toArray⟩)/\u.cell? ⟨b1,1,none⟩=some (.string ⟨aq.toArray⟩)/\u.cell? ⟨b1,2,none⟩=some (.slice D2 dn2 dc1)/\u.cell? ⟨b1,3,none⟩=some (.slice C2 cn2 cc1)/\u.cell? ⟨b1,4,none⟩=some (.slice G2 gn2 gc1)/\u.cell? ⟨b1,5,none⟩=some (.float .f64 ar))):=fun u h=>⟨bk.out u h,aI.out u (aa.out u h)⟩
 have aQ:Hid (Below V5.heap.size V5 V5.drew):=(Below.refl _ _).drew
 have F1:Hid (∀ u,Below V5.heap.size V5 u->Calls Tryz.prog 7 #[.agg #[.string ⟨nm.toArray⟩,.string ⟨vr.toArray⟩,.slice DX dn al,.slice CX cn am,.slice GX gn an,.float .f64 wt]] u fun e w'=>e=.returned (.int .i64 K)/\Below u.heap.size u w'):=fun u h=>uu (HK.out u (aa.out u h)).1 p DX CX GX dn al cn am gn an (ag.out u h).1 H2.out (ag.out u h).2.1 H3.out (ag.out u h).2.2 H4.out ao.out.1 H0.out H1.out H5.out av.out
 have F2:Hid (∀ u,Below V5.heap.size V5 u->Calls Tryz.prog 8 #[.agg #[.string ⟨nm.toArray⟩,.string ⟨vr.toArray⟩,.slice D dn dc0,.slice C cn cc0,.slice G gn gc0,.float .f64 wt]] u fun e w'=>e=.returned (.int .i64 K)/\Below u.heap.size u w'):=fun u h=>aaX (HK.out u (aa.out u h)).1 p D C G dc0 cc0 gc0 (ab.out u (aa.out u h)).1 (ab.out u (aa.out u h)).2.1 (ab.out u (aa.out u h)).2.2 ao.out.1 av.out H0.out H1.out H2.out H3.out H4.out H5.out
 have F3:Hid (∀ u,Below V5.heap.size V5 u->Calls Tryz.prog 6 #[.agg #[.string ⟨ap.toArray⟩,.string ⟨aq.toArray⟩,.slice D2 dn2 dc1,.slice C2 cn2 cc1,.slice G2 gn2 gc1,.float .f64 ar]] u fun e w'=>∃ D' dc' C' cc' G' gc',e=.returned (.agg #[.string ⟨ap.toArray⟩,.string ⟨aq.toArray⟩,.slice D' dn2 dc',.slice C' cn2 cc',.slice G' gn2 gc',.float .f64 ar])/\Pg.DRow w' D' q.deps/\ARow w' C' q.confl/\GRow w' G' q.prov/\Below u.heap.size u w'):=fun u h=>uH q D2 C2 G2 dc1 cc1 gc1 (af.out u (aa.out u h)).1 (af.out u (aa.out u h)).2.1 (af.out u (aa.out u h)).2.2 aP.out.2 J0.out J1.out J2.out J3.out J4.out J5.out
 have F4:Hid (∀ u D' C' G' dc' cc' gc',Below V5.heap.size V5 u->Pg.DRow u D' q.deps->ARow u C' q.confl->GRow u G' q.prov->Calls Tryz.prog 9 #[.agg #[.string ⟨nm.toArray⟩,.string ⟨vr.toArray⟩,.slice DX dn al,.slice CX cn am,.slice GX gn an,.float .f64 wt],.agg #[.string ⟨ap.toArray⟩,.string ⟨aq.toArray⟩,.slice D' dn2 dc',.slice C' cn2 cc',.slice G' gn2 gc',.float .f64 ar]] u fun e w'=>e=.returned (.bool sm)/\Below u.heap.size u w'):=fun u D' C' G' dc' cc' gc' h q1 q2 q3=>xq p DX CX GX dn al cn am gn an q D' C' G' dn2 dc' cn2 cc' gn2 gc' (ag.out u h).1 H2.out (ag.out u h).2.1 H3.out (ag.out u h).2.2 H4.out ao.out.1 q1 J2.out q2 J3.out q3 J4.out aP.out.1 H0.out H1.out H5.out J0.out J1.out J5.out aH.out
 have F5:Hid (∀ u,Below V5.heap.size V5 u->Calls Tryz.prog 10 #[.agg #[.string ⟨nm.toArray⟩,.string ⟨vr.toArray⟩,.slice D dn dc0,.slice C cn cc0,.slice G gn gc0,.float .f64 wt],.agg #[.string ⟨ap.toArray⟩,.string ⟨aq.toArray⟩,.slice D2 dn2 dc1,.slice C2 cn2 cc1,.slice G2 gn2 gc1,.float .f64 ar]] u fun e w'=>e=.returned (.bool sm)/\Below u.heap.size u w'):=fun u h=>aaY p q D C G D2 C2 G2 dc0 cc0 gc0 dc1 cc1 gc1 (ab.out u (aa.out u h)).1 (ab.out u (aa.out u h)).2.1 (ab.out u (aa.out u h)).2.2 (af.out u (aa.out u h)).1 (af.out u (aa.out u h)).2.1 (af.out u (aa.out u h)).2.2 ao.out aP.out H0.out H1.out H2.out H3.out H4.out H5.out J0.out J1.out J2.out J3.out J4.out J5.out aH.out
 have d5:(K != K)=false:=by simp
 have d6:(sm != sm)=false:=by simp
 clear hd hc hg hb ae c0 c1 c2 c3 c4 c5
 go_wp2_with fail
 clear a4 bg
 go_region_held3 (fun u=>(u.cell? ⟨bx,0,none⟩=some (.string ⟨nm.toArray⟩)/\u.cell? ⟨bx,1,none⟩=some (.string ⟨vr.toArray⟩)/\u.cell? ⟨bx,2,none⟩=some (.slice DX dn al)/\u.cell? ⟨bx,3,none⟩=some (.slice CX cn am)/\u.cell? ⟨bx,4,none⟩=some (.slice GX gn an)/\u.cell? ⟨bx,5,none⟩=some (.float .f64 wt))/\(u.cell? ⟨b,0,none⟩=some (.string ⟨nm.toArray⟩)/\u.cell? ⟨b,1,none⟩=some (.string ⟨vr.toArray⟩)/\u.cell? ⟨b,2,none⟩=some (.slice D dn dc0)/\u.cell? ⟨b,3,none⟩=some (.slice C cn cc0)/\u.cell? ⟨b,4,none⟩=some (.slice G gn gc0)/\u.cell? ⟨b,5,none⟩=some (.float .f64 wt))/\(u.cell? ⟨b1,0,none⟩=some (.string ⟨ap.toArray⟩)/\u.cell? ⟨b1,1,none⟩=some (.string ⟨aq.toArray⟩)/\u.cell? ⟨b1,2,none⟩=some (.slice D2 dn2 dc1)/\u.cell? ⟨b1,3,none⟩=some (.slice C2 cn2 cc1)/\u.cell? ⟨b1,4,none⟩=some (.slice G2 gn2 gc1)/\u.cell? ⟨b1,5,none⟩=some (.float .f64 ar)))
  (first
   | with_reducible exact ah.out _ aQ.out
   | with_reducible exact ah.out _ aU.out
   | with_reducible exact ah.out _ aT.out
   | with_reducible exact ah.out _ aS.out
   | with_reducible exact ah.out _ aR.out
   | with_reducible exact ah.out _ aJ.out)
  (first
   | (go_at_call 10;refine (F5.out _ aR.out).mono ?_;rintro _ z5 ⟨rfl,hb⟩;have aJ:=zh (bt aR.out hb);clear hb)
   | (go_at_call 9;refine (F4.out _ _ _ _ _ _ _ aS.out bl.out bm.out bn.out).mono ?_;rintro _ z4 ⟨rfl,hb⟩;have aR:=zh (bt aS.out hb);clear hb)
   | (go_at_call 6;refine (F3.out _ aT.out).mono ?_;rintro _ z3 ⟨D3,bB,C3,bC,G3,bD,rfl,hd,hc,hg,hb⟩;have aS:=zh (bt aT.out hb);have bl:=zh hd;have bm:=zh hc;have bn:=zh hg;clear hd hc hg hb)
   | (go_at_call 8;refine (F2.out _ aU.out).mono ?_;rintro _ z2 ⟨rfl,hb⟩;have aT:=zh (bt aU.out hb);clear hb)
   | (go_at_call 7;refine (F1.out _ aQ.out).mono ?_;rintro _ z1 ⟨rfl,hb⟩;have aU:=zh (bt aQ.out hb);clear hb))
 obtain⟨-,⟨c0,c1,c2,c3,c4,c5⟩,-⟩:=ah.out _ aJ.out
 clear d5 d6 F1 F3 F4 F5
 go_wp2_with fail
 refine (F2.out _ aJ.out).mono ?_
 rintro _ z6 ⟨rfl,hb⟩
 have ax:=zh (bt aJ.out hb)
 clear hb c0 c1 c2 c3 c4 c5 F2
 by_cases aK:K=0
 case neg =>
  have d7:(K != 0)=true:=by simpa using aK
  have d8:(K==0)=false:=by simpa using aK
  clear aK
  go_wp2_with fail
  go_ret
  exact⟨rfl,ad.out _ (aa.out _ ax.out)⟩
 subst aK
 have aV:=aO.out.2.2.2.2.2.2.2.2
 have aL:=zh aV
 obtain⟨n,hn⟩:=ex ((toPk p).length)
 have HN:=zh hn
 have aM:Hid (n<=6):=by show n<=6;rw[<-hn];exact ad1 p
 have F6:=zh (acQ (HK.out _ (aa.out _ ax.out)) p DX CX GX dn al cn am gn an (ag.out _ ax.out).1 H2.out (ag.out _ ax.out).2.1 H3.out (ag.out _ ax.out).2.2 H4.out (qW av.out aV) H0.out H1.out H5.out hn)
 clear aV hn
 obtain⟨⟨c0,c1,c2,c3,c4,c5⟩,-⟩:=ah.out _ ax.out
 go_wp2_with fail
 refine F6.out.mono ?_
 rintro _ z7 ⟨AS,cS,rfl,hr,hb⟩
 have a8:=zh (bt ax.out hb)
 have a9:=zh hr
 clear hr hb c0 c1 c2 c3 c4 c5 F6
 have F7:=zh (l9 (HK.out _ (aa.out _ a8.out)) AS n cS (toPk p) HN.out a9.out (Nat.le_trans aM.out (by decide)) (acK av.out aL.out) (fun f hf=>(uG av.out aL.out f hf).2.2) (aed av.out aL.out) H0.out H1.out H2.out H3.out H4.out H5.out)
 go_wp2_with fail
 refine F7.out.mono ?_
 rintro _ z8 ⟨DY,aC,CY,aD,GY,aE,rfl,hd,hc,hg,hb⟩
 have bo:=zh (bt a8.out hb)
 obtain⟨bY,bh⟩:=ex z8.heap.size
 obtain⟨V8,a5⟩:=ex (z8.alloc (.cells #[.string ⟨nm.toArray⟩,.string ⟨vr.toArray⟩,.slice DY dn aC,.slice CY cn aD,.slice GY gn aE,.float .f64 wt] 34))
 have ac:=ai a5
 have bp:=zh (bt bo.out ac)
 have bq:Hid (Below z7.heap.size z7 V8):=bt hb ac
 have aW:Hid (∀ u,Below V8.heap.size V8 u->Pg.DRow u DY p.deps/\ARow u CY p.confl/\GRow u GY p.prov):=fun u h=>⟨drowD_below (drowD_below hd ac) h,au (au hc ac) h,Rg.ak (Rg.ak hg ac) h⟩
 have aj:Hid (∀ u,Below V8.heap.size V8 u->Below V5.heap.size V5 u):=fun u h=>bt bp.out h
 have br:Hid (∀ u,Below V8.heap.size V8 u->u.cell? ⟨bY,0,none⟩=some (.string ⟨nm.toArray⟩)/\u.cell? ⟨bY,1,none⟩=some (.string ⟨vr.toArray⟩)/\u.cell? ⟨bY,2,none⟩=some (.slice DY dn aC)/\u.cell? ⟨bY,3,none⟩=some (.slice CY cn aD)/\u.cell? ⟨bY,4,none⟩=some (.slice GY gn aE)/\u.cell? ⟨bY,5,none⟩=some (.float .f64 wt)):=fun u h=>by
  rw[<-bh]
  exact az a5 h
 have aB:Hid (∀ u,Below V8.heap.size V8 u->(u.cell? ⟨bY,0,none⟩=some (.string ⟨nm.toArray⟩)/\u.cell? ⟨bY,1,none⟩=some (.string ⟨vr.toArray⟩)/\u.cell? ⟨bY,2,none⟩=some (.slice DY dn aC)/\u.cell? ⟨bY,3,none⟩=some (.slice CY cn aD)/\u.cell? ⟨bY,4,none⟩=some (.slice GY gn aE)/\u.cell? ⟨bY,5,none⟩=some (.float .f64 wt))/\(u.cell? ⟨b,0,none⟩=some (.string ⟨nm.toArray⟩)/\u.cell? ⟨b,1,none⟩=some (.string ⟨vr.toArray⟩)/\u.cell? ⟨b,2,none⟩=some (.slice D dn dc0)/\u.cell? ⟨b,3,none⟩=some (.slice C cn cc0)/\u.cell? ⟨b,4,none⟩=some (.slice G gn gc0)/\u.cell? ⟨b,5,none⟩=some (.float .f64 wt))):=fun u h=>⟨br.out u h,(ah.out u (aj.out u h)).2.1⟩
 have aY:Hid (Below V8.heap.size V8 V8.drew):=(Below.refl _ _).drew
 have G1:Hid (∀ u,Below V8.heap.size V8 u->Calls Tryz.prog 14 #[.slice AS n cS] u fun e w'=>∃ C d,e=.returned (.slice C n d)/\Rg.Row Sz.encF 3 w' C (toPk p)/\Below u.heap.size u w'):=fun u h=>adZ AS n cS (toPk p) u HN.out (Rg.ak (Rg.ak a9.out bq.out) h) (Nat.le_trans aM.out (by decide))
 have G2:Hid (∀ u,Below V8.heap.size V8 u->Calls Tryz.prog 15 #[.agg #[.string ⟨nm.toArray⟩,.string ⟨vr.toArray⟩,.slice D dn dc0,.slice C cn cc0,.slice G gn gc0,.float .f64 wt]] u fun e w'=>∃ A c,e=.returned (.slice A n c)/\Rg.Row Sz.encF 3 w' A (toPk p)/\Below u.heap.size u w'):=fun u h=>aeK (HK.out u (aa.out u (aj.out u h))).1 p D C G dc0 cc0 gc0 (ab.out u (aa.out u (aj.out u h))).1 (ab.out u (aa.out u (aj.out u h))).2.1 (ab.out u (aa.out u (aj.out u h))).2.2 av.out aL.out H0.out H1.out H2.out H3.out H4.out H5.out HN.out
 have G3:Hid (∀ u A c B d,Rg.Row Sz.encF 3 u A (toPk p)->Rg.Row Sz.encF 3 u B (toPk p)->Calls Tryz.prog 13 #[.slice A n c,.slice B n d] u fun e w'=>e=.returned (.bool true)/\Below u.heap.size u w'):=fun u A c B d h1 h2=>by
  have h:=vV A B n c n d (toPk p) (toPk p) u HN.out HN.out h1 h2 (Nat.le_trans aM.out (by decide)) (Nat.le_trans aM.out (by decide))
  rw[decide_eq_true (rfl:toPk p=toPk p)] at h
  exact h
 have G4:Hid (∀ u,Below V8.heap.size V8 u->Calls Tryz.prog 16 #[.agg #[.string ⟨nm.toArray⟩,.string ⟨vr.toArray⟩,.slice DY dn aC,.slice CY cn aD,.slice GY gn aE,.float .f64 wt]] u fun e w'=>∃ D' dc' C' cc' G' gc',e=.returned (.agg #[.string ⟨nm.toArray⟩,.string ⟨vr.toArray⟩,.slice D' dn dc',.slice C' cn cc',.slice G' gn gc',.float .f64 wt])/\Pg.DRow w' D' p.deps/\ARow w' C' p.confl/\GRow w' G' p.prov/\Below u.heap.size u w'):=fun u h=>aeU p DY CY GY aC aD aE (aW.out u h).1 (aW.out u h).2.1 (aW.out u h).2.2 ao.out.2 H0.out H1.out H2.out H3.out H4.out H5.out
 have G5:Hid (∀ u D' C' G' dc' cc' gc',Below V8.heap.size V8 u->Pg.DRow u D' p.deps->ARow u C' p.confl->GRow u G' p.prov->Calls Tryz.prog 10 #[.agg #[.string ⟨nm.toArray⟩,.string ⟨vr.toArray⟩,.slice D' dn dc',.slice C' cn cc',.slice G' gn gc',.float .f64 wt],.agg #[.string ⟨nm.toArray⟩,.string ⟨vr.toArray⟩,.slice D dn dc0,.slice C cn cc0,.slice G gn gc0,.float .f64 wt]] u fun e w'=>e=.returned (.bool true)/\Below u.heap.size u w'):=fun u D' C' G' dc' cc' gc' h q1 q2 q3=>acJ p D' C' G' D C G dc' cc' gc' dc0 cc0 gc0 q1 q2 q3 (ab.out u (aa.out u (aj.out u h))).1 (ab.out u (aa.out u (aj.out u h))).2.1 (ab.out u (aa.out u (aj.out u h))).2.2 ao.out.1 ao.out.2 H0.out H1.out H2.out H3.out H4.out H5.out
 clear hd hc hg hb ac F7
 go_wp2_with fail
 clear a5 bh
 go_region_held3 (fun u=>(u.cell? ⟨bY,0,none⟩=some (.string ⟨nm.toArray⟩)/\u.cell? ⟨bY,1,none⟩=some (.string ⟨vr.toArray⟩)/\u.cell? ⟨bY,2,none⟩=some (.slice DY dn aC)/\u.cell? ⟨bY,3,none⟩=some (.slice CY cn aD)/\u.cell? ⟨bY,4,none⟩=some (.slice GY gn aE)/\u.cell? ⟨bY,5,none⟩=some (.float .f64 wt))/\(u.cell? ⟨b,0,none⟩=some (.string ⟨nm.toArray⟩)/\u.cell? ⟨b,1,none⟩=some (.string ⟨vr.toArray⟩)/\u.cell? ⟨b,2,none⟩=some (.slice D dn dc0)/\u.cell? ⟨b,3,none⟩=some (.slice C cn cc0)/\u.cell? ⟨b,4,none⟩=some (.slice G gn gc0)/\u.cell? ⟨b,5,none⟩=some (.float .f64 wt)))
  (first
   | with_reducible exact aB.out _ aY.out
   | with_reducible exact aB.out _ a1.out
   | with_reducible exact aB.out _ bb.out
   | with_reducible exact aB.out _ a0.out
   | with_reducible exact aB.out _ aZ.out
   | with_reducible exact aB.out _ ba.out)
  (first
   | (go_at_call 10;refine (G5.out _ _ _ _ _ _ _ aZ.out bs.out bu.out bv.out).mono ?_;rintro _ y5 ⟨rfl,hb⟩;have ba:=zh (bt aZ.out hb);clear hb)
   | (go_at_call 16;refine (G4.out _ a0.out).mono ?_;rintro _ y4 ⟨D4,bE,C4,bF,bG,bH,rfl,hd,hc,hg,hb⟩;have aZ:=zh (bt a0.out hb);have bs:=zh hd;have bu:=zh hc;have bv:=zh hg;clear hd hc hg hb)
   | (go_at_call 13;refine (G3.out _ _ _ _ _ bw.out bz.out).mono ?_;rintro _ y3 ⟨rfl,hb⟩;have a0:=zh (bt bb.out hb);clear hb)
   | (go_at_call 15;refine (G2.out _ a1.out).mono ?_;rintro _ y2 ⟨E2,e2,rfl,hr,hb⟩;have bb:=zh (bt a1.out hb);have bw:=zh (Rg.ak bA.out hb);have bz:=zh hr;clear hr hb)
   | (go_at_call 14;refine (G1.out _ aY.out).mono ?_;rintro _ y1 ⟨E1,e1,rfl,hr,hb⟩;have a1:=zh (bt aY.out hb);have bA:=zh hr;clear hr hb))
 go_wp2_with fail
 go_ret
 exact⟨rfl,ad.out _ (aa.out _ (aj.out _ ba.out))⟩
end
section
open Go.RowKit Go.ChangeShapes
theorem errStar:"*errors.errorString" = "*"++"errors.errorString" := by decide
theorem errRow (u:TypeId)(h:Tryz.prog.typeName? 3 u=some "*errors.errorString"):u=323 :=
 typeName_ptr_named (nm := "errors.errorString") (by rw[<-errStar]; kernel_rfl) (by kernel_rfl) (by decide) u (by rw[<-errStar]; exact h)
theorem aeL {W:World}(hm:MaxOk W)(h:laidMet Tryz.prog [("math/bits.deBruijn32tab", Rows.laid_math_bits_deBruijn32tab), ("math/bits.deBruijn64tab", Rows.laid_math_bits_deBruijn64tab), ("internal/strconv.uint64pow10", Rows.laid_internal_strconv_uint64pow10), ("unicode/utf8.acceptRanges", Rows.laid_unicode_utf8_acceptRanges), ("strconv.ErrRange", Rows.laid_strconv_ErrRange), ("strconv.ErrSyntax", Rows.laid_strconv_ErrSyntax), ("unicode/utf8.first", Rows.laid_unicode_utf8_first)] W):KOk W := by
 refine⟨hm,?_,?_,?_⟩
 ·exact Lib.tabIs_of_head (k:=.u64) (zs:=Lib.pow10Tab) (n:=20) (g:=3) (t:=266) (by kernel_rfl) (by kernel_rfl) (show Tryz.prog.underlying _=some (.array 20 139) by kernel_rfl) Tryz.underlying139 (by kernel_rfl) (by kernel_rfl) h.tail.tail
 ·exact Lib.tabIs_of_head (k:=.u8) (zs:=Lib.deBruijn64tab.map Int.ofNat) (n:=64) (g:=1) (t:=229) (by kernel_rfl) (by kernel_rfl) (show Tryz.prog.underlying _=some (.array 64 5) by kernel_rfl) Tryz.underlying5 (by kernel_rfl) (by kernel_rfl) h.tail
 ·obtain⟨a,s,hv,_⟩:=laid_sentinel h.tail.tail.tail.tail (g:=8) (ti:=105) (tp:=323) (te:=325) (ts:=9) (by kernel_rfl) (by kernel_rfl) Tryz.underlying105 errRow Tryz.underlying323 Tryz.underlying325 rfl rfl Tryz.underlying9 (by kernel_rfl) (by kernel_rfl)
  exact⟨_,_,hv⟩
end
end Go.Proofs.YtpfkphmldalmmaaGreatDoor
