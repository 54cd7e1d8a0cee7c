/- Part 37 of what the laws lean on. -/
import Derived.Test.YtkaeamjnphaadaaGreatDoorL36
import Derived.Stop.LaidErr
import Derived.LaidMore
set_option maxRecDepth 100000
set_option maxHeartbeats 32000000
namespace Go.Proofs.YtkaeamjnphaadaaGreatDoor
section
open Go.RowKit Rs At Pg
attribute [local go_sem ↓] Go.wp_at_zero Go.wp_at_succ
attribute [local go_sem] Pg.a8
namespace Pg
theorem aeC {p q:Pk}{k v:List UInt8}(h:takeR p k v=.ok q)(hp:p.wt<Wm.W):q.wt<Wm.W:=by
 unfold takeR at h
 repeat' split at h
 all_goals first | (cases h;exact hp) | (cases h;done) | skip
 rename_i b hb
 cases h
 unfold wtR at hb
 split at hb
 ·split at hb
  ·cases hb;exact pS v
  ·cases hb
 ·cases hb
theorem uk:∀ (l:List Sz.Fld) (i:Nat) (p q:Pk),readR i p l=.ok q->p.wt<Wm.W->q.wt<Wm.W
 | [],i,p,q,h,hp=>by cases h;exact hp
 | f :: l,i,p,q,h,hp=>by
  cases ht:takeR p f.key f.val with
  | ok x=>rw[im ht] at h;exact uk l _ x q h (aeC ht hp)
  | error e=>rw[ei ht] at h;cases h
theorem qX:zeroP.wt<Wm.W:=by decide +kernel
theorem abb {p:Pk}(h:checkP p=0)(hw:p.wt<Wm.W):PFew p/\PSmall p:=by
 obtain⟨h1,h2,h3,h4,h5,h6,h7,h8,_⟩:=gp h
 have ha:∀ {l:List Atm},atomsE l=0->AFew l/\ASmall l:=fun hl=>by
  refine⟨fun a hm=>?_,fun a hm=>?_⟩
  ·obtain⟨q1,q2,_⟩:=ef (dT hl a hm)
   exact⟨Nat.le_trans (dp q1) (by decide),Nat.le_trans (lA q2) (by decide)⟩
  ·obtain⟨q1,q2,_⟩:=ef (dT hl a hm)
   exact Nat.le_trans (lA q2) (by decide)
 refine⟨⟨Nat.le_trans (dp h1) (by decide),by omega,fun d hm=>?_,by omega,(ha h6).1,by omega,fun g hm=>?_,hw⟩,by omega,fun d hm=>?_,by omega,(ha h6).2,by omega⟩
 ·obtain⟨_,q2,q3⟩:=eK h4 d hm
  exact⟨by omega,(ha q3).1⟩
 ·obtain⟨q1,q2⟩:=jb (dU h8 g hm)
  refine⟨Nat.le_trans (dp q1) (by decide),?_⟩
  rcases q2 with q2 | q2
  ·rw[q2];exact Nat.zero_le _
  ·unfold verE at q2
   split at q2
   ·rename_i hc
    exact Nat.le_trans (bY hc).1 (by decide)
   ·rename_i hc;exact absurd q2 hc
 ·obtain⟨_,q2,q3⟩:=eK h4 d hm
  exact⟨by omega,(ha q3).2⟩
theorem yL:PFew zeroP/\PSmall zeroP :=
 ⟨⟨by decide,by decide,fun d h=>(by cases h),by decide,fun d h=>(by cases h),by decide,fun d h=>(by cases h),qX⟩,by decide,fun d h=>(by cases h),by decide,fun d h=>(by cases h),by decide⟩
theorem yM {l:List Sz.Fld}{k i:Int}{p:Pk}(h:fromP l=(k,i,p)):(PFew p/\PSmall p)/\(k=0->checkP p=0):=by
 unfold fromP at h
 cases hr:readP l with
 | ok q =>
  rw[hr] at h
  cases h
  have hm:=aa4 hr
  refine⟨abb hm ?_,fun _=>hm⟩
  unfold readP at hr
  split at hr
  ·split at hr
   ·exact uk l 0 zeroP p hr qX
   ·cases hr
  ·cases hr
 | error x =>
  have aa:=acB hr
  rw[hr] at h
  cases h
  exact⟨yL,fun h=>absurd h aa⟩
theorem ac1 {p:Pk}(h:PSmall p):p.deps.length<=100000/\p.confl.length<=100000/\p.prov.length<=100000/\∀ d∈p.deps,d.length<=100000 :=
 ⟨Nat.le_trans h.1 (by decide),Nat.le_trans h.2.2.1 (by decide),Nat.le_trans h.2.2.2.2 (by decide),fun d hm=>Nat.le_trans (h.2.1 d hm).1 (by decide)⟩
theorem ac3 {u:World}(hk:MaxOk u)(A:Option Addr)(n c:Nat)(l:List Sz.Fld)(hn:l.length=n)(hr:Rg.Row Sz.encF 3 u A l)(hl:n<=1000)(hv:∀ f∈l,f.val.length<=1000){k i:Int}{p:Pk}(hX:fromP l=(k,i,p)){nm vr:List UInt8}{dn cn gn wt:Nat}(e0:p.name=nm)(e1:p.ver=vr)(e2:p.deps.length=dn)(e3:p.confl.length=cn)(e4:p.prov.length=gn)(e5:p.wt=wt) :
  Calls Tryz.prog 7 #[.slice A n c] u fun e w'=>∃ D dc C cc G gc,e=.returned (.tuple #[.agg #[.string ⟨nm.toArray⟩,.string ⟨vr.toArray⟩,.slice D dn dc,.slice C cn cc,.slice G gn gc,.float .f64 wt],.int .i64 i,.int .i64 k])/\Pg.DRow w' D p.deps/\ARow w' C p.confl/\GRow w' G p.prov/\Below u.heap.size u w' :=
 (vS A n c l u hk hn hr hl hv).mono fun e w' ⟨hb,D,dc,C,cc,G,gc,he,hr⟩=>by
  rw[hX] at he hr
  dsimp only at he hr
  subst e0 e1 e2 e3 e4 e5
  exact⟨D,dc,C,cc,G,gc,he,lN hr.1.1,hr.2.1.1,hr.2.2.1,hb⟩
theorem afp {u:World}(p:Pk)(D C G:Option Addr)(dc cc gc:Nat)(hd:Pg.DRow u D p.deps)(hc:ARow u C p.confl)(hg:GRow u G p.prov)(hf:PSmall p){nm vr:List UInt8}{dn cn gn wt:Nat}(e0:p.name=nm)(e1:p.ver=vr)(e2:p.deps.length=dn)(e3:p.confl.length=cn)(e4:p.prov.length=gn)(e5:p.wt=wt) :
  Calls Tryz.prog 9 #[.agg #[.string ⟨nm.toArray⟩,.string ⟨vr.toArray⟩,.slice D dn dc,.slice C cn cc,.slice G gn gc,.float .f64 wt]] u fun e w'=>∃ D' dc' C' cc' G' gc',e=.returned (.agg #[.string ⟨nm.toArray⟩,.string ⟨vr.toArray⟩,.slice D' dn dc',.slice C' cn cc',.slice G' gn gc',.float .f64 wt])/\Pg.DRow w' D' p.deps/\ARow w' C' p.confl/\GRow w' G' p.prov/\Below u.heap.size u w':=by
 subst e0 e1 e5
 exact aey p D C G dn dc cn cc gn gc u hd e2 hc e3 hg e4 hf
theorem ac4 {u:World}(p:Pk)(D C G D' C' G':Option Addr)(dc cc gc dc' cc' gc':Nat)(hd:Pg.DRow u D p.deps)(hc:ARow u C p.confl)(hg:GRow u G p.prov)(hd':Pg.DRow u D' p.deps)(hc':ARow u C' p.confl)(hg':GRow u G' p.prov)(hf:PFew p)(hs:PSmall p){nm vr:List UInt8}{dn cn gn wt:Nat}(e0:p.name=nm)(e1:p.ver=vr)(e2:p.deps.length=dn)(e3:p.confl.length=cn)(e4:p.prov.length=gn)(e5:p.wt=wt) :
  Calls Tryz.prog 8 #[.agg #[.string ⟨nm.toArray⟩,.string ⟨vr.toArray⟩,.slice D dn dc,.slice C cn cc,.slice G gn gc,.float .f64 wt],.agg #[.string ⟨nm.toArray⟩,.string ⟨vr.toArray⟩,.slice D' dn dc',.slice C' cn cc',.slice G' gn gc',.float .f64 wt]] u fun e w'=>e=.returned (.bool true)/\Below u.heap.size u w':=by
 subst e0 e1 e5
 obtain⟨m1,m2,m3,m4⟩:=ac1 hs
 have h:=pU p p D C G D' C' G' dn dc cn cc gn gc dn dc' cn cc' gn gc' u hd e2 hc e3 hg e4 hf hd' e2 hc' e3 hg' e4 hf ⟨by omega,by omega,by omega,by omega,m4,m4⟩
 rw[ac0] at h
 exact h
end Pg
theorem o8 (A:Option Addr)(n c:Nat)(l:List Sz.Fld)(w:World)(hk:KOk w)(hn:l.length=n)(hr:Rg.Row Sz.encF 3 w A l)(hm:n<=maxLen)(hs:Sz.Short l) :
  Calls Tryz.prog 3 #[.slice A n c] w fun e w'=>e=.returned (.bool true)/\Below w.heap.size w w':=by
 have HK:Hid (∀ u,Below w.heap.size w u->KOk u):=fun u h=>aZ hk h
 have aq:Hid (∀ u,Below w.heap.size w u->Rg.Row Sz.encF 3 u A l):=fun u h=>Rg.ai hr h
 have HN:=zh hn
 have HS:=zh hs
 clear hk hn hr hs
 go_enter Tryz.func3,Tryz.ntmps3
 go_wp2_with fail
 refine (yK _ (HK.out _ (Below.refl _ _))).mono ?_
 rintro _ u1 ⟨rfl,hb⟩
 have ac:=zh hb
 clear hb
 by_cases hl:n<=20
 case neg =>
  have d0:decide ((20:Int)<(n:Int))=true:=decide_eq_true (by omega)
  have d1:decide (20<n)=true:=decide_eq_true (by omega)
  clear hl
  go_wp2_with fail
  go_ret
  exact⟨rfl,ac.out⟩
 have d0:decide ((20:Int)<(n:Int))=false:=decide_eq_false (by omega)
 have d1:decide (20<n)=false:=decide_eq_false (by omega)
 have HL:=zh hl
 go_wp2_with fail
 clear d0 d1
 go_loopw [3] (fun i wr=>∃ k:Nat,k<=n/\i=.int .i64 k/\Hid (Below w.heap.size w wr)/\Hid (∀ f∈l.take k,f.val.length<=1000)) (fun i _=>n-(intOf i).toNat)
 case atStart=>exact⟨0,Nat.zero_le _,rfl,ac.out,fun f h=>(by cases h)⟩
 case round =>
  obtain⟨k,hk,rfl,HW,HT⟩:=hrel
  have ac:=HW
  clear HW
  by_cases aV:k<n
  ·have ar:k<l.length:=by rw[HN.out];exact aV
   obtain⟨ad,rfl,bf,c0,c1,c2⟩:=Sz.bS (aq.out _ ac.out) k ar
   obtain⟨f,hf⟩:=ex (l[k])
   rw[hf] at c0 c1 c2
   have aW:=HS.out f (by rw[<-hf];exact List.getElem_mem ar)
   have aB:∀ g∈l.take (k+1),g∈l.take k\/g=f:=fun g hg=>by
    rw[List.take_succ_eq_append_getElem ar,hf] at hg
    simpa using hg
   have aX:=zh aB
   obtain⟨fk,fv,fl⟩:=f
   dsimp only at c0 c1 c2 aW
   clear hf bf aB c0 c2
   by_cases hv:fv.length<=1000
   ·have d2:decide (1000<fv.length)=false:=decide_eq_false (by omega)
    have d3:decide ((1000:Int)<(fv.length:Int))=false:=decide_eq_false (by omega)
    have HV:=zh hv
    go_wp2_with fail
    go_roundw
    case rel=>exact⟨k+1,by omega,by go_num,ac.out,fun g hg=>by
     rcases aX.out g hg with h | rfl
     ·exact HT.out g h
     ·exact HV.out⟩
    case measure=>simp[intOf];omega
   ·have d2:decide (1000<fv.length)=true:=decide_eq_true (by omega)
    have d3:decide ((1000:Int)<(fv.length:Int))=true:=decide_eq_true (by omega)
    go_wp2_with fail
    go_ret
    exact⟨rfl,ac.out⟩
  ·obtain rfl:k=n:=by omega
   have HV:Hid (∀ f∈l,f.val.length<=1000):=by
    have h:=HT.out
    rw[List.take_of_length_le (by rw[HN.out];exact Nat.le_refl _)] at h
    exact h
   obtain⟨⟨kk,ii,p⟩,hX⟩:∃ X,fromP l=X:=⟨_,rfl⟩
   have HX:=zh hX
   obtain⟨⟨aM,aN⟩,aO⟩:=yM hX
   have aC:=zh aM
   have aD:=zh aN
   have aY:=zh aO
   obtain⟨nm,h0⟩:=ex p.name
   obtain⟨vr,h1⟩:=ex p.ver
   obtain⟨dn,h2⟩:=ex p.deps.length
   obtain⟨cn,h3⟩:=ex p.confl.length
   obtain⟨gn,h4⟩:=ex p.prov.length
   obtain⟨wt,h5⟩:=ex p.wt
   have H0:=zh h0
   have H1:=zh h1
   have H2:=zh h2
   have H3:=zh h3
   have H4:=zh h4
   have H5:=zh h5
   clear hX aM aN aO h0 h1 h2 h3 h4 h5
   have aE:=zh (aen A k c l _ HN.out (aq.out _ ac.out) (Nat.le_trans HL.out (by decide)))
   go_wp2_with fail
   refine aE.out.mono ?_
   rintro _ u2 ⟨A2,c2,rfl,aP,aQ⟩
   have aF:=zh (bt ac.out aQ)
   have a0:=zh aP
   clear aP aQ aE
   have aG:=zh (mi (HK.out _ aF.out) A2 k c2 l HN.out a0.out (Nat.le_trans HL.out (by decide)) HS.out (fun f h=>e8 (HV.out f h)) HX.out H0.out H1.out H2.out H3.out H4.out H5.out)
   go_wp2_with fail
   refine aG.out.mono ?_
   rintro _ u3 ⟨D,dc,C,cc,G,gc,rfl,hd,hc,hg,ae⟩
   have a1:=zh (bt aF.out ae)
   obtain⟨b3,al⟩:∃ b,u3.heap.size=b:=⟨_,rfl⟩
   obtain⟨V3,az⟩:=ex (u3.alloc (.cells #[.string ⟨nm.toArray⟩,.string ⟨vr.toArray⟩,.slice D dn dc,.slice C cn cc,.slice G gn gc,.float .f64 wt] 31))
   have aa:=ag az
   have au:=zh (bt a1.out aa)
   have aI:=zh (drowD_below hd aa)
   have aJ:=zh (aw hc aa)
   have aK:=zh (Rg.ai hg aa)
   have a2:Hid (∀ u,Below V3.heap.size V3 u->u.cell? ⟨b3,0,none⟩=some (.string ⟨nm.toArray⟩)/\u.cell? ⟨b3,1,none⟩=some (.string ⟨vr.toArray⟩)/\u.cell? ⟨b3,2,none⟩=some (.slice D dn dc)/\u.cell? ⟨b3,3,none⟩=some (.slice C cn cc)/\u.cell? ⟨b3,4,none⟩=some (.slice G gn gc)/\u.cell? ⟨b3,5,none⟩=some (.float .f64 wt)):=fun u h=>by
    rw[<-al]
    exact aH az h
   have aL:=zh (ac3 (HK.out _ au.out).1 A k c l HN.out (aq.out _ au.out) (Nat.le_trans HL.out (by decide)) HV.out HX.out H0.out H1.out H2.out H3.out H4.out H5.out)
   clear hd hc hg ae aa aG
   go_wp2_with fail
   clear az al
   refine aL.out.mono ?_
   rintro _ u4 ⟨D4,ah,C4,aj,G4,ak,rfl,hd,hc,hg,aR⟩
   have a3:=zh aR
   obtain⟨b4,am⟩:∃ b,u4.heap.size=b:=⟨_,rfl⟩
   obtain⟨V4,aA⟩:=ex (u4.alloc (.cells #[.string ⟨nm.toArray⟩,.string ⟨vr.toArray⟩,.slice D4 dn ah,.slice C4 cn aj,.slice G4 gn ak,.float .f64 wt] 42))
   have ab:=ag aA
   have an:=zh (bt a3.out ab)
   have av:=zh (bt au.out an.out)
   have a4:=zh (drowD_below hd ab)
   have a5:=zh (aw hc ab)
   have a6:=zh (Rg.ai hg ab)
   have a7:Hid (∀ u,Below V4.heap.size V4 u->u.cell? ⟨b4,0,none⟩=some (.string ⟨nm.toArray⟩)/\u.cell? ⟨b4,1,none⟩=some (.string ⟨vr.toArray⟩)/\u.cell? ⟨b4,2,none⟩=some (.slice D4 dn ah)/\u.cell? ⟨b4,3,none⟩=some (.slice C4 cn aj)/\u.cell? ⟨b4,4,none⟩=some (.slice G4 gn ak)/\u.cell? ⟨b4,5,none⟩=some (.float .f64 wt)):=fun u h=>by
    rw[<-am]
    exact aH aA h
   have ao:Hid (∀ u,Below V4.heap.size V4 u->(u.cell? ⟨b3,0,none⟩=some (.string ⟨nm.toArray⟩)/\u.cell? ⟨b3,1,none⟩=some (.string ⟨vr.toArray⟩)/\u.cell? ⟨b3,2,none⟩=some (.slice D dn dc)/\u.cell? ⟨b3,3,none⟩=some (.slice C cn cc)/\u.cell? ⟨b3,4,none⟩=some (.slice G gn gc)/\u.cell? ⟨b3,5,none⟩=some (.float .f64 wt))/\(u.cell? ⟨b4,0,none⟩=some (.string ⟨nm.toArray⟩)/\u.cell? ⟨b4,1,none⟩=some (.string ⟨vr.toArray⟩)/\u.cell? ⟨b4,2,none⟩=some (.slice D4 dn ah)/\u.cell? ⟨b4,3,none⟩=some (.slice C4 cn aj)/\u.cell? ⟨b4,4,none⟩=some (.slice G4 gn ak)/\u.cell? ⟨b4,5,none⟩=some (.float .f64 wt))):=fun u h=>⟨a2.out u (bt an.out h),a7.out u h⟩
   have ax:Hid (Below V4.heap.size V4 V4.drew):=(Below.refl _ _).drew
   have a8:Hid (∀ u,Below V4.heap.size V4 u->Calls Tryz.prog 9 #[.agg #[.string ⟨nm.toArray⟩,.string ⟨vr.toArray⟩,.slice D dn dc,.slice C cn cc,.slice G gn gc,.float .f64 wt]] u fun e w'=>∃ D' dc' C' cc' G' gc',e=.returned (.agg #[.string ⟨nm.toArray⟩,.string ⟨vr.toArray⟩,.slice D' dn dc',.slice C' cn cc',.slice G' gn gc',.float .f64 wt])/\Pg.DRow w' D' p.deps/\ARow w' C' p.confl/\GRow w' G' p.prov/\Below u.heap.size u w'):=fun u h=>by
    have h3:=bt an.out h
    exact afp p D C G dc cc gc (drowD_below aI.out h3) (aw aJ.out h3) (Rg.ai aK.out h3) aD.out H0.out H1.out H2.out H3.out H4.out H5.out
   have a9:Hid (∀ u D' C' G' dc' cc' gc',Below V4.heap.size V4 u->Pg.DRow u D' p.deps->ARow u C' p.confl->GRow u G' p.prov->Calls Tryz.prog 8 #[.agg #[.string ⟨nm.toArray⟩,.string ⟨vr.toArray⟩,.slice D' dn dc',.slice C' cn cc',.slice G' gn gc',.float .f64 wt],.agg #[.string ⟨nm.toArray⟩,.string ⟨vr.toArray⟩,.slice D4 dn ah,.slice C4 cn aj,.slice G4 gn ak,.float .f64 wt]] u fun e w'=>e=.returned (.bool true)/\Below u.heap.size u w'):=fun u D' C' G' dc' cc' gc' h q1 q2 q3 =>
    ac4 p D' C' G' D4 C4 G4 dc' cc' gc' ah aj ak q1 q2 q3 (drowD_below a4.out h) (aw a5.out h) (Rg.ai a6.out h) aC.out aD.out H0.out H1.out H2.out H3.out H4.out H5.out
   have d5:(ii != ii)=false:=by simp
   have d6:(kk != kk)=false:=by simp
   clear hd hc hg aR ab aL
   go_wp2_with fail
   clear aA am
   go_region_held3 (fun u=>(u.cell? ⟨b3,0,none⟩=some (.string ⟨nm.toArray⟩)/\u.cell? ⟨b3,1,none⟩=some (.string ⟨vr.toArray⟩)/\u.cell? ⟨b3,2,none⟩=some (.slice D dn dc)/\u.cell? ⟨b3,3,none⟩=some (.slice C cn cc)/\u.cell? ⟨b3,4,none⟩=some (.slice G gn gc)/\u.cell? ⟨b3,5,none⟩=some (.float .f64 wt))/\(u.cell? ⟨b4,0,none⟩=some (.string ⟨nm.toArray⟩)/\u.cell? ⟨b4,1,none⟩=some (.string ⟨vr.toArray⟩)/\u.cell? ⟨b4,2,none⟩=some (.slice D4 dn ah)/\u.cell? ⟨b4,3,none⟩=some (.slice C4 cn aj)/\u.cell? ⟨b4,4,none⟩=some (.slice G4 gn ak)/\u.cell? ⟨b4,5,none⟩=some (.float .f64 wt)))
    (first
     | with_reducible exact ao.out _ ax.out
     | with_reducible exact ao.out _ ay.out
     | with_reducible exact ao.out _ af.out)
    (first
     | (go_at_call 8;refine (a9.out _ _ _ _ _ _ _ ay.out ba.out bb.out bc.out).mono ?_;rintro _ u6 ⟨rfl,aS⟩;have af:=zh (bt ay.out aS);clear aS)
     | (go_at_call 9;refine (a8.out _ ax.out).mono ?_;rintro _ u5 ⟨D5,bg,C5,bh,G5,bi,rfl,hd,hc,hg,aT⟩;have ay:=zh (bt ax.out aT);have ba:=zh hd;have bb:=zh hc;have bc:=zh hg;clear hd hc hg aT))
   clear d5 d6
   by_cases ap:kk=0
   ·subst ap
    have ae:=bt an.out af.out
    have bd:=zh (ue (HK.out _ (bt av.out af.out)).1 p D C G dn dc cn cc gn gc (drowD_below aI.out ae) H2.out (aw aJ.out ae) H3.out (Rg.ai aK.out ae) H4.out aC.out H0.out H1.out H5.out (aY.out rfl))
    obtain⟨g0,g1,g2,g3,g4,g5⟩:=(ao.out _ af.out).1
    clear ae
    go_wp2_with fail
    refine bd.out.mono ?_
    rintro _ u7 ⟨rfl,aU⟩
    have be:=zh (bt af.out aU)
    clear aU
    go_wp2_with fail
    go_ret
    exact⟨rfl,bt av.out be.out⟩
   ·have d7:(kk != 0)=true:=by simpa using ap
    have d8:(kk==0)=false:=by simpa using ap
    clear ap
    go_wp2_with fail
    go_ret
    exact⟨rfl,bt av.out af.out⟩
end
section
open Go.RowKit Go.ChangeShapes
theorem errStar:"*errors.errorString" = "*"++"errors.errorString" := by decide
theorem errRow (u:TypeId)(h:Tryz.prog.typeName? 3 u=some "*errors.errorString"):u=329 :=
 typeName_ptr_named (nm := "errors.errorString") (by rw[<-errStar]; kernel_rfl) (by kernel_rfl) (by decide) u (by rw[<-errStar]; exact h)
theorem afd {W:World}(hm:MaxOk W)(h:laidMet Tryz.prog [("math/bits.deBruijn32tab", Rows.laid_math_bits_deBruijn32tab), ("math/bits.deBruijn64tab", Rows.laid_math_bits_deBruijn64tab), ("internal/strconv.uint64pow10", Rows.laid_internal_strconv_uint64pow10), ("unicode/utf8.acceptRanges", Rows.laid_unicode_utf8_acceptRanges), ("strconv.ErrRange", Rows.laid_strconv_ErrRange), ("strconv.ErrSyntax", Rows.laid_strconv_ErrSyntax), ("unicode/utf8.first", Rows.laid_unicode_utf8_first)] W):KOk W := by
 refine⟨hm,?_,?_,?_⟩
 ·exact Lib.tabIs_of_head (k:=.u64) (zs:=Lib.pow10Tab) (n:=20) (g:=3) (t:=277) (by kernel_rfl) (by kernel_rfl) (show Tryz.prog.underlying _=some (.array 20 155) by kernel_rfl) Tryz.underlying155 (by kernel_rfl) (by kernel_rfl) h.tail.tail
 ·exact Lib.tabIs_of_head (k:=.u8) (zs:=Lib.deBruijn64tab.map Int.ofNat) (n:=64) (g:=1) (t:=239) (by kernel_rfl) (by kernel_rfl) (show Tryz.prog.underlying _=some (.array 64 5) by kernel_rfl) Tryz.underlying5 (by kernel_rfl) (by kernel_rfl) h.tail
 ·obtain⟨a,s,hv,_⟩:=laid_sentinel h.tail.tail.tail.tail (g:=8) (ti:=91) (tp:=329) (te:=331) (ts:=9) (by kernel_rfl) (by kernel_rfl) Tryz.underlying91 errRow Tryz.underlying329 Tryz.underlying331 rfl rfl Tryz.underlying9 (by kernel_rfl) (by kernel_rfl)
  exact⟨_,_,hv⟩
end
section
open Go.ChangeShapes Go.WideShapes Go.RowKit
theorem yN {H:Type}{enc:TypeId × Value->H}{P:Program}{W:World}{t e:TypeId}{A:Option Addr}{n c:Nat}{d:DataW H}{ps:List MemPlace}(ht:P.underlying t=some (.slice e))(h:DataW.Trod enc P W 0 (fun _=>true) true t (.slice A n c) d ps):n<=maxLen:=by
 obtain⟨fuel,hf⟩:=h
 rcases Go.Deep.open_slice ht hf with⟨hcs,_⟩ | ⟨a,len,cap,m,k,D,Pl,hcs,_,hl,hm,_⟩
 ·simp[Value.cells] at hcs
  rw[hcs.2.1];exact Nat.zero_le _
 ·simp[Value.cells] at hcs
  obtain⟨_,rfl,rfl⟩:=hcs
  exact Nat.le_trans hl hm
theorem jA {H:Type}{P:Program}{e:TypeId}:∀ (l:List (DataW H)) (d:DataW H),d∈l->∀ x∈d.weights P e,x∈DataW.weightsAll P e l
 | a :: l,d,h,x,hx=>by
  unfold DataW.weightsAll
  rcases List.mem_cons.1 h with rfl | h
  ·exact List.mem_append_left _ hx
  ·exact List.mem_append_right _ (jA l d h x hx)
theorem ac5 {w:World}{a:Addr}{v:Value}(h:w.cell? a=some v):a.block<w.heap.size:=by
 unfold World.cell? at h
 rcases Nat.lt_or_ge a.block w.heap.size with hl | hl
 ·exact hl
 ·rw[Array.getElem?_eq_none hl] at h;cases h
instance:Inhabited Sz.Fld:=⟨⟨[],[],0⟩⟩
theorem pV {α:Type}{cs:List α}{n:Nat}(hl:cs.length=3)(hn:n<3):(cs.drop n).take 1=[cs[n]'(by omega)]:=by
 rw[List.drop_eq_getElem_cons (by omega)];rfl
def Fits47 (l:List Nat):Prop:=∀ x∈l,x<=140737488355328
theorem aeD {l:List Nat}(h:l.all (·<=reachBytes)=true):Fits47 l:=fun x hx=>by
 have:=List.all_eq_true.1 h x hx
 rw[decide_eq_true_eq] at this
 unfold reachBytes at this
 omega
theorem vT {H:Type}{enc:TypeId × Value->H}{P:Program}{W:World}{b0:Nat}{t e ts ti:TypeId}{n0 n1 n2:Field}{v:Value}{d:DataW H}{ps:List MemPlace}
  (ht:P.underlying t=some (.slice e)) (he:P.underlying e=some (.struct #[n0,n1,n2])) (h0:n0.type=ts/\n0.offset=0) (h1:n1.type=ts/\n1.offset=1) (h2:n2.type=ti/\n2.offset=2)
  (hs:P.underlying ts=some .string) (hb:P.underlying ti=some (.int .i64)) (cs:P.cellsOf ts=1) (cb:P.cellsOf ti=1) (ce:P.cellsOf e=3)
  (hval:Value.okWide P W .any b0 t v) (h:DataW.Trod enc P W 0 (fun _=>true) true t v d ps) :
  ∃ (A:Option Addr) (c:Nat) (l:List Sz.Fld),v=.slice A l.length c/\Rg.Row Sz.encF 3 W A l/\(Fits47 (d.weights P t)->∀ s∈l,s.key.length<=140737488355328/\s.val.length<=140737488355328):=by
 obtain⟨a0,l0,k0,rfl⟩:=okWide_slice ht hval
 obtain⟨fuel,hf⟩:=h
 rcases Go.Deep.open_slice ht hf with⟨hcs,_⟩ | ⟨a,len,cap,m,n,D,Pl,hcs,_,hl,_,hmm,hx,hi⟩
 ·simp[Value.cells] at hcs
  obtain⟨rfl,rfl,rfl⟩:=hcs
  exact⟨none,0,[],rfl,fun h=>absurd h (by simp),fun _ s hs=>by cases hs⟩
 ·simp[Value.cells] at hcs
  obtain⟨rfl,rfl,rfl⟩:=hcs
  simp only[if_true] at hmm
  have hd:d=.slice ((List.range l0).map D) ((List.range (m-l0)).map fun j=>D (l0+j)):=(Prod.mk.inj hx).1
  have each:∀ i,i<l0->∃ s:Sz.Fld,Rg.At Sz.encF W (a.add (i*3)) s/\(a.add (i*3)).block<W.heap.size/\(∀ x,x=s.key.length\/x=s.val.length->x∈(D i).weights P e):=fun i ac=>by
   obtain⟨ak,hc,ah⟩:=hi i (by omega)
   rw[ce] at hc
   obtain⟨y0,y1,y2,m',ai,aa,g0,g1,g2⟩:=Go.Deep.trod_struct3 he ah
   rw[ce] at aa
   rw[h0.1,h0.2,cs,pV aa (by omega)] at g0
   rw[h1.1,h1.2,cs,pV aa (by omega)] at g1
   rw[h2.1,h2.2,cb,pV aa (by omega)] at g2
   obtain⟨s0,e0,q0,m0⟩:=DataW.trod_string hs g0
   obtain⟨s1,e1,q1,m1⟩:=DataW.trod_string hs g1
   obtain⟨b2,e2,_⟩:=DataW.trod_int hb g2
   obtain⟨_,aj,ad⟩:=World.cells?_some hc
   have c0:=(ad 0 (by omega)).trans ((List.getElem?_eq_getElem (by omega)).trans (congrArg some (List.cons.inj e0).1))
   have c1:=(ad 1 (by omega)).trans ((List.getElem?_eq_getElem (by omega)).trans (congrArg some (List.cons.inj e1).1))
   have c2:=(ad 2 (by omega)).trans ((List.getElem?_eq_getElem (by omega)).trans (congrArg some (List.cons.inj e2).1))
   have ci:=ac5 c0
   rw[Rs.add_block] at ci
   refine⟨⟨s0.data.toList,s1.data.toList,b2⟩,fun j u hu=>?_,ci,fun x hx=>?_⟩
   ·match j with
    | 0=>cases hu;rw[if_pos rfl];exact c0
    | 1=>cases hu;exact c1
    | 2=>cases hu;exact c2
    | j+3=>simp[Sz.encF] at hu
   ·have ag:D i=.agg [y0.1,y1.1,y2.1]:=(Prod.mk.inj ai).1
    rw[ag]
    unfold DataW.weights
    rw[he]
    show x∈DataW.weightsEach P [n0.type,n1.type,n2.type] [y0.1,y1.1,y2.1]
    rw[q0,q1]
    rcases hx with rfl | rfl
    ·unfold DataW.weightsEach
     refine List.mem_append_left _ ?_
     unfold DataW.weights
     exact List.mem_singleton.2 rfl
    ·unfold DataW.weightsEach
     refine List.mem_append_right _ ?_
     unfold DataW.weightsEach
     refine List.mem_append_left _ ?_
     unfold DataW.weights
     exact List.mem_singleton.2 rfl
  obtain⟨f,ae⟩:=Go.Deep.choose_lt each
  have hlen:((List.range l0).map f).length=l0:=by simp
  refine⟨some a,k0,(List.range l0).map f,by rw[hlen],fun h=>?_,fun hw s hs=>?_⟩
  ·rw[hlen] at h
   refine⟨a,rfl,?_,fun i ab=>?_⟩
   ·have:=(ae 0 h).2.1
    rwa [Rs.add_block] at this
   ·rw[hlen] at ab
    have:=(ae i ab).1
    simpa using this
  ·obtain⟨i,ab,rfl⟩:=List.mem_map.1 hs
   have ac:=List.mem_range.1 ab
   obtain⟨_,_,hm⟩:=ae i ac
   have af:∀ x∈(D i).weights P e,x<=140737488355328:=fun x hx=>hw x (by
    rw[hd]
    unfold DataW.weights
    rw[ht]
    refine List.mem_cons_of_mem _ (List.mem_append_left _ ?_)
    exact jA _ (D i) (List.mem_map.2 ⟨i,List.mem_range.2 ac,rfl⟩) x hx)
   exact⟨af _ (hm _ (Or.inl rfl)),af _ (hm _ (Or.inr rfl))⟩
end
end Go.Proofs.YtkaeamjnphaadaaGreatDoor
