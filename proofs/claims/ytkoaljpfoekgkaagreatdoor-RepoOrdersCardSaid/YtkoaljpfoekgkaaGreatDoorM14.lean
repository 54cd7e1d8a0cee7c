/- Part 14 of what the laws lean on. -/
import Derived.Test.YtkoaljpfoekgkaaGreatDoorM13
set_option maxRecDepth 100000
set_option maxHeartbeats 3200000
namespace Go.Proofs.YtkoaljpfoekgkaaGreatDoor
section
open Go.RowKit Rs At Pg
namespace Pg
theorem ak {w W1 u:World}{a b c d e f:Value}{T:TypeId}(h1:w.alloc (.cells #[a,b,c,d,e,f] T)=W1)(hb:Below W1.heap.size W1 u) :
  u.cell? ⟨w.heap.size,0,none⟩=some a/\u.cell? ⟨w.heap.size,1,none⟩=some b/\u.cell? ⟨w.heap.size,2,none⟩=some c/\u.cell? ⟨w.heap.size,3,none⟩=some d/\u.cell? ⟨w.heap.size,4,none⟩=some e/\u.cell? ⟨w.heap.size,5,none⟩=some f:=by
 subst h1
 have h:u.heap[w.heap.size]?=some (.cells #[a,b,c,d,e,f] T (0,0)):=(hb.block _ (by simp)).trans (heap_alloc_new w _)
 refine⟨?_,?_,?_,?_,?_,?_⟩ <;> simp[World.cell?,h]
def DFew (t:List (List Atm)):Prop:=∀ l∈t,l.length<=1000000/\AFew l
theorem m4 {t:List (List Atm)}(h:DFew t)(k:Nat)(hk:k<t.length):t[k].length<=1000000/\AFew t[k]:=h _ (List.getElem_mem hk)
def PFew (p:Pk):Prop:=p.name.length<=maxLen/\p.deps.length<=1000000/\DFew p.deps/\p.confl.length<=1000000/\AFew p.confl/\p.prov.length<=1000000/\GFew p.prov/\p.wt<Wm.W
theorem v9 (d:List Atm)(l:List (List Atm)):depsE (d :: l)=if 1<=d.length/\d.length<=8 then (if atomsE d=0 then depsE l else atomsE d) else 4:=rfl
theorem tu (g:Gv)(l:List Gv):givesE (g :: l)=if giveE g=0 then givesE l else giveE g:=rfl
end Pg
attribute [local go_sem ↓] Go.wp_at_zero Go.wp_at_succ
theorem m6 (p:Pk)(D C G:Option Addr)(dn dc cn cc gn gc:Nat)(w:World)(hw:MaxOk w)(hd:Pg.DRow w D p.deps)(hdn:p.deps.length=dn)(hc:ARow w C p.confl)(hcn:p.confl.length=cn)(hg:GRow w G p.prov)(hgn:p.prov.length=gn)(hf:PFew p) :
  Calls Tryz.prog 95 #[.agg #[.string ⟨p.name.toArray⟩,.string ⟨p.ver.toArray⟩,.slice D dn dc,.slice C cn cc,.slice G gn gc,.float .f64 p.wt]] w fun e w'=>e=a8 (checkP p)/\Below w.heap.size w w':=by
 obtain⟨nm,v,deps,confl,prov,wt⟩:=p
 dsimp only at hd hdn hc hcn hg hgn ⊢
 obtain⟨f1,f2,f3,f4,f5,f6,f7,f8⟩:=hf
 dsimp only at f1 f2 f3 f4 f5 f6 f7 f8
 obtain⟨R,hR⟩:=ex (checkP ⟨nm,v,deps,confl,prov,wt⟩)
 rw[hR]
 unfold checkP at hR
 dsimp only at hR
 obtain⟨x1,au⟩:=ex (verE v)
 obtain⟨x2,av⟩:=ex (depsE deps)
 obtain⟨x3,aw⟩:=ex (atomsE confl)
 obtain⟨x4,ax⟩:=ex (givesE prov)
 obtain⟨x5,ay⟩:=ex (chkW wt)
 rw[au,av,aw,ax,ay,hdn,hcn,hgn] at hR
 have aT:dn<=1000000:=by omega
 have aI:cn<=1000000:=by omega
 have aU:gn<=1000000:=by omega
 obtain⟨W1,aq⟩:=ex (w.alloc (.cells #[.string ⟨nm.toArray⟩,.string ⟨v.toArray⟩,.slice D dn dc,.slice C cn cc,.slice G gn gc,.float .f64 wt] 39))
 have ah:Hid (Below w.heap.size w W1):=ab aq
 have an:=zh aq
 have HM:=zh (aa hw ah.out)
 have HD:=zh hd
 have aA:=zh hdn
 have HC:=zh hc
 have aJ:=zh hcn
 have HG:=zh hg
 have aC:=zh hgn
 have aK:=zh f3
 have aL:=zh f5
 have aM:=zh f7
 have aN:=zh f8
 have aD:=zh av
 have aO:=zh aw
 have aE:=zh ax
 have aF:=zh ay
 have HN:=zh (d7 nm W1 f1)
 have HV:=zh (dv v W1 HM.out)
 rw[au] at HV
 have ac:=zh hR
 clear hw hd hdn hc hcn hg hgn f1 f2 f3 f4 f5 f6 f7 f8 au av aw ax ay hR
 obtain⟨c0,c1,c2,c3,c4,c5⟩:=ak aq (Below.refl _ _)
 clear c2 c3 c4 c5
 go_enter Tryz.func95,Tryz.ntmps95
 go_wp2_with fail
 clear aq
 refine HN.out.mono ?_
 rintro _ z ⟨rfl,rfl⟩
 have hR:=ac.out
 cases ap:nameB nm
 ·rw[ap,if_pos rfl] at hR
  have HE:=zh hR
  clear ap hR
  go_wp2_with fail
  refine (ai _).mono ?_
  rintro _ z ⟨rfl,rfl⟩
  go_wp2_with fail
  exact⟨rfl,by rw[<-HE.out];rfl,ah.out⟩
 rw[ap,if_neg (by decide)] at hR
 clear ap ac HN
 have ac:=zh hR
 clear hR
 go_wp2_with fail
 refine (ag _).mono ?_
 rintro _ z ⟨rfl,rfl⟩
 go_wp2_with fail
 refine HV.out.mono ?_
 clear HV
 rintro _ u ⟨rfl,hb⟩
 have HU:=zh hb
 have ae:Hid (Below w.heap.size w u):=bt ah.out hb
 clear hb c0 c1
 by_cases h1:x1=0
 case neg =>
  have hR:=ac.out
  rw[if_pos h1] at hR
  have HE:=zh hR
  have HK:Hid (a8 x1=pan x1):=aP h1
  clear hR h1
  rw[HK.out]
  go_wp2_with fail
  exact⟨rfl,by rw[<-HE.out,HK.out],ae.out⟩
 have hR:=ac.out
 subst h1
 rw[if_neg (by simp)] at hR
 clear ac
 have ac:=zh hR
 clear hR
 rw[aQ]
 obtain⟨c0,c1,c2,c3,c4,c5⟩:=ak an.out HU.out
 clear c0 c1 c3 c4 c5
 by_cases aV:dn<=16
 case neg =>
  have hR:=ac.out
  rw[if_pos (by omega)] at hR
  have HE:=zh hR
  have d1:decide ((dn:Int)<=16)=false:=decide_eq_false (by omega)
  clear hR
  go_wp2_with fail
  refine (ai _).mono ?_
  rintro _ z ⟨rfl,rfl⟩
  go_wp2_with fail
  exact⟨rfl,by rw[<-HE.out];rfl,ae.out⟩
 have hR:=ac.out
 rw[if_neg (by omega)] at hR
 clear ac
 have ac:=zh hR
 have d1:decide ((dn:Int)<=16)=true:=decide_eq_true (by omega)
 clear hR
 go_wp2_with fail
 refine (ag _).mono ?_
 rintro _ z ⟨rfl,rfl⟩
 go_wp2_with fail
 go_loopw [21] (fun i wr=>∃ k:Nat,k<=dn/\i=.int .i64 k/\Hid (depsE (deps.drop k)=x2)/\Hid (Below W1.heap.size W1 wr)) (fun i _=>dn-(intOf i).toNat)
 case atStart=>exact⟨0,Nat.zero_le _,rfl,aD.out,HU.out⟩
 case round =>
  clear c2 HU ae
  obtain⟨k,hk,rfl,HH,HW⟩:=hrel
  have af:Hid (Below w.heap.size w wr):=bt ah.out HW.out
  by_cases ar:k<dn
  ·have aj:k<deps.length:=by rw[aA.out];exact ar
   obtain⟨ad,B,m,d,rfl,hm,hs,hc⟩:=fh HD.out k aj
   have c0:=hc _ af.out
   have al:deps.drop k=deps[k] :: deps.drop (k+1):=List.drop_eq_getElem_cons aj
   obtain⟨f1,f2⟩:=m4 aK.out k aj
   have hh:=HH.out
   rw[al,v9] at hh
   obtain⟨l,hl⟩:=ex (deps[k])
   rw[hl] at hm hs f1 f2 hh
   rw[hm] at hh
   have HS:=zh hs
   have aG:=zh hm
   have aR:=zh f1
   have aS:=zh f2
   clear hc al hl f1 f2 hs hm
   by_cases aW:1<=m
   case neg =>
    rw[if_neg (by omega)] at hh
    have hR:=ac.out
    rw[<-hh,if_pos (by decide)] at hR
    have HE:=zh hR
    have d2:decide (1<=(m:Int))=false:=decide_eq_false (by omega)
    clear hR hh
    go_wp2_with fail
    refine (ai _).mono ?_
    rintro _ z ⟨rfl,rfl⟩
    go_wp2_with fail
    exact⟨rfl,by rw[<-HE.out];rfl,af.out⟩
   have d2:decide (1<=(m:Int))=true:=decide_eq_true (by omega)
   by_cases aX:m<=8
   case neg =>
    rw[if_neg (by omega)] at hh
    have hR:=ac.out
    rw[<-hh,if_pos (by decide)] at hR
    have HE:=zh hR
    have d3:decide ((m:Int)<=8)=false:=decide_eq_false (by omega)
    clear hR hh
    go_wp2_with fail
    refine (ai _).mono ?_
    rintro _ z ⟨rfl,rfl⟩
    go_wp2_with fail
    exact⟨rfl,by rw[<-HE.out];rfl,af.out⟩
   have d3:decide ((m:Int)<=8)=true:=decide_eq_true (by omega)
   rw[if_pos (by omega)] at hh
   obtain⟨y,hy⟩:=ex (atomsE l)
   have HA:=zh (fi B m d l wr (aa HM.out HW.out) aG.out (aB HS.out af.out) (by rw[<-aG.out];exact aR.out) aS.out)
   rw[hy] at HA hh
   have am:=zh hh
   clear hh hy
   go_wp2_with fail
   refine (ag _).mono ?_
   rintro _ z ⟨rfl,rfl⟩
   go_wp2_with fail
   refine HA.out.mono ?_
   rintro _ u2 ⟨rfl,hb⟩
   have HU:=zh (bt HW.out hb)
   have ae:Hid (Below w.heap.size w u2):=bt ah.out HU.out
   clear hb c0 HA
   by_cases h0:y=0
   ·subst h0
    have HE:Hid (depsE (deps.drop (k+1))=x2):=by have:=am.out;rw[if_pos rfl] at this;exact this
    rw[aQ]
    go_wp2_with fail
    go_roundw
    case rel=>exact⟨k+1,by omega,by go_num,HE,HU.out⟩
    case measure=>simp[intOf];omega
   ·have hh:=am.out
    rw[if_neg h0] at hh
    have hR:=ac.out
    rw[<-hh,if_pos h0] at hR
    have HE:=zh hR
    have HK:Hid (a8 y=pan y):=aP h0
    clear hR h0 hh
    rw[HK.out]
    go_wp2_with fail
    exact⟨rfl,by rw[<-HE.out,HK.out],ae.out⟩
  ·obtain rfl:k=dn:=by omega
   have h2:0=x2:=by rw[<-HH.out,List.drop_eq_nil_of_le (by rw[aA.out];exact Nat.le_refl _)];rfl
   have hR:=ac.out
   rw[<-h2,if_neg (by simp)] at hR
   clear ac HH aD h2
   have ac:=zh hR
   clear hR
   obtain⟨c0,c1,c2,c3,c4,c5⟩:=ak an.out HW.out
   clear c0 c1 c2 c4 c5
   by_cases aY:cn<=16
   case neg =>
    have hR:=ac.out
    rw[if_pos (by omega)] at hR
    have HE:=zh hR
    have d2:decide ((cn:Int)<=16)=false:=decide_eq_false (by omega)
    clear hR
    go_wp2_with fail
    refine (ai _).mono ?_
    rintro _ z ⟨rfl,rfl⟩
    go_wp2_with fail
    exact⟨rfl,by rw[<-HE.out];rfl,af.out⟩
   have hR:=ac.out
   rw[if_neg (by omega)] at hR
   clear ac
   have ac:=zh hR
   have d2:decide ((cn:Int)<=16)=true:=decide_eq_true (by omega)
   clear hR
   have HA:=zh (fi C cn cc confl wr (aa HM.out HW.out) aJ.out (aB HC.out af.out) aI aL.out)
   rw[aO.out] at HA
   go_wp2_with fail
   refine (ag _).mono ?_
   rintro _ z ⟨rfl,rfl⟩
   go_wp2_with fail
   refine HA.out.mono ?_
   rintro _ u2 ⟨rfl,hb⟩
   have HU:=zh (bt HW.out hb)
   have ae:Hid (Below w.heap.size w u2):=bt ah.out HU.out
   clear hb c3 HA HW af
   by_cases h3:x3=0
   case neg =>
    have hR:=ac.out
    rw[if_pos h3] at hR
    have HE:=zh hR
    have HK:Hid (a8 x3=pan x3):=aP h3
    clear hR h3
    rw[HK.out]
    go_wp2_with fail
    exact⟨rfl,by rw[<-HE.out,HK.out],ae.out⟩
   have hR:=ac.out
   rw[if_neg (by simp[h3])] at hR
   rw[h3,aQ]
   clear ac h3
   have ac:=zh hR
   clear hR
   obtain⟨c0,c1,c2,c3,c4,c5⟩:=ak an.out HU.out
   clear c0 c1 c2 c3 c5
   by_cases aZ:gn<=16
   case neg =>
    have hR:=ac.out
    rw[if_pos (by omega)] at hR
    have HE:=zh hR
    have d3:decide ((gn:Int)<=16)=false:=decide_eq_false (by omega)
    clear hR
    go_wp2_with fail
    refine (ai _).mono ?_
    rintro _ z ⟨rfl,rfl⟩
    go_wp2_with fail
    exact⟨rfl,by rw[<-HE.out];rfl,ae.out⟩
   have hR:=ac.out
   rw[if_neg (by omega)] at hR
   clear ac
   have ac:=zh hR
   have d3:decide ((gn:Int)<=16)=true:=decide_eq_true (by omega)
   clear hR
   go_wp2_with fail
   refine (ag _).mono ?_
   rintro _ z ⟨rfl,rfl⟩
   go_wp2_with fail
   go_loopw [53] (fun i wr=>∃ k:Nat,k<=gn/\i=.int .i64 k/\Hid (givesE (prov.drop k)=x4)/\Hid (Below W1.heap.size W1 wr)) (fun i _=>gn-(intOf i).toNat)
   case atStart=>exact⟨0,Nat.zero_le _,rfl,aE.out,HU.out⟩
   case round =>
    clear c4 HU ae
    obtain⟨k,hk,rfl,HH,HW⟩:=hrel
    have af:Hid (Below w.heap.size w wr):=bt ah.out HW.out
    by_cases ar:k<gn
    ·have aj:k<prov.length:=by rw[aC.out];exact ar
     obtain⟨ad,rfl,hc⟩:=gJ HG.out k aj
     obtain⟨c0,c1⟩:=hc _ af.out
     have al:prov.drop k=prov[k] :: prov.drop (k+1):=List.drop_eq_getElem_cons aj
     obtain⟨f1,f2⟩:=acb aM.out k aj
     have hh:=HH.out
     rw[al,tu] at hh
     obtain⟨a,ha⟩:=ex (prov[k])
     rw[ha] at c0 c1 f1 hh
     obtain⟨az,gv⟩:=a
     dsimp only at c0 c1 f1
     obtain⟨V,hV⟩:=ex (wr.alloc (.cells #[.string ⟨az.toArray⟩,.string ⟨gv.toArray⟩] 128))
     have aH:Hid (Below W1.heap.size W1 V):=HW.out.trans ((ab hV).mono HW.out.size)
     obtain⟨v0,v1⟩:=ao hV (Below.refl _ _)
     have HA:=zh (lT ⟨az,gv⟩ V (aa HM.out aH.out) f1)
     obtain⟨y,hy⟩:=ex (giveE ⟨az,gv⟩)
     rw[hy] at HA hh
     have am:=zh hh
     clear hc al ha f1 f2 hh hy
     go_wp2_with fail
     clear hV
     refine HA.out.mono ?_
     rintro _ u2 ⟨rfl,hb⟩
     have HU:=zh (bt aH.out hb)
     have ae:Hid (Below w.heap.size w u2):=bt ah.out HU.out
     clear hb c0 c1 v0 v1 HA
     by_cases h0:y=0
     ·subst h0
      have HE:Hid (givesE (prov.drop (k+1))=x4):=by have:=am.out;rw[if_pos rfl] at this;exact this
      rw[aQ]
      go_wp2_with fail
      go_roundw
      case rel=>exact⟨k+1,by omega,by go_num,HE,HU.out⟩
      case measure=>simp[intOf];omega
     ·have hh:=am.out
      rw[if_neg h0] at hh
      have hR:=ac.out
      rw[<-hh,if_pos h0] at hR
      have HE:=zh hR
      have HK:Hid (a8 y=pan y):=aP h0
      clear hR h0 hh
      rw[HK.out]
      go_wp2_with fail
      exact⟨rfl,by rw[<-HE.out,HK.out],ae.out⟩
    ·obtain rfl:k=gn:=by omega
     have h2:0=x4:=by rw[<-HH.out,List.drop_eq_nil_of_le (by rw[aC.out];exact Nat.le_refl _)];rfl
     have hR:=ac.out
     rw[<-h2,if_neg (by simp)] at hR
     clear ac HH aE h2
     have HR:=zh hR
     clear hR
     obtain⟨c0,c1,c2,c3,c4,c5⟩:=ak an.out HW.out
     clear c0 c1 c2 c3 c4
     have HA:=zh (uJ wt aN.out wr)
     rw[aF.out,HR.out] at HA
     clear aF HR
     go_wp2_with fail
     refine HA.out.mono ?_
     rintro _ u2 ⟨rfl,rfl⟩
     go_wp2_with fail
     refine (bN R _).mono ?_
     rintro _ u2 ⟨rfl,rfl⟩
     by_cases h0:R=0
     ·subst h0
      rw[aQ]
      go_wp2_with fail
      go_end0
      exact⟨rfl,af.out⟩
     ·have HK:Hid (a8 R=pan R):=aP h0
      clear h0
      rw[HK.out]
      go_wp2_with fail
      exact⟨rfl,by rw[HK.out],af.out⟩
end
section
open Go.RowKit Rs At Pg
theorem q9 (p:Addr)(x:Int)(n:Int)(w:World)(hc:w.cell? p=some (.int .i64 x))(hz:w.frozen? p=false) :
  CallsD Tryz.prog 94 #[.pointer (some p)] (.panicking [{ v:=.iface 29 (.int .i64 n),recovered:=false }]) w fun e u' w' =>
   e=.returned (.tuple #[])/\u'=.panicking [{ v:=.iface 29 (.int .i64 n),recovered:=true }]/\w'=w.setCell p (.int .i64 n):=by
 refine callsD_of_wpS Tryz.func94 rfl fun c₀ cs hu=>?_
 apply wpS_region
 simp[wpOpsS,go_sem,recoverD,hu,Tryz.ntmps94]
 refine (bE n _).mono ?_
 rintro e w' ⟨rfl,rfl⟩
 simp[go_sem,hc,hz,bodyPostS,results,Tryz.results94]
theorem tv (p:Addr)(x:Int)(w:World)(hc:w.cell? p=some (.int .i64 x))(hz:w.frozen? p=false) :
  CallsD Tryz.prog 94 #[.pointer (some p)] .returning w fun e u' w'=>e=.returned (.tuple #[])/\u'=.returning/\w'=w.setCell p (.int .i64 0):=by
 refine callsD_of_wpS Tryz.func94 rfl fun c₀ cs hu=>?_
 apply wpS_region
 simp[wpOpsS,go_sem,recoverD,hu,Tryz.ntmps94]
 refine (bD _).mono ?_
 rintro e w' ⟨rfl,rfl⟩
 cases c₀
 simp_all [go_sem,bodyPostS,results,Tryz.results94]
attribute [local go_sem ↓] Go.wp_at_zero Go.wp_at_succ
theorem re (p:Pk)(D C G:Option Addr)(dn dc cn cc gn gc:Nat)(w:World)(hw:MaxOk w)(hd:Pg.DRow w D p.deps)(hdn:p.deps.length=dn)(hc:ARow w C p.confl)(hcn:p.confl.length=cn)(hg:GRow w G p.prov)(hgn:p.prov.length=gn)(hf:PFew p) :
  Calls Tryz.prog 62 #[.agg #[.string ⟨p.name.toArray⟩,.string ⟨p.ver.toArray⟩,.slice D dn dc,.slice C cn cc,.slice G gn gc,.float .f64 p.wt]] w fun e w'=>e=.returned (.int .i64 (checkP p))/\Below w.heap.size w w':=by
 have aq:∀ (fn:Fn) (first cap:Array Value) (w:World),(Instr.makeFunc fn first cap).run Tryz.prog w=.ok (.func fn first cap) w:=fun _ _ _ _=>rfl
 obtain⟨K,hK⟩:=ex (checkP p)
 rw[hK]
 obtain⟨W1,af⟩:=ex (w.alloc (.cells #[.string ⟨p.name.toArray⟩,.string ⟨p.ver.toArray⟩,.slice D dn dc,.slice C cn cc,.slice G gn gc,.float .f64 p.wt] 39))
 have an:=zh (ab af)
 have ai:W1.heap.size=w.heap.size+1:=by rw[<-af];simp
 obtain⟨W2,ag⟩:=ex (W1.alloc (.cells #[.int .i64 0] 29))
 have aj:=zh (ab ag)
 have ae:Hid (Below w.heap.size w W2):=bt an.out aj.out
 have HR:=zh (m6 p D C G dn dc cn cc gn gc W2 (aa hw ae.out) (aX hd ae.out) hdn (aB hc ae.out) hcn (Rg.ah hg ae.out) hgn hf)
 rw[hK] at HR
 obtain⟨k0,k1,k2,k3,k4,k5⟩:=ak af aj.out
 have ao:=zh ag
 clear hw hd hdn hc hcn hg hgn hf hK
 go_enter_defers Tryz.func62,Tryz.ntmps62
 go_wp2_with fail
 have ap:=zh ai
 clear af ag ai
 refine HR.out.mono ?_
 rintro _ w1 ⟨rfl,hb⟩
 have al:Below (W1.heap.size+1) (W1.alloc (.cells #[.int .i64 0] 29)) w1:=by have h:=hb;rw[<-ao.out] at h;simpa using h
 obtain⟨ac,ad⟩:=aT W1 w1 _ _ al
 have am:Hid (Below w.heap.size w w1):=bt ae.out hb
 rw[ap.out] at ac ad
 clear hb al k0 k1 k2 k3 k4 k5 HR
 by_cases hk:K=0
 ·subst hk
  rw[aQ]
  go_wp2_with fail
  refine leaves_cons (f:=94) (args:=#[.pointer (some ⟨w.heap.size+1,0,none⟩)]) (by simp) (by simp[go_sem]) ?_
  refine (tv ⟨w.heap.size+1,0,none⟩ 0 _ ?_ ?_).mono ?_
  ·simp[go_sem,ac]
  ·simp[go_sem,ad]
  rintro e u' w3 ⟨rfl,rfl,rfl⟩
  simp[Leaves,settle,results,Tryz.results62,go_sem,ac]
  exact (am.out.setCell (Nat.le_succ _) _).setCell (Nat.le_succ _) _
 ·rw[aP hk]
  go_wp2_with fail
  refine leaves_cons (f:=94) (args:=#[.pointer (some ⟨w.heap.size+1,0,none⟩)]) (by simp) (by simp[go_sem]) ?_
  refine (q9 ⟨w.heap.size+1,0,none⟩ 0 _ _ ?_ ?_).mono ?_
  ·simp[go_sem,ac]
  ·simp[go_sem,ad]
  rintro e u' w3 ⟨rfl,rfl,rfl⟩
  simp[Leaves,settle,results,Tryz.results62,go_sem,ac]
  exact am.out.setCell (Nat.le_succ _) _
end
section
open Go.RowKit Rs At Pg
attribute [local go_sem ↓] Go.wp_at_zero Go.wp_at_succ
theorem tA (A B:Option Addr)(n m c d:Nat)(l k:List Atm)(w:World)(hn:l.length=n)(hm:k.length=m)(hr:ARow w A l)(hq:ARow w B k)(hl:n<=1000000)(hf:AFew l)(hg:AFew k) :
  Calls Tryz.prog 68 #[.slice A n c,.slice B m d,.func (.func 69) #[] #[]] w fun e w'=>e=.returned (.bool (decide (l=k)))/\Below w.heap.size w w':=by
 obtain⟨X,hX⟩:=ex (decide (l=k))
 rw[hX]
 have HX:=zh hX
 have HR:=zh hr
 have HQ:=zh hq
 have HN:=zh hn
 have HM:=zh hm
 have HF:=zh hf
 have HG:=zh hg
 clear hX hr hq hn hm hf hg
 by_cases hlen:n=m
 ·have hd:((n:Int) != m)=false:=by rw[hlen];simp
  have HL:=zh hlen
  clear hlen
  go_enter Tryz.func68,Tryz.ntmps68
  go_wp2_with fail
  clear hd
  go_loopw [17] (fun i wr=>∃ j:Nat,j<=n/\i=.int .i64 j/\Hid (l.take j=k.take j)/\Hid (Below w.heap.size w wr)) (fun i _=>n-(intOf i).toNat)
  case atStart=>exact⟨0,Nat.zero_le _,rfl,rfl,Below.refl _ _⟩
  case round =>
   obtain⟨j,hj,rfl,HT,HW⟩:=hrel
   by_cases ak:j<n
   ·have af:j<m:=by have:=HL.out;omega
    have h1:j<l.length:=by rw[HN.out];exact ak
    have h2:j<k.length:=by rw[HM.out];exact af
    obtain⟨ad,C,x,cx,rfl,hx,hs,hc⟩:=dJ HR.out j h1
    obtain⟨ae,C',y,cy,rfl,hy,ht,he⟩:=dJ HQ.out j h2
    obtain⟨f1,f2⟩:=gK HF.out j h1
    obtain⟨g1,g2⟩:=gK HG.out j h2
    have aa:Hid (l[j]=k[j]->l.take (j+1)=k.take (j+1)):=fun q=>by
     rw[List.take_succ_eq_append_getElem h1,List.take_succ_eq_append_getElem h2,HT.out,q]
    have ac:Hid (l[j]≠k[j]->X=false):=fun q=>by
     rw[<-HX.out];exact decide_eq_false fun h=>q (by subst h;rfl)
    obtain⟨a,ha⟩:=ex (l[j])
    obtain⟨b,hb⟩:=ex (k[j])
    rw[ha] at hx hs f2
    rw[hb] at hy ht g2
    rw[ha,hb] at aa ac
    obtain⟨c0,c1⟩:=hc _ HW.out
    rw[ha] at c0
    obtain⟨na,ra⟩:=a
    obtain⟨nb,rb⟩:=b
    dsimp only at hx hs f2 hy ht g2 c0
    obtain⟨V,hV⟩:=ex (wr.alloc (.cells #[.string ⟨na.toArray⟩,.slice C x cx] 54))
    have ag:Hid (Below w.heap.size w V):=HW.out.trans ((ab hV).mono HW.out.size)
    obtain⟨e0,e1⟩:=he _ ag.out
    rw[hb] at e0
    dsimp only at e0
    obtain⟨U,hU⟩:=ex (V.alloc (.cells #[.string ⟨nb.toArray⟩,.slice C' y cy] 54))
    have ah:Hid (Below w.heap.size w U):=ag.out.trans ((ab hU).mono ag.out.size)
    obtain⟨u0,u1⟩:=ao hV (ab hU)
    obtain⟨u2,u3⟩:=ao hU (Below.refl _ _)
    have HS:=zh (ji na nb C C' x y cx cy ra rb U hx hy (aj hs ah.out) (aj ht ah.out) (by omega) (by omega))
    clear hc he ha hb hx hs f1 f2 hy ht g1 g2 h1 h2
    go_wp2_with fail
    clear hV hU
    refine HS.out.mono ?_
    rintro _ u ⟨rfl,hb⟩
    have HU:Hid (Below w.heap.size w u):=bt ah.out hb
    clear hb HS c0 c1 e0 e1 u0 u1 u2 u3
    by_cases hq:(⟨na,ra⟩:Atm)=⟨nb,rb⟩
    ·rw[decide_eq_true hq]
     have al:=zh (aa.out hq)
     clear aa ac hq
     go_wp2_with fail
     go_roundw
     case rel=>exact⟨j+1,by omega,by go_num,al.out,HU.out⟩
     case measure=>simp[intOf];omega
    ·rw[decide_eq_false hq]
     have ai:=zh (ac.out hq)
     clear aa ac hq
     go_wp2_with fail
     go_ret
     exact⟨by rw[ai.out];rfl,HU.out⟩
   ·obtain rfl:j=n:=by omega
    have am:Hid (X=true):=by
     show _=_
     have:=HT.out
     rw[List.take_of_length_le (by rw[HN.out];exact Nat.le_refl _),List.take_of_length_le (by rw[HM.out,HL.out];exact Nat.le_refl _)] at this
     rw[<-HX.out];exact decide_eq_true this
    clear HT
    go_wp2_with fail
    go_ret
    exact⟨by rw[am.out];rfl,HW.out⟩
 ·have hd:((n:Int) != m)=true:=by simp;omega
  have ai:Hid (X=false):=by show _=_;rw[<-HX.out];exact decide_eq_false fun h=>hlen (by rw[<-HN.out,<-HM.out,h])
  go_enter Tryz.func68,Tryz.ntmps68
  go_wp2_with fail
  go_ret
  exact⟨by rw[ai.out];rfl,Below.refl _ _⟩
theorem yb (A B:Option Addr)(n m c d:Nat)(l k:List Atm)(w:World)(hn:l.length=n)(hm:k.length=m)(hr:ARow w A l)(hq:ARow w B k)(hl:n<=1000000)(hf:AFew l)(hg:AFew k) :
  Calls Tryz.prog 104 #[.slice A n c,.slice B m d,.func (.func 69) #[] #[]] w fun e w'=>e=.returned (.bool (decide (l=k)))/\Below w.heap.size w w':=by
 obtain⟨X,hX⟩:=ex (decide (l=k))
 rw[hX]
 have HX:=zh hX
 have HR:=zh hr
 have HQ:=zh hq
 have HN:=zh hn
 have HM:=zh hm
 have HF:=zh hf
 have HG:=zh hg
 clear hX hr hq hn hm hf hg
 by_cases hlen:n=m
 ·have hd:((n:Int) != m)=false:=by rw[hlen];simp
  have HL:=zh hlen
  clear hlen
  go_enter Tryz.func104,Tryz.ntmps104
  go_wp2_with fail
  clear hd
  go_loopw [17] (fun i wr=>∃ j:Nat,j<=n/\i=.int .i64 j/\Hid (l.take j=k.take j)/\Hid (Below w.heap.size w wr)) (fun i _=>n-(intOf i).toNat)
  case atStart=>exact⟨0,Nat.zero_le _,rfl,rfl,Below.refl _ _⟩
  case round =>
   obtain⟨j,hj,rfl,HT,HW⟩:=hrel
   by_cases ak:j<n
   ·have af:j<m:=by have:=HL.out;omega
    have h1:j<l.length:=by rw[HN.out];exact ak
    have h2:j<k.length:=by rw[HM.out];exact af
    obtain⟨ad,C,x,cx,rfl,hx,hs,hc⟩:=dJ HR.out j h1
    obtain⟨ae,C',y,cy,rfl,hy,ht,he⟩:=dJ HQ.out j h2
    obtain⟨f1,f2⟩:=gK HF.out j h1
    obtain⟨g1,g2⟩:=gK HG.out j h2
    have aa:Hid (l[j]=k[j]->l.take (j+1)=k.take (j+1)):=fun q=>by
     rw[List.take_succ_eq_append_getElem h1,List.take_succ_eq_append_getElem h2,HT.out,q]
    have ac:Hid (l[j]≠k[j]->X=false):=fun q=>by
     rw[<-HX.out];exact decide_eq_false fun h=>q (by subst h;rfl)
    obtain⟨a,ha⟩:=ex (l[j])
    obtain⟨b,hb⟩:=ex (k[j])
    rw[ha] at hx hs f2
    rw[hb] at hy ht g2
    rw[ha,hb] at aa ac
    obtain⟨c0,c1⟩:=hc _ HW.out
    rw[ha] at c0
    obtain⟨na,ra⟩:=a
    obtain⟨nb,rb⟩:=b
    dsimp only at hx hs f2 hy ht g2 c0
    obtain⟨V,hV⟩:=ex (wr.alloc (.cells #[.string ⟨na.toArray⟩,.slice C x cx] 54))
    have ag:Hid (Below w.heap.size w V):=HW.out.trans ((ab hV).mono HW.out.size)
    obtain⟨e0,e1⟩:=he _ ag.out
    rw[hb] at e0
    dsimp only at e0
    obtain⟨U,hU⟩:=ex (V.alloc (.cells #[.string ⟨nb.toArray⟩,.slice C' y cy] 54))
    have ah:Hid (Below w.heap.size w U):=ag.out.trans ((ab hU).mono ag.out.size)
    obtain⟨u0,u1⟩:=ao hV (ab hU)
    obtain⟨u2,u3⟩:=ao hU (Below.refl _ _)
    have HS:=zh (ji na nb C C' x y cx cy ra rb U hx hy (aj hs ah.out) (aj ht ah.out) (by omega) (by omega))
    clear hc he ha hb hx hs f1 f2 hy ht g1 g2 h1 h2
    go_wp2_with fail
    clear hV hU
    refine HS.out.mono ?_
    rintro _ u ⟨rfl,hb⟩
    have HU:Hid (Below w.heap.size w u):=bt ah.out hb
    clear hb HS c0 c1 e0 e1 u0 u1 u2 u3
    by_cases hq:(⟨na,ra⟩:Atm)=⟨nb,rb⟩
    ·rw[decide_eq_true hq]
     have al:=zh (aa.out hq)
     clear aa ac hq
     go_wp2_with fail
     go_roundw
     case rel=>exact⟨j+1,by omega,by go_num,al.out,HU.out⟩
     case measure=>simp[intOf];omega
    ·rw[decide_eq_false hq]
     have ai:=zh (ac.out hq)
     clear aa ac hq
     go_wp2_with fail
     go_ret
     exact⟨by rw[ai.out];rfl,HU.out⟩
   ·obtain rfl:j=n:=by omega
    have am:Hid (X=true):=by
     show _=_
     have:=HT.out
     rw[List.take_of_length_le (by rw[HN.out];exact Nat.le_refl _),List.take_of_length_le (by rw[HM.out,HL.out];exact Nat.le_refl _)] at this
     rw[<-HX.out];exact decide_eq_true this
    clear HT
    go_wp2_with fail
    go_ret
    exact⟨by rw[am.out];rfl,HW.out⟩
 ·have hd:((n:Int) != m)=true:=by simp;omega
  have ai:Hid (X=false):=by show _=_;rw[<-HX.out];exact decide_eq_false fun h=>hlen (by rw[<-HN.out,<-HM.out,h])
  go_enter Tryz.func104,Tryz.ntmps104
  go_wp2_with fail
  go_ret
  exact⟨by rw[ai.out];rfl,Below.refl _ _⟩
theorem tB (A B:Option Addr)(n m c d:Nat)(l k:List Atm)(w:World)(hn:l.length=n)(hm:k.length=m)(hr:ARow w A l)(hq:ARow w B k)(hl:n<=1000000)(hf:AFew l)(hg:AFew k) :
  Calls Tryz.prog 67 #[.slice A n c,.slice B m d] w fun e w'=>e=.returned (.bool (decide (l=k)))/\Below w.heap.size w w':=by
 have HS:=zh (yb A B n m c d l k w hn hm hr hq hl hf hg)
 clear hn hm hr hq hl hf hg
 go_enter Tryz.func67,Tryz.ntmps67
 go_wp2_with fail
 refine HS.out.mono ?_
 rintro _ u ⟨rfl,hb⟩
 have HU:=zh hb
 clear hb
 go_wp2_with fail
 go_ret
 exact⟨rfl,HU.out⟩
theorem we (A B:Option Addr)(n m c d:Nat)(l k:List (List Atm))(w:World)(hn:l.length=n)(hm:k.length=m)(hr:Pg.DRow w A l)(hq:Pg.DRow w B k)(hl:n<=1000000)(hf:DFew l)(hg:DFew k) :
  Calls Tryz.prog 66 #[.slice A n c,.slice B m d,.func (.func 67) #[] #[]] w fun e w'=>e=.returned (.bool (decide (l=k)))/\Below w.heap.size w w':=by
 obtain⟨X,hX⟩:=ex (decide (l=k))
 rw[hX]
 have HX:=zh hX
 have HR:=zh hr
 have HQ:=zh hq
 have HN:=zh hn
 have HM:=zh hm
 have HF:=zh hf
 have HG:=zh hg
 clear hX hr hq hn hm hf hg
 by_cases hlen:n=m
 ·have hd:((n:Int) != m)=false:=by rw[hlen];simp
  have HL:=zh hlen
  clear hlen
  go_enter Tryz.func66,Tryz.ntmps66
  go_wp2_with fail
  clear hd
  go_loopw [17] (fun i wr=>∃ j:Nat,j<=n/\i=.int .i64 j/\Hid (l.take j=k.take j)/\Hid (Below w.heap.size w wr)) (fun i _=>n-(intOf i).toNat)
  case atStart=>exact⟨0,Nat.zero_le _,rfl,rfl,Below.refl _ _⟩
  case round =>
   obtain⟨j,hj,rfl,HT,HW⟩:=hrel
   by_cases ag:j<n
   ·have aa:j<m:=by have:=HL.out;omega
    have h1:j<l.length:=by rw[HN.out];exact ag
    have h2:j<k.length:=by rw[HM.out];exact aa
    obtain⟨ad,C,x,cx,rfl,hx,hs,hc⟩:=fh HR.out j h1
    obtain⟨ae,C',y,cy,rfl,hy,ht,he⟩:=fh HQ.out j h2
    obtain⟨f1,f2⟩:=m4 HF.out j h1
    obtain⟨g1,g2⟩:=m4 HG.out j h2
    have ab:Hid (l[j]=k[j]->l.take (j+1)=k.take (j+1)):=fun q=>by
     rw[List.take_succ_eq_append_getElem h1,List.take_succ_eq_append_getElem h2,HT.out,q]
    have ac:Hid (l[j]≠k[j]->X=false):=fun q=>by
     rw[<-HX.out];exact decide_eq_false fun h=>q (by subst h;rfl)
    have c0:=hc _ HW.out
    have e0:=he _ HW.out
    have HS:=zh (tB C C' x y cx cy l[j] k[j] wr hx hy (aB hs HW.out) (aB ht HW.out) (by omega) f2 g2)
    obtain⟨P,hP⟩:=ex (decide (l[j]=k[j]))
    rw[hP] at HS
    have HP:=zh hP
    clear hc he hx hs f1 f2 hy ht g1 g2 hP
    go_wp2_with fail
    refine HS.out.mono ?_
    rintro _ u ⟨rfl,hb⟩
    have HU:Hid (Below w.heap.size w u):=bt HW.out hb
    clear hb HS c0 e0
    cases P
    ·have af:=zh (ac.out (of_decide_eq_false HP.out))
     clear ab ac HP
     go_wp2_with fail
     go_ret
     exact⟨by rw[af.out];rfl,HU.out⟩
    ·have ah:=zh (ab.out (of_decide_eq_true HP.out))
     clear ab ac HP
     go_wp2_with fail
     go_roundw
     case rel=>exact⟨j+1,by omega,by go_num,ah.out,HU.out⟩
     case measure=>simp[intOf];omega
   ·obtain rfl:j=n:=by omega
    have ai:Hid (X=true):=by
     show _=_
     have:=HT.out
     rw[List.take_of_length_le (by rw[HN.out];exact Nat.le_refl _),List.take_of_length_le (by rw[HM.out,HL.out];exact Nat.le_refl _)] at this
     rw[<-HX.out];exact decide_eq_true this
    clear HT
    go_wp2_with fail
    go_ret
    exact⟨by rw[ai.out];rfl,HW.out⟩
 ·have hd:((n:Int) != m)=true:=by simp;omega
  have af:Hid (X=false):=by show _=_;rw[<-HX.out];exact decide_eq_false fun h=>hlen (by rw[<-HN.out,<-HM.out,h])
  go_enter Tryz.func66,Tryz.ntmps66
  go_wp2_with fail
  go_ret
  exact⟨by rw[af.out];rfl,Below.refl _ _⟩
end
namespace Wm
theorem jQ {x i j:Nat}(h:x<2 ^ i)(hj:i<=j):x.testBit j=false:=Nat.testBit_lt_two_pow (Nat.lt_of_lt_of_le h (Nat.pow_le_pow_right (by decide) hj))
theorem uK (n:Bool){r:Nat}(h:r<9223372036854775808):word n r=(if n then 2 ^ 63 else 0) ||| r:=by
 unfold word
 cases n
 ·simp
 ·rw[if_pos rfl,if_pos rfl,show (9223372036854775808:Nat)=2 ^ 63 from rfl]
  exact Nat.two_pow_add_eq_or_of_lt (i:=63) h 1 |>.symm ▸ by simp
theorem dj (n:Bool){r:Nat}(h:r<9223372036854775808)(i:Nat):(word n r).testBit i=if i=63 then n else r.testBit i:=by
 rw[uK n h,Nat.testBit_or]
 by_cases hi:i=63
 ·subst hi
  rw[if_pos rfl,jQ (i:=63) h (Nat.le_refl _)]
  cases n
  ·simp
  ·rw[if_pos rfl,Nat.testBit_two_pow_self];rfl
 ·rw[if_neg hi]
  cases n
  ·simp
  ·rw[if_pos rfl,Nat.testBit_two_pow_of_ne (Ne.symm hi),Bool.false_or]
theorem jR (b:Nat)(hb:b<W):b=word (neg b) (rung b):=by
 unfold word neg rung W at *
 split
 ·rename_i h;have:=of_decide_eq_true h;omega
 ·rename_i h;have:¬ 9223372036854775808<=b:=fun hh=>h (decide_eq_true hh);omega
theorem fields (p f i:Nat)(hf:f<2 ^ 52):(p*4503599627370496+f).testBit i=if i<52 then f.testBit i else p.testBit (i-52):=by
 rw[show p*4503599627370496+f=2 ^ 52*p+f from by omega]
 exact Nat.testBit_two_pow_mul_add p hf i
theorem aaB (n:Bool){r:Nat}(h:r<9223372036854775808):word n r &&& 9223372036854775808=if n then 9223372036854775808 else 0:=by
 refine Nat.eq_of_testBit_eq fun i=>?_
 rw[Nat.testBit_and,dj n h,show (9223372036854775808:Nat)=2 ^ 63 from rfl]
 by_cases hi:i=63
 ·subst hi
  rw[if_pos rfl,Nat.testBit_two_pow_self]
  cases n
  ·simp
  ·rw[if_pos rfl,Nat.testBit_two_pow_self];rfl
 ·rw[if_neg hi,Nat.testBit_two_pow_of_ne (Ne.symm hi),Bool.and_false]
  cases n
  ·simp
  ·rw[if_pos rfl,Nat.testBit_two_pow_of_ne (Ne.symm hi)]
theorem tC (n:Bool){r:Nat}(h:r<9223372036854775808):word n r &&& 9223372036854775807=r:=by
 rw[show (9223372036854775807:Nat)=2 ^ 63-1 from rfl,Nat.and_two_pow_sub_one_eq_mod]
 have:=(bg n h).1
 unfold rung at this;exact this
theorem acd {r:Nat}(h:r<9223372036854775808):r ||| 9223372036854775808=9223372036854775808+r:=by
 have:=uK true h
 rw[if_pos rfl] at this
 rw[Nat.or_comm,show (9223372036854775808:Nat)=2 ^ 63 from rfl,<-this];rfl
theorem adf (n:Bool){r:Nat}(h:r<9223372036854775808):word n r ||| 9223372036854775807=word n 9223372036854775807:=by
 refine Nat.eq_of_testBit_eq fun i=>?_
 rw[Nat.testBit_or,dj n h,dj n (by decide),show (9223372036854775807:Nat)=2 ^ 63-1 from rfl,Nat.testBit_two_pow_sub_one]
 by_cases hi:i=63
 ·simp[hi]
 ·simp only[if_neg hi]
  by_cases h2:i<63
  ·simp[h2]
  ·rw[jQ (i:=63) h (by omega)];simp[h2]
theorem ace {b:Nat}(hb:b<W):18446744073709551615 ^^^ b=18446744073709551615-b:=by
 refine Nat.eq_of_testBit_eq fun i=>?_
 rw[Nat.testBit_xor,show 18446744073709551615-b=2 ^ 64-(b+1) from by unfold W at hb;omega,Nat.testBit_two_pow_sub_succ hb,show (18446744073709551615:Nat)=2 ^ 64-1 from rfl,Nat.testBit_two_pow_sub_one]
 by_cases h2:i<64
 ·simp[h2]
 ·rw[jQ (i:=64) hb (by omega)];simp[h2]
theorem yc (n:Bool){r:Nat}(h:r<9223372036854775808):word n r &&& 9227875636482146303=word n (r % 4503599627370496):=by
 have hr:r=(r / 4503599627370496)*4503599627370496+r % 4503599627370496:=by omega
 refine Nat.eq_of_testBit_eq fun i=>?_
 rw[Nat.testBit_and,dj n h,dj n (by omega),show (9227875636482146303:Nat)=word true (2 ^ 52-1) from rfl,dj true (by decide),Nat.testBit_two_pow_sub_one,hr,fields _ _ _ (Nat.mod_lt _ (by decide)),<-hr]
 by_cases hi:i=63
 ·simp[hi]
 ·simp only[if_neg hi]
  by_cases h2:i<52
  ·simp[h2]
  ·rw[jQ (i:=52) (x:=r % 4503599627370496) (Nat.mod_lt _ (by decide)) (by omega)];simp[h2]
theorem acf (n:Bool){q f:Nat}(hq:q<2048)(hf:f<4503599627370496):word n f ||| q*4503599627370496=word n (q*4503599627370496+f):=by
 refine Nat.eq_of_testBit_eq fun i=>?_
 rw[Nat.testBit_or,dj n (by omega),dj n (by omega),fields q f i hf]
 have e:=fields q 0 i (by decide)
 rw[Nat.add_zero] at e
 rw[e]
 by_cases hi:i=63
 ·subst hi
  simp only[if_true]
  rw[if_neg (by decide),jQ (i:=11) hq (by decide)];simp
 ·simp only[if_neg hi]
  by_cases h2:i<52
  ·simp[h2]
  ·rw[jQ (i:=52) hf (by omega)];simp[h2]
theorem sgnB (b:Nat)(hb:b<W):bits .and .u64 (b:Int) 9223372036854775808=if neg b then 9223372036854775808 else 0:=by
 have h:=u64_and_nat b 9223372036854775808 hb (by decide)
 have e:=aaB (neg b) (gF b)
 rw[<-jR b hb] at e
 rw[e] at h
 refine h.trans ?_
 cases neg b <;> rfl
theorem absB (b:Nat)(hb:b<W):bits .andNot .u64 (b:Int) 9223372036854775808=(rung b:Int):=by
 have h:=u64_andNot_nat b 9223372036854775808 hb (by decide)
 have e:=tC (neg b) (gF b)
 rw[<-jR b hb] at e
 refine h.trans ?_
 rw[show (18446744073709551615-9223372036854775808:Nat)=9223372036854775807 from rfl,e]
theorem maxB (b:Nat)(hb:b<W):bits .or .u64 (b:Int) 9223372036854775807=(word (neg b) 9223372036854775807:Nat):=by
 have h:=u64_or_nat b 9223372036854775807 hb (by decide)
 have e:=adf (neg b) (gF b)
 rw[<-jR b hb] at e
 exact h.trans (by rw[e])
theorem signB (r:Nat)(h:r<9223372036854775808):bits .or .u64 (r:Int) 9223372036854775808=(9223372036854775808+r:Nat):=by
 have h1:=u64_or_nat r 9223372036854775808 (by omega) (by decide)
 exact h1.trans (by rw[acd h])
theorem xorB (b:Nat)(hb:b<W):bits .xor .u64 18446744073709551615 (b:Int)=(18446744073709551615-b:Nat):=by
 have h1:=u64_xor_nat 18446744073709551615 b (by decide) hb
 exact h1.trans (by rw[ace hb])
theorem clearB (n:Bool)(r:Nat)(h:r<9223372036854775808):bits .andNot .u64 (word n r:Nat) 9218868437227405312=(word n (r % 4503599627370496):Nat):=by
 have h1:=u64_andNot_nat (word n r) 9218868437227405312 (bg n h).2.2 (by decide)
 refine h1.trans ?_
 rw[show (18446744073709551615-9218868437227405312:Nat)=9227875636482146303 from rfl,yc n h]
theorem setB (n:Bool)(q f:Nat)(hq:q<2048)(hf:f<4503599627370496):bits .or .u64 (word n f:Nat) ((q*4503599627370496:Nat):Int)=(word n (q*4503599627370496+f):Nat):=by
 have h1:=u64_or_nat (word n f) (q*4503599627370496) (bg n (by omega)).2.2 (by omega)
 exact h1.trans (by rw[acf n hq hf])
theorem rf (n:Bool){r:Nat}(h:r<9223372036854775808):word n r / 4503599627370496=(if n then 2048 else 0)+r / 4503599627370496/\r / 4503599627370496<2048:=by
 unfold word;cases n <;> simp <;> omega
theorem expB (n:Bool)(r:Nat)(h:r<9223372036854775808):bits .and .u64 ((word n r:Int) / 4503599627370496) 2047=((r / 4503599627370496:Nat):Int):=by
 obtain⟨d1,d2⟩:=rf n h
 have h1:=u64_and_nat (word n r / 4503599627370496) 2047 (by rw[d1];cases n <;> simp <;> omega) (by decide)
 have e:((word n r:Int) / 4503599627370496)=((word n r / 4503599627370496:Nat):Int):=by omega
 rw[e]
 refine h1.trans ?_
 rw[show (2047:Nat)=2 ^ 11-1 from rfl,Nat.and_two_pow_sub_one_eq_mod,d1]
 congr 1
 cases n <;> simp <;> omega
theorem expI (n:Bool)(r:Nat)(h:r<9223372036854775808):bits .and .i64 ((word n r:Int) / 4503599627370496) 2047=((r / 4503599627370496:Nat):Int):=by
 obtain⟨d1,d2⟩:=rf n h
 have e:((word n r:Int) / 4503599627370496)=((word n r / 4503599627370496:Nat):Int):=by omega
 have aa:word n r / 4503599627370496<4096:=by rw[d1];cases n <;> simp <;> omega
 have h1:=bits_mask .i64 63 (by decide) (fun m h0 h1=>by rw[IntKind.wrap_i64];omega) 11 (by decide) ((word n r / 4503599627370496:Nat):Int) (by omega) (by omega)
 rw[e]
 refine (show bits .and .i64 ((word n r / 4503599627370496:Nat):Int) 2047=_ from h1).trans ?_
 rw[d1]
 cases n <;> simp <;> omega
def placeN (b:Nat):Nat:=if nan b then (if neg b then 0 else 18446744073709551615) else (if neg b then 18446744073709551615-b else 9223372036854775808+b)
theorem aaC {b:Nat}(hb:b<W)(h:neg b=false):rung b=b/\b<9223372036854775808:=by
 unfold neg rung W at *
 have:=of_decide_eq_false h;omega
end Wm
section
open Go.RowKit
theorem acg (b:Nat)(hb:b<Wm.W)(w:World) :
  Calls Tryz.prog 254 #[.float .f64 b] w fun e w'=>e=.returned (.float .f64 (Wm.rung b))/\w=w':=by
 have ab:=cV
 have aa:=gI
 have e:=Wm.absB b hb
 go_enter Tryz.func254,Tryz.ntmps254
 go_wp2_with fail
 go_ret
 exact⟨rfl,rfl⟩
theorem uL (b:Nat)(hb:b<Wm.W)(w:World) :
  Calls Tryz.prog 143 #[.float .f64 b] w fun e w'=>e=.returned (.int .u64 (Wm.placeN b))/\w=w':=by
 have ab:=cV
 have hs:IntKind.u64.signed=false:=rfl
 have hm:IntKind.u64.max=18446744073709551615:=rfl
 have e1:=Wm.sgnB b hb
 have e2:=Wm.maxB b hb
 have e3:=Wm.xorB b hb
 go_enter Tryz.func143,Tryz.ntmps143
 go_wp2_with fail
 refine (bZ b hb _).mono ?_
 rintro e w' ⟨rfl,rfl⟩
 cases hn:Wm.nan b
 ·cases hg:Wm.neg b
  ·have e4:=Wm.signB b (Wm.aaC hb hg).2
   rw[hg] at e1
   clear e2 e3
   go_wp2_with fail
   go_ret
   exact⟨by rw[Wm.placeN,hn,hg];rfl,rfl⟩
  ·rw[hg] at e1
   clear e2
   go_wp2_with fail
   go_ret
   exact⟨by rw[Wm.placeN,hn,hg];rfl,rfl⟩
 ·cases hg:Wm.neg b
  ·have aa:bits .or .u64 (b:Int) 9223372036854775807=9223372036854775807:=by rw[e2,hg];rfl
   have e5:bits .and .u64 9223372036854775807 9223372036854775808=0:=by kernel_rfl
   have e6:bits .or .u64 9223372036854775807 9223372036854775808=18446744073709551615:=by kernel_rfl
   clear e1 e2 e3
   go_wp2_with fail
   go_ret
   exact⟨by rw[Wm.placeN,hn,hg];rfl,rfl⟩
  ·have aa:bits .or .u64 (b:Int) 9223372036854775807=18446744073709551615:=by rw[e2,hg];rfl
   have e5:bits .and .u64 18446744073709551615 9223372036854775808=9223372036854775808:=by kernel_rfl
   have e6:bits .xor .u64 18446744073709551615 18446744073709551615=0:=by kernel_rfl
   clear e1 e2 e3
   go_wp2_with fail
   go_ret
   exact⟨by rw[Wm.placeN,hn,hg];rfl,rfl⟩
theorem lU (x:Nat)(w:World) :
  Calls Tryz.prog 175 #[.int .u64 x] w fun e w'=>e=.returned (.bool false)/\w=w':=by
 go_enter Tryz.func175,Tryz.ntmps175
 go_wp2_with fail
 go_ret
 exact⟨by first | rfl | simp,rfl⟩
theorem aaD (x y:Nat)(w:World) :
  Calls Tryz.prog 142 #[.int .u64 x,.int .u64 y] w fun e w'=>e=.returned (.int .i64 (Vm.sgn x y))/\w=w':=by
 obtain⟨v,hv,hc⟩:∃ v:Int,Hid (Vm.sgn x y=v)/\((x<y/\v = -1)\/(y<x/\v=1)\/(x=y/\v=0)):=by
  refine⟨_,zh rfl,?_⟩
  unfold Vm.sgn
  by_cases h1:(x:Int)<y
  ·left;exact⟨by omega,by rw[if_pos h1]⟩
  ·by_cases h2:(y:Int)<x
   ·right;left;exact⟨by omega,by rw[if_neg h1,if_pos h2]⟩
   ·right;right;exact⟨by omega,by rw[if_neg h1,if_neg h2]⟩
 rcases hc with⟨h1,rfl⟩ | ⟨h1,rfl⟩ | ⟨rfl,rfl⟩
 all_goals
  go_enter Tryz.func142,Tryz.ntmps142
  go_wp2_with fail
  refine (lU _ _).mono ?_
  rintro e w' ⟨rfl,rfl⟩
  go_wp2_with fail
  refine (lU _ _).mono ?_
  rintro e w' ⟨rfl,rfl⟩
  go_wp2_with fail
  go_ret
  exact⟨by rw[hv.out];rfl,rfl⟩
theorem yd (a b:Nat)(ha:a<Wm.W)(hb:b<Wm.W)(w:World) :
  Calls Tryz.prog 106 #[.float .f64 a,.float .f64 b] w fun e w'=>e=.returned (.int .i64 (Vm.sgn (Wm.placeN a) (Wm.placeN b)))/\w=w':=by
 go_enter Tryz.func106,Tryz.ntmps106
 go_wp2_with fail
 refine (uL a ha _).mono ?_
 rintro e w' ⟨rfl,rfl⟩
 go_wp2_with fail
 refine (uL b hb _).mono ?_
 rintro e w' ⟨rfl,rfl⟩
 go_wp2_with fail
 refine (aaD _ _ _).mono ?_
 rintro e w' ⟨rfl,rfl⟩
 go_wp2_with fail
 go_ret
 exact⟨rfl,rfl⟩
theorem adg (a b:Nat)(ha:a<Wm.W)(hb:b<Wm.W)(w:World) :
  Calls Tryz.prog 71 #[.float .f64 a,.float .f64 b] w fun e w'=>e=.returned (.bool (Vm.sgn (Wm.placeN a) (Wm.placeN b)==0))/\w=w':=by
 go_enter Tryz.func71,Tryz.ntmps71
 go_wp2_with fail
 refine (yd a b ha hb _).mono ?_
 rintro e w' ⟨rfl,rfl⟩
 go_wp2_with fail
 go_ret
 exact⟨rfl,rfl⟩
end
section
open Go.RowKit Rs At Pg
def GiveT (T:TypeId):Prop := (Tryz.prog.fieldsOf T).toList.map (fun f => (f.name == "_", f.type, f.offset))=[(false, 9, 0), (false, 9, 1)]/\Tryz.prog.underlying T=some (.struct (Tryz.prog.fieldsOf T))/\Tryz.prog.stoodInHeld T=false/\Tryz.prog.eqGuardType Tryz.prog.depth T=false
theorem giveT:GiveT 128:=⟨by kernel_rfl,by kernel_rfl,by kernel_rfl,by kernel_rfl⟩
theorem wg {T:TypeId}(h:GiveT T)(a b:Gv)(w:World) :
  (Op.equalIn 10000 T (.agg #[.string ⟨a.name.toArray⟩,.string ⟨a.ver.toArray⟩]) (.agg #[.string ⟨b.name.toArray⟩,.string ⟨b.ver.toArray⟩])).run Tryz.prog w=.ok (decide (a=b)) w:=by
 obtain⟨nm,v⟩:=a
 obtain⟨aa,v'⟩:=b
 obtain⟨h1,h2,h3,h4⟩:=h
 rw[run_equalIn_struct w 9999 T _ _ h2 h3]
 generalize (Tryz.prog.fieldsOf T).toList=fs at *
 have hl:fs.length=2:=by have:=congrArg List.length h1;simpa using this
 match fs,hl with
 | [f0,f1],_ =>
  simp at h1
  obtain⟨⟨n0,t0,o0⟩,⟨n1,t1,o1⟩⟩:=h1
  simp only[Op.eqFields,n0,n1,t0,t1,o0,o1,ne_eq,not_false_eq_true,if_true]
  simp[go_sem]
  by_cases e0:nm=aa <;> by_cases e1:v=v' <;> simp[e0,e1]
theorem aaE {T:TypeId}(h:GiveT T)(a b:Gv)(w:World) :
  (binOp .neq T (.agg #[.string ⟨a.name.toArray⟩,.string ⟨a.ver.toArray⟩]) (.agg #[.string ⟨b.name.toArray⟩,.string ⟨b.ver.toArray⟩])).run Tryz.prog w=.ok (.bool (!decide (a=b))) w:=by
 rw[run_neq_struct,wg h];rfl
theorem aaF {T:TypeId}(h:GiveT T)(op:BinOp)(x y:Operand)(xs ys:Array Value)(w:World):(eqGuard op T x y (.agg xs) (.agg ys)).run Tryz.prog w=.ok () w:=run_eqGuard_agg w op T x y xs ys h.2.2.2
attribute [local go_sem ↓] Go.wp_at_zero Go.wp_at_succ
theorem tD (A B:Option Addr)(n m c d:Nat)(l k:List Gv)(w:World)(hn:l.length=n)(hm:k.length=m)(hr:GRow w A l)(hq:GRow w B k)(hl:n<=1000000) :
  Calls Tryz.prog 70 #[.slice A n c,.slice B m d] w fun e w'=>e=.returned (.bool (decide (l=k)))/\Below w.heap.size w w':=by
 obtain⟨X,hX⟩:=ex (decide (l=k))
 rw[hX]
 have HX:=zh hX
 have HR:=zh hr
 have HQ:=zh hq
 have HN:=zh hn
 have HM:=zh hm
 clear hX hr hq hn hm
 by_cases hlen:n=m
 ·have hd:((n:Int) != m)=false:=by rw[hlen];simp
  have HL:=zh hlen
  clear hlen
  go_enter Tryz.func70,Tryz.ntmps70
  go_wp2_with fail
  clear hd
  go_loopw [13] (fun i wr=>∃ j:Nat,j<=n/\i=.int .i64 j/\Hid (l.take j=k.take j)/\∃ x,wr=w.drewN x) (fun i _=>n-(intOf i).toNat)
  case atStart=>exact⟨0,Nat.zero_le _,rfl,rfl,0,rfl⟩
  case round =>
   obtain⟨j,hj,rfl,HT,x,rfl⟩:=hrel
   by_cases ai:j<n
   ·have af:j<m:=by have:=HL.out;omega
    have h1:j<l.length:=by rw[HN.out];exact ai
    have h2:j<k.length:=by rw[HM.out];exact af
    obtain⟨ad,rfl,hc⟩:=gJ HR.out j h1
    obtain⟨ae,rfl,he⟩:=gJ HQ.out j h2
    have aa:Hid (l[j]=k[j]->l.take (j+1)=k.take (j+1)):=fun q=>by
     rw[List.take_succ_eq_append_getElem h1,List.take_succ_eq_append_getElem h2,HT.out,q]
    have ab:Hid (l[j]≠k[j]->X=false):=fun q=>by
     rw[<-HX.out];exact decide_eq_false fun h=>q (by subst h;rfl)
    obtain⟨c0,c1⟩:=hc _ (Below.refl _ _)
    obtain⟨e0,e1⟩:=he _ (Below.refl _ _)
    generalize l[j]=a at c0 c1 aa ab
    generalize k[j]=b at e0 e1 aa ab
    have ac:=aaE giveT a b
    have ah:∀ (x y:Operand) (W:World),(eqGuard .neq 128 x y (.agg #[.string ⟨a.name.toArray⟩,.string ⟨a.ver.toArray⟩]) (.agg #[.string ⟨b.name.toArray⟩,.string ⟨b.ver.toArray⟩])).run Tryz.prog W=.ok () W:=fun x y W=>aaF giveT .neq x y _ _ W
    clear hc he h1 h2
    by_cases hq:a=b
    ·rw[decide_eq_true hq] at ac
     have aj:=zh (aa.out hq)
     clear aa ab hq HT
     go_wp2_with fail
     go_quiet (fail)
     clear ac ah c0 c1 e0 e1
     go_wp2_with fail
     go_roundw
     case rel=>exact⟨j+1,by omega,by go_num,aj.out,_,rfl⟩
     case measure=>simp[intOf];omega
    ·rw[decide_eq_false hq] at ac
     have ag:=zh (ab.out hq)
     clear aa ab hq HT
     go_wp2_with fail
     go_quiet (fail)
     clear ac ah c0 c1 e0 e1
     go_wp2_with fail
     go_ret
     exact⟨by rw[ag.out];rfl,below_drewN (below_drewN (Below.refl _ _) _) _⟩
   ·obtain rfl:j=n:=by omega
    have ak:Hid (X=true):=by
     show _=_
     have:=HT.out
     rw[List.take_of_length_le (by rw[HN.out];exact Nat.le_refl _),List.take_of_length_le (by rw[HM.out,HL.out];exact Nat.le_refl _)] at this
     rw[<-HX.out];exact decide_eq_true this
    clear HT
    go_wp2_with fail
    go_ret
    exact⟨by rw[ak.out];rfl,below_drewN (Below.refl _ _) _⟩
 ·have hd:((n:Int) != m)=true:=by simp;omega
  have ag:Hid (X=false):=by show _=_;rw[<-HX.out];exact decide_eq_false fun h=>hlen (by rw[<-HN.out,<-HM.out,h])
  go_enter Tryz.func70,Tryz.ntmps70
  go_wp2_with fail
  go_ret
  exact⟨by rw[ag.out];rfl,Below.refl _ _⟩
def Pg.samP (p q:Pk):Bool:=decide (p.name=q.name)&&(decide (p.ver=q.ver)&&(decide (p.deps=q.deps)&&(decide (p.confl=q.confl)&&(decide (p.prov=q.prov)&&(Vm.sgn (Wm.placeN p.wt) (Wm.placeN q.wt)==0)))))
theorem tE (p q:Pk)(D C G D' C' G':Option Addr)(dn dc cn cc gn gc dn' dc' cn' cc' gn' gc':Nat)(w:World)(hd:Pg.DRow w D p.deps)(hdn:p.deps.length=dn)(hc:ARow w C p.confl)(hcn:p.confl.length=cn)(hg:GRow w G p.prov)(hgn:p.prov.length=gn)(hf:PFew p)(hd':Pg.DRow w D' q.deps)(hdn':q.deps.length=dn')(hc':ARow w C' q.confl)(hcn':q.confl.length=cn')(hg':GRow w G' q.prov)(hgn':q.prov.length=gn')(hf':PFew q) :
  Calls Tryz.prog 40 #[.agg #[.string ⟨p.name.toArray⟩,.string ⟨p.ver.toArray⟩,.slice D dn dc,.slice C cn cc,.slice G gn gc,.float .f64 p.wt],.agg #[.string ⟨q.name.toArray⟩,.string ⟨q.ver.toArray⟩,.slice D' dn' dc',.slice C' cn' cc',.slice G' gn' gc',.float .f64 q.wt]] w fun e w'=>e=.returned (.bool (samP p q))/\Below w.heap.size w w':=by
 obtain⟨nm,v,deps,confl,prov,wt⟩:=p
 obtain⟨al,v',ac,aa,ad,ao⟩:=q
 obtain⟨R,hR⟩:=ex (samP ⟨nm,v,deps,confl,prov,wt⟩ ⟨al,v',ac,aa,ad,ao⟩)
 rw[hR]
 unfold samP at hR
 dsimp only at hd hdn hc hcn hg hgn hd' hdn' hc' hcn' hg' hgn' hR ⊢
 obtain⟨-,f2,f3,f4,f5,f6,-,f8⟩:=hf
 obtain⟨-,-,av,-,aw,-,-,ax⟩:=hf'
 dsimp only at f2 f3 f4 f5 f6 f8 av aw ax
 have ay:dn<=1000000:=by omega
 have az:cn<=1000000:=by omega
 have aA:gn<=1000000:=by omega
 obtain⟨V,hV⟩:=ex (w.alloc (.cells #[.string ⟨nm.toArray⟩,.string ⟨v.toArray⟩,.slice D dn dc,.slice C cn cc,.slice G gn gc,.float .f64 wt] 39))
 obtain⟨U,hU⟩:=ex (V.alloc (.cells #[.string ⟨al.toArray⟩,.string ⟨v'.toArray⟩,.slice D' dn' dc',.slice C' cn' cc',.slice G' gn' gc',.float .f64 ao] 39))
 have HV:=zh hV
 have HU:=zh hU
 have ai:Hid (Below V.heap.size V U):=ab hU
 have HB:Hid (Below w.heap.size w U):=(ab hV).trans (ai.out.mono (ab hV).size)
 have HD:=zh (fun W (hb:Below w.heap.size w W)=>we D D' dn dn' dc dc' deps ac W hdn hdn' (aX hd hb) (aX hd' hb) ay f3 av)
 have HC:=zh (fun W (hb:Below w.heap.size w W)=>tA C C' cn cn' cc cc' confl aa W hcn hcn' (aB hc hb) (aB hc' hb) az f5 aw)
 have HG:=zh (fun W (hb:Below w.heap.size w W)=>tD G G' gn gn' gc gc' prov ad W hgn hgn' (Rg.ah hg hb) (Rg.ah hg' hb) aA)
 have HW:=zh (fun W=>adg wt ao f8 ax W)
 obtain⟨x3,aC⟩:=ex (decide (deps=ac))
 obtain⟨x4,aD⟩:=ex (decide (confl=aa))
 obtain⟨x5,aE⟩:=ex (decide (prov=ad))
 obtain⟨x6,aF⟩:=ex (Vm.sgn (Wm.placeN wt) (Wm.placeN ao)==0)
 rw[aC] at HD hR
 rw[aD] at HC hR
 rw[aE] at HG hR
 rw[aF] at HW hR
 have HR:=zh hR
 clear hd hdn hc hcn hg hgn hd' hdn' hc' hcn' hg' hgn' f2 f3 f4 f5 f6 f8 av aw ax ay az aA aC aD aE aF hR
 by_cases e1:nm=al
 case neg =>
  have d1:(nm==al)=false:=beq_eq_false_iff_ne.2 e1
  have HF:Hid (R=false):=by show _=_;rw[<-HR.out,decide_eq_false e1];rfl
  obtain⟨c0,-,-,-,-,-⟩:=ak hV ai.out
  obtain⟨e0,-,-,-,-,-⟩:=ak hU (Below.refl _ _)
  clear e1 HD HC HG HW HR
  go_enter Tryz.func40,Tryz.ntmps40
  go_wp2_with fail
  go_ret
  exact⟨by rw[HF.out];rfl,HB.out⟩
 have d1:(nm==al)=true:=beq_iff_eq.2 e1
 by_cases e2:v=v'
 case neg =>
  have d2:(v==v')=false:=beq_eq_false_iff_ne.2 e2
  have HF:Hid (R=false):=by show _=_;rw[<-HR.out,decide_eq_false e2,Bool.false_and,Bool.and_false]
  obtain⟨c0,c1,-,-,-,-⟩:=ak hV ai.out
  obtain⟨k0,k1,-,-,-,-⟩:=ak hU (Below.refl _ _)
  clear e1 e2 HD HC HG HW HR
  go_enter Tryz.func40,Tryz.ntmps40
  go_wp2_with fail
  go_ret
  exact⟨by rw[HF.out];rfl,HB.out⟩
 have d2:(v==v')=true:=beq_iff_eq.2 e2
 have am:Hid ((x3&&(x4&&(x5&&x6)))=R):=by show _=_;rw[<-HR.out,decide_eq_true e1,decide_eq_true e2,Bool.true_and,Bool.true_and]
 obtain⟨c0,c1,c2,-,-,-⟩:=ak hV ai.out
 obtain⟨k0,k1,k2,-,-,-⟩:=ak hU (Below.refl _ _)
 clear e1 e2 HR
 go_enter Tryz.func40,Tryz.ntmps40
 go_wp2_with fail
 clear hV hU c0 c1 c2 k0 k1 k2 d1 d2
 refine (HD.out _ HB.out).mono ?_
 rintro _ u ⟨rfl,hb⟩
 have ap:=zh hb
 have an:Hid (Below w.heap.size w u):=bt HB.out hb
 have aq:Hid (Below V.heap.size V u):=bt ai.out hb
 clear hb HD
 cases x3
 case false =>
  have HF:Hid (R=false):=am.out.symm
  go_wp2_with fail
  go_ret
  exact⟨by rw[HF.out];rfl,an.out⟩
 obtain⟨-,-,-,c3,-,-⟩:=ak HV.out aq.out
 obtain⟨-,-,-,k3,-,-⟩:=ak HU.out ap.out
 go_wp2_with fail
 clear c3 k3
 refine (HC.out _ an.out).mono ?_
 rintro _ u2 ⟨rfl,hb⟩
 have af:Hid (Below U.heap.size U u2):=bt ap.out hb
 have ae:Hid (Below w.heap.size w u2):=bt an.out hb
 have ag:Hid (Below V.heap.size V u2):=bt aq.out hb
 clear hb HC ap an aq
 cases x4
 case false =>
  have HF:Hid (R=false):=am.out.symm
  go_wp2_with fail
  go_ret
  exact⟨by rw[HF.out];rfl,ae.out⟩
 obtain⟨-,-,-,-,c4,-⟩:=ak HV.out ag.out
 obtain⟨-,-,-,-,k4,-⟩:=ak HU.out af.out
 go_wp2_with fail
 clear c4 k4
 refine (HG.out _ ae.out).mono ?_
 rintro _ u3 ⟨rfl,hb⟩
 have ar:Hid (Below U.heap.size U u3):=bt af.out hb
 have aj:Hid (Below w.heap.size w u3):=bt ae.out hb
 have au:Hid (Below V.heap.size V u3):=bt ag.out hb
 clear hb HG af ae ag
 cases x5
 case false =>
  have HF:Hid (R=false):=am.out.symm
  go_wp2_with fail
  go_ret
  exact⟨by rw[HF.out];rfl,aj.out⟩
 obtain⟨-,-,-,-,-,c5⟩:=ak HV.out au.out
 obtain⟨-,-,-,-,-,k5⟩:=ak HU.out ar.out
 have HF:Hid (x6=R):=am.out
 go_wp2_with fail
 clear c5 k5
 refine (HW.out _).mono ?_
 rintro _ u4 ⟨rfl,rfl⟩
 go_wp2_with fail
 go_ret
 exact⟨by rw[HF.out];rfl,aj.out⟩
end
end Go.Proofs.YtkoaljpfoekgkaaGreatDoor
