/- Part 22 of what the laws lean on. -/
import Derived.Test.YtkaeamjnphaadaaGreatDoorL21
set_option maxRecDepth 100000
set_option maxHeartbeats 1600000
namespace Go.Proofs.YtkaeamjnphaadaaGreatDoor
section
open Go.RowKit Rs At Pg
namespace Pg
theorem aH {w W1 u:World}{a b c d e f:Value}{T:TypeId}(h1:w.alloc (.cells #[a,b,c,d,e,f] T)=W1)(hb:Below W1.heap.size W1 u) :
  u.cell? ⟨w.heap.size,0,none⟩=some a/\u.cell? ⟨w.heap.size,1,none⟩=some b/\u.cell? ⟨w.heap.size,2,none⟩=some c/\u.cell? ⟨w.heap.size,3,none⟩=some d/\u.cell? ⟨w.heap.size,4,none⟩=some e/\u.cell? ⟨w.heap.size,5,none⟩=some f:=by
 subst h1
 have h:u.heap[w.heap.size]?=some (.cells #[a,b,c,d,e,f] T (0,0)):=(hb.block _ (by simp)).trans (heap_alloc_new w _)
 refine⟨?_,?_,?_,?_,?_,?_⟩ <;> simp[World.cell?,h]
def DFew (t:List (List Atm)):Prop:=∀ l∈t,l.length<=1000000/\AFew l
theorem js {t:List (List Atm)}(h:DFew t)(k:Nat)(hk:k<t.length):t[k].length<=1000000/\AFew t[k]:=h _ (List.getElem_mem hk)
def PFew (p:Pk):Prop:=p.name.length<=maxLen/\p.deps.length<=1000000/\DFew p.deps/\p.confl.length<=1000000/\AFew p.confl/\p.prov.length<=1000000/\GFew p.prov/\p.wt<Wm.W
theorem yo (d:List Atm)(l:List (List Atm)):depsE (d :: l)=if 1<=d.length/\d.length<=8 then (if atomsE d=0 then depsE l else atomsE d) else 4:=rfl
theorem vn (g:Gv)(l:List Gv):givesE (g :: l)=if giveE g=0 then givesE l else giveE g:=rfl
end Pg
attribute [local go_sem ↓] Go.wp_at_zero Go.wp_at_succ
theorem pL (p:Pk)(D C G:Option Addr)(dn dc cn cc gn gc:Nat)(w:World)(hw:MaxOk w)(hd:Pg.DRow w D p.deps)(hdn:p.deps.length=dn)(hc:ARow w C p.confl)(hcn:p.confl.length=cn)(hg:GRow w G p.prov)(hgn:p.prov.length=gn)(hf:PFew p) :
  Calls Tryz.prog 30 #[.agg #[.string ⟨p.name.toArray⟩,.string ⟨p.ver.toArray⟩,.slice D dn dc,.slice C cn cc,.slice G gn gc,.float .f64 p.wt]] w fun e w'=>e=bI (checkP p)/\Below w.heap.size w w':=by
 obtain⟨nm,v,deps,confl,prov,wt⟩:=p
 dsimp only at hd hdn hc hcn hg hgn ⊢
 obtain⟨f1,f2,f3,f4,f5,f6,f7,f8⟩:=hf
 dsimp only at f1 f2 f3 f4 f5 f6 f7 f8
 obtain⟨R,hR⟩:=ex (checkP ⟨nm,v,deps,confl,prov,wt⟩)
 rw[hR]
 unfold checkP at hR
 dsimp only at hR
 obtain⟨x1,aq⟩:=ex (verE v)
 obtain⟨x2,ar⟩:=ex (depsE deps)
 obtain⟨x3,au⟩:=ex (atomsE confl)
 obtain⟨x4,av⟩:=ex (givesE prov)
 obtain⟨x5,ax⟩:=ex (chkW wt)
 rw[aq,ar,au,av,ax,hdn,hcn,hgn] at hR
 have aR:dn<=1000000:=by omega
 have aI:cn<=1000000:=by omega
 have aS:gn<=1000000:=by omega
 obtain⟨W1,ao⟩:=ex (w.alloc (.cells #[.string ⟨nm.toArray⟩,.string ⟨v.toArray⟩,.slice D dn dc,.slice C cn cc,.slice G gn gc,.float .f64 wt] 31))
 have ae:Hid (Below w.heap.size w W1):=ag ao
 have al:=zh ao
 have HM:=zh (ah hw ae.out)
 have HD:=zh hd
 have az:=zh hdn
 have HC:=zh hc
 have aJ:=zh hcn
 have HG:=zh hg
 have aA:=zh hgn
 have aK:=zh f3
 have aL:=zh f5
 have aM:=zh f7
 have aN:=zh f8
 have aC:=zh ar
 have aO:=zh au
 have aD:=zh av
 have aE:=zh ax
 have HN:=zh (fF nm W1 f1)
 have HV:=zh (eW v W1 HM.out)
 rw[aq] at HV
 have aa:=zh hR
 clear hw hd hdn hc hcn hg hgn f1 f2 f3 f4 f5 f6 f7 f8 aq ar au av ax hR
 obtain⟨c0,c1,c2,c3,c4,c5⟩:=aH ao (Below.refl _ _)
 clear c2 c3 c4 c5
 go_enter Tryz.func30,Tryz.ntmps30
 go_wp2_with fail
 clear ao
 refine HN.out.mono ?_
 rintro _ z ⟨rfl,rfl⟩
 have hR:=aa.out
 cases am:nameB nm
 ·rw[am,if_pos rfl] at hR
  have HE:=zh hR
  clear am hR
  go_wp2_with fail
  refine (an _).mono ?_
  rintro _ z ⟨rfl,rfl⟩
  go_wp2_with fail
  exact⟨rfl,by rw[<-HE.out];rfl,ae.out⟩
 rw[am,if_neg (by decide)] at hR
 clear am aa HN
 have aa:=zh hR
 clear hR
 go_wp2_with fail
 refine (aj _).mono ?_
 rintro _ z ⟨rfl,rfl⟩
 go_wp2_with fail
 refine HV.out.mono ?_
 clear HV
 rintro _ u ⟨rfl,hb⟩
 have HU:=zh hb
 have ab:Hid (Below w.heap.size w u):=bt ae.out hb
 clear hb c0 c1
 by_cases h1:x1=0
 case neg =>
  have hR:=aa.out
  rw[if_pos h1] at hR
  have HE:=zh hR
  have HK:Hid (bI x1=pan x1):=aW h1
  clear hR h1
  rw[HK.out]
  go_wp2_with fail
  exact⟨rfl,by rw[<-HE.out,HK.out],ab.out⟩
 have hR:=aa.out
 subst h1
 rw[if_neg (by simp)] at hR
 clear aa
 have aa:=zh hR
 clear hR
 rw[aY]
 obtain⟨c0,c1,c2,c3,c4,c5⟩:=aH al.out HU.out
 clear c0 c1 c3 c4 c5
 by_cases aT:dn<=16
 case neg =>
  have hR:=aa.out
  rw[if_pos (by omega)] at hR
  have HE:=zh hR
  have d1:decide ((dn:Int)<=16)=false:=decide_eq_false (by omega)
  clear hR
  go_wp2_with fail
  refine (an _).mono ?_
  rintro _ z ⟨rfl,rfl⟩
  go_wp2_with fail
  exact⟨rfl,by rw[<-HE.out];rfl,ab.out⟩
 have hR:=aa.out
 rw[if_neg (by omega)] at hR
 clear aa
 have aa:=zh hR
 have d1:decide ((dn:Int)<=16)=true:=decide_eq_true (by omega)
 clear hR
 go_wp2_with fail
 refine (aj _).mono ?_
 rintro _ z ⟨rfl,rfl⟩
 go_wp2_with fail
 go_loopw [21] (fun i wr=>∃ k:Nat,k<=dn/\i=.int .i64 k/\Hid (depsE (deps.drop k)=x2)/\Hid (Below W1.heap.size W1 wr)) (fun i _=>dn-(intOf i).toNat)
 case atStart=>exact⟨0,Nat.zero_le _,rfl,aC.out,HU.out⟩
 case round =>
  clear c2 HU ab
  obtain⟨k,hk,rfl,HH,HW⟩:=hrel
  have ac:Hid (Below w.heap.size w wr):=bt ae.out HW.out
  by_cases ap:k<dn
  ·have af:k<deps.length:=by rw[az.out];exact ap
   obtain⟨ad,B,m,d,rfl,hm,hs,hc⟩:=dM HD.out k af
   have c0:=hc _ ac.out
   have ai:deps.drop k=deps[k] :: deps.drop (k+1):=List.drop_eq_getElem_cons af
   obtain⟨f1,f2⟩:=js aK.out k af
   have hh:=HH.out
   rw[ai,yo] at hh
   obtain⟨l,hl⟩:=ex (deps[k])
   rw[hl] at hm hs f1 f2 hh
   rw[hm] at hh
   have HS:=zh hs
   have aF:=zh hm
   have aP:=zh f1
   have aQ:=zh f2
   clear hc ai hl f1 f2 hs hm
   by_cases aU:1<=m
   case neg =>
    rw[if_neg (by omega)] at hh
    have hR:=aa.out
    rw[<-hh,if_pos (by decide)] at hR
    have HE:=zh hR
    have d2:decide (1<=(m:Int))=false:=decide_eq_false (by omega)
    clear hR hh
    go_wp2_with fail
    refine (an _).mono ?_
    rintro _ z ⟨rfl,rfl⟩
    go_wp2_with fail
    exact⟨rfl,by rw[<-HE.out];rfl,ac.out⟩
   have d2:decide (1<=(m:Int))=true:=decide_eq_true (by omega)
   by_cases aV:m<=8
   case neg =>
    rw[if_neg (by omega)] at hh
    have hR:=aa.out
    rw[<-hh,if_pos (by decide)] at hR
    have HE:=zh hR
    have d3:decide ((m:Int)<=8)=false:=decide_eq_false (by omega)
    clear hR hh
    go_wp2_with fail
    refine (an _).mono ?_
    rintro _ z ⟨rfl,rfl⟩
    go_wp2_with fail
    exact⟨rfl,by rw[<-HE.out];rfl,ac.out⟩
   have d3:decide ((m:Int)<=8)=true:=decide_eq_true (by omega)
   rw[if_pos (by omega)] at hh
   obtain⟨y,hy⟩:=ex (atomsE l)
   have HA:=zh (ie B m d l wr (ah HM.out HW.out) aF.out (aw HS.out ac.out) (by rw[<-aF.out];exact aP.out) aQ.out)
   rw[hy] at HA hh
   have ak:=zh hh
   clear hh hy
   go_wp2_with fail
   refine (aj _).mono ?_
   rintro _ z ⟨rfl,rfl⟩
   go_wp2_with fail
   refine HA.out.mono ?_
   rintro _ u2 ⟨rfl,hb⟩
   have HU:=zh (bt HW.out hb)
   have ab:Hid (Below w.heap.size w u2):=bt ae.out HU.out
   clear hb c0 HA
   by_cases h0:y=0
   ·subst h0
    have HE:Hid (depsE (deps.drop (k+1))=x2):=by have:=ak.out;rw[if_pos rfl] at this;exact this
    rw[aY]
    go_wp2_with fail
    go_roundw
    case rel=>exact⟨k+1,by omega,by go_num,HE,HU.out⟩
    case measure=>simp[intOf];omega
   ·have hh:=ak.out
    rw[if_neg h0] at hh
    have hR:=aa.out
    rw[<-hh,if_pos h0] at hR
    have HE:=zh hR
    have HK:Hid (bI y=pan y):=aW h0
    clear hR h0 hh
    rw[HK.out]
    go_wp2_with fail
    exact⟨rfl,by rw[<-HE.out,HK.out],ab.out⟩
  ·obtain rfl:k=dn:=by omega
   have h2:0=x2:=by rw[<-HH.out,List.drop_eq_nil_of_le (by rw[az.out];exact Nat.le_refl _)];rfl
   have hR:=aa.out
   rw[<-h2,if_neg (by simp)] at hR
   clear aa HH aC h2
   have aa:=zh hR
   clear hR
   obtain⟨c0,c1,c2,c3,c4,c5⟩:=aH al.out HW.out
   clear c0 c1 c2 c4 c5
   by_cases aX:cn<=16
   case neg =>
    have hR:=aa.out
    rw[if_pos (by omega)] at hR
    have HE:=zh hR
    have d2:decide ((cn:Int)<=16)=false:=decide_eq_false (by omega)
    clear hR
    go_wp2_with fail
    refine (an _).mono ?_
    rintro _ z ⟨rfl,rfl⟩
    go_wp2_with fail
    exact⟨rfl,by rw[<-HE.out];rfl,ac.out⟩
   have hR:=aa.out
   rw[if_neg (by omega)] at hR
   clear aa
   have aa:=zh hR
   have d2:decide ((cn:Int)<=16)=true:=decide_eq_true (by omega)
   clear hR
   have HA:=zh (ie C cn cc confl wr (ah HM.out HW.out) aJ.out (aw HC.out ac.out) aI aL.out)
   rw[aO.out] at HA
   go_wp2_with fail
   refine (aj _).mono ?_
   rintro _ z ⟨rfl,rfl⟩
   go_wp2_with fail
   refine HA.out.mono ?_
   rintro _ u2 ⟨rfl,hb⟩
   have HU:=zh (bt HW.out hb)
   have ab:Hid (Below w.heap.size w u2):=bt ae.out HU.out
   clear hb c3 HA HW ac
   by_cases h3:x3=0
   case neg =>
    have hR:=aa.out
    rw[if_pos h3] at hR
    have HE:=zh hR
    have HK:Hid (bI x3=pan x3):=aW h3
    clear hR h3
    rw[HK.out]
    go_wp2_with fail
    exact⟨rfl,by rw[<-HE.out,HK.out],ab.out⟩
   have hR:=aa.out
   rw[if_neg (by simp[h3])] at hR
   rw[h3,aY]
   clear aa h3
   have aa:=zh hR
   clear hR
   obtain⟨c0,c1,c2,c3,c4,c5⟩:=aH al.out HU.out
   clear c0 c1 c2 c3 c5
   by_cases aZ:gn<=16
   case neg =>
    have hR:=aa.out
    rw[if_pos (by omega)] at hR
    have HE:=zh hR
    have d3:decide ((gn:Int)<=16)=false:=decide_eq_false (by omega)
    clear hR
    go_wp2_with fail
    refine (an _).mono ?_
    rintro _ z ⟨rfl,rfl⟩
    go_wp2_with fail
    exact⟨rfl,by rw[<-HE.out];rfl,ab.out⟩
   have hR:=aa.out
   rw[if_neg (by omega)] at hR
   clear aa
   have aa:=zh hR
   have d3:decide ((gn:Int)<=16)=true:=decide_eq_true (by omega)
   clear hR
   go_wp2_with fail
   refine (aj _).mono ?_
   rintro _ z ⟨rfl,rfl⟩
   go_wp2_with fail
   go_loopw [53] (fun i wr=>∃ k:Nat,k<=gn/\i=.int .i64 k/\Hid (givesE (prov.drop k)=x4)/\Hid (Below W1.heap.size W1 wr)) (fun i _=>gn-(intOf i).toNat)
   case atStart=>exact⟨0,Nat.zero_le _,rfl,aD.out,HU.out⟩
   case round =>
    clear c4 HU ab
    obtain⟨k,hk,rfl,HH,HW⟩:=hrel
    have ac:Hid (Below w.heap.size w wr):=bt ae.out HW.out
    by_cases ap:k<gn
    ·have af:k<prov.length:=by rw[aA.out];exact ap
     obtain⟨ad,rfl,hc⟩:=dQ HG.out k af
     obtain⟨c0,c1⟩:=hc _ ac.out
     have ai:prov.drop k=prov[k] :: prov.drop (k+1):=List.drop_eq_getElem_cons af
     obtain⟨f1,f2⟩:=adZ aM.out k af
     have hh:=HH.out
     rw[ai,vn] at hh
     obtain⟨a,ha⟩:=ex (prov[k])
     rw[ha] at c0 c1 f1 hh
     obtain⟨ay,gv⟩:=a
     dsimp only at c0 c1 f1
     obtain⟨V,hV⟩:=ex (wr.alloc (.cells #[.string ⟨ay.toArray⟩,.string ⟨gv.toArray⟩] 55))
     have aG:Hid (Below W1.heap.size W1 V):=HW.out.trans ((ag hV).mono HW.out.size)
     obtain⟨v0,v1⟩:=aB hV (Below.refl _ _)
     have HA:=zh (oD ⟨ay,gv⟩ V (ah HM.out aG.out) f1)
     obtain⟨y,hy⟩:=ex (giveE ⟨ay,gv⟩)
     rw[hy] at HA hh
     have ak:=zh hh
     clear hc ai ha f1 f2 hh hy
     go_wp2_with fail
     clear hV
     refine HA.out.mono ?_
     rintro _ u2 ⟨rfl,hb⟩
     have HU:=zh (bt aG.out hb)
     have ab:Hid (Below w.heap.size w u2):=bt ae.out HU.out
     clear hb c0 c1 v0 v1 HA
     by_cases h0:y=0
     ·subst h0
      have HE:Hid (givesE (prov.drop (k+1))=x4):=by have:=ak.out;rw[if_pos rfl] at this;exact this
      rw[aY]
      go_wp2_with fail
      go_roundw
      case rel=>exact⟨k+1,by omega,by go_num,HE,HU.out⟩
      case measure=>simp[intOf];omega
     ·have hh:=ak.out
      rw[if_neg h0] at hh
      have hR:=aa.out
      rw[<-hh,if_pos h0] at hR
      have HE:=zh hR
      have HK:Hid (bI y=pan y):=aW h0
      clear hR h0 hh
      rw[HK.out]
      go_wp2_with fail
      exact⟨rfl,by rw[<-HE.out,HK.out],ab.out⟩
    ·obtain rfl:k=gn:=by omega
     have h2:0=x4:=by rw[<-HH.out,List.drop_eq_nil_of_le (by rw[aA.out];exact Nat.le_refl _)];rfl
     have hR:=aa.out
     rw[<-h2,if_neg (by simp)] at hR
     clear aa HH aD h2
     have HR:=zh hR
     clear hR
     obtain⟨c0,c1,c2,c3,c4,c5⟩:=aH al.out HW.out
     clear c0 c1 c2 c3 c4
     have HA:=zh (wM wt aN.out wr)
     rw[aE.out,HR.out] at HA
     clear aE HR
     go_wp2_with fail
     refine HA.out.mono ?_
     rintro _ u2 ⟨rfl,rfl⟩
     go_wp2_with fail
     refine (cD R _).mono ?_
     rintro _ u2 ⟨rfl,rfl⟩
     by_cases h0:R=0
     ·subst h0
      rw[aY]
      go_wp2_with fail
      go_end0
      exact⟨rfl,ac.out⟩
     ·have HK:Hid (bI R=pan R):=aW h0
      clear h0
      rw[HK.out]
      go_wp2_with fail
      exact⟨rfl,by rw[HK.out],ac.out⟩
end
section
open Go.RowKit Rs At Pg
theorem tq (p:Addr)(x:Int)(n:Int)(w:World)(hc:w.cell? p=some (.int .i64 x))(hz:w.frozen? p=false) :
  CallsD Tryz.prog 28 #[.pointer (some p)] (.panicking [{ v:=.iface 32 (.int .i64 n),recovered:=false }]) w fun e u' w' =>
   e=.returned (.tuple #[])/\u'=.panicking [{ v:=.iface 32 (.int .i64 n),recovered:=true }]/\w'=w.setCell p (.int .i64 n):=by
 refine callsD_of_wpS Tryz.func28 rfl fun c₀ cs hu=>?_
 apply wpS_region
 simp[wpOpsS,go_sem,recoverD,hu,Tryz.ntmps28]
 refine (dj n _).mono ?_
 rintro e w' ⟨rfl,rfl⟩
 simp[go_sem,hc,hz,bodyPostS,results,Tryz.results28]
theorem vo (p:Addr)(x:Int)(w:World)(hc:w.cell? p=some (.int .i64 x))(hz:w.frozen? p=false) :
  CallsD Tryz.prog 28 #[.pointer (some p)] .returning w fun e u' w'=>e=.returned (.tuple #[])/\u'=.returning/\w'=w.setCell p (.int .i64 0):=by
 refine callsD_of_wpS Tryz.func28 rfl fun c₀ cs hu=>?_
 apply wpS_region
 simp[wpOpsS,go_sem,recoverD,hu,Tryz.ntmps28]
 refine (di _).mono ?_
 rintro e w' ⟨rfl,rfl⟩
 cases c₀
 simp_all [go_sem,bodyPostS,results,Tryz.results28]
attribute [local go_sem ↓] Go.wp_at_zero Go.wp_at_succ
theorem tr (p:Pk)(D C G:Option Addr)(dn dc cn cc gn gc:Nat)(w:World)(hw:MaxOk w)(hd:Pg.DRow w D p.deps)(hdn:p.deps.length=dn)(hc:ARow w C p.confl)(hcn:p.confl.length=cn)(hg:GRow w G p.prov)(hgn:p.prov.length=gn)(hf:PFew p) :
  Calls Tryz.prog 10 #[.agg #[.string ⟨p.name.toArray⟩,.string ⟨p.ver.toArray⟩,.slice D dn dc,.slice C cn cc,.slice G gn gc,.float .f64 p.wt]] w fun e w'=>e=.returned (.int .i64 (checkP p))/\Below w.heap.size w w':=by
 have ap:∀ (fn:Fn) (first cap:Array Value) (w:World),(Instr.makeFunc fn first cap).run Tryz.prog w=.ok (.func fn first cap) w:=fun _ _ _ _=>rfl
 obtain⟨K,hK⟩:=ex (checkP p)
 rw[hK]
 obtain⟨W1,ad⟩:=ex (w.alloc (.cells #[.string ⟨p.name.toArray⟩,.string ⟨p.ver.toArray⟩,.slice D dn dc,.slice C cn cc,.slice G gn gc,.float .f64 p.wt] 31))
 have am:=zh (ag ad)
 have af:W1.heap.size=w.heap.size+1:=by rw[<-ad];simp
 obtain⟨W2,ae⟩:=ex (W1.alloc (.cells #[.int .i64 0] 32))
 have aj:=zh (ag ae)
 have ac:Hid (Below w.heap.size w W2):=bt am.out aj.out
 have HR:=zh (pL p D C G dn dc cn cc gn gc W2 (ah hw ac.out) (drowD_below hd ac.out) hdn (aw hc ac.out) hcn (Rg.ai hg ac.out) hgn hf)
 rw[hK] at HR
 obtain⟨k0,k1,k2,k3,k4,k5⟩:=aH ad aj.out
 have an:=zh ae
 clear hw hd hdn hc hcn hg hgn hf hK
 go_enter_defers Tryz.func10,Tryz.ntmps10
 go_wp2_with fail
 have ao:=zh af
 clear ad ae af
 refine HR.out.mono ?_
 rintro _ w1 ⟨rfl,hb⟩
 have ak:Below (W1.heap.size+1) (W1.alloc (.cells #[.int .i64 0] 32)) w1:=by have h:=hb;rw[<-an.out] at h;simpa using h
 obtain⟨aa,ab⟩:=bK W1 w1 _ _ ak
 have al:Hid (Below w.heap.size w w1):=bt ac.out hb
 rw[ao.out] at aa ab
 clear hb ak k0 k1 k2 k3 k4 k5 HR
 by_cases hk:K=0
 ·subst hk
  rw[aY]
  go_wp2_with fail
  refine leaves_cons (f:=28) (args:=#[.pointer (some ⟨w.heap.size+1,0,none⟩)]) (by simp) (by simp[go_sem]) ?_
  refine (vo ⟨w.heap.size+1,0,none⟩ 0 _ ?_ ?_).mono ?_
  ·simp[go_sem,aa]
  ·simp[go_sem,ab]
  rintro e u' w3 ⟨rfl,rfl,rfl⟩
  simp[Leaves,settle,results,Tryz.results10,go_sem,aa]
  exact (al.out.setCell (Nat.le_succ _) _).setCell (Nat.le_succ _) _
 ·rw[aW hk]
  go_wp2_with fail
  refine leaves_cons (f:=28) (args:=#[.pointer (some ⟨w.heap.size+1,0,none⟩)]) (by simp) (by simp[go_sem]) ?_
  refine (tq ⟨w.heap.size+1,0,none⟩ 0 _ _ ?_ ?_).mono ?_
  ·simp[go_sem,aa]
  ·simp[go_sem,ab]
  rintro e u' w3 ⟨rfl,rfl,rfl⟩
  simp[Leaves,settle,results,Tryz.results10,go_sem,aa]
  exact al.out.setCell (Nat.le_succ _) _
end
namespace Sz
structure Fld where
 key:List UInt8
 val:List UInt8
 line:Int
 deriving DecidableEq
def valC (c:UInt8):Bool:=decide (32<=c.toNat)&&decide (c.toNat<=126)
def keyB (s:List UInt8):Bool:=s.all Vm.ltr&&(!s.isEmpty&&decide (s.length<=16))
def valB (s:List UInt8):Bool:=s.all valC
def mark:List UInt8:=[58,32]
def fieldP (s:List UInt8) (n:Int):Option Fld :=
 if 0<=Lib.index s mark/\keyB (s.take (Lib.index s mark).toNat)=true/\valB (s.drop ((Lib.index s mark).toNat+2))=true then
  some ⟨s.take (Lib.index s mark).toNat,s.drop ((Lib.index s mark).toNat+2),n⟩ else none
def hasK (l:List Fld) (k:List UInt8):Bool:=l.any (fun f=>f.key==k)
def readL:Nat->List (List UInt8)->List (List Fld)->List Fld->Int × Int × List (List Fld)
 | _,[],acc,last=>(0,0,if last.isEmpty then acc else acc++[last])
 | n,s :: ls,acc,last =>
  if s.isEmpty then (if last.isEmpty||ls.isEmpty then (2,n,[]) else readL (n+1) ls (acc++[last]) [])
  else match fieldP s n with
   | none=>(2,n,[])
   | some f=>if hasK last f.key then (6,n,[]) else readL (n+1) ls acc (last++[f])
def linesL (s:List UInt8):List (List UInt8):=(Lib.split s [10]).dropLast
def endB (s:List UInt8):Bool:=s.isEmpty||s.getLast? == some 10
def parseS (s:List UInt8):Int × Int × List (List Fld) :=
 if 65536<s.length then (4,0,[]) else if endB s then readL 0 (linesL s) [] [] else (2,0,[])
def fieldT (f:Fld):List UInt8:=f.key++mark++f.val++[10]
def stanzaT (l:List Fld):List UInt8:=l.flatMap fieldT
def textS:List (List Fld)->List UInt8
 | []=>[]
 | [l]=>stanzaT l
 | l :: m :: r=>stanzaT l++[10]++textS (m :: r)
def joinL (ls:List (List UInt8)):List UInt8:=ls.flatMap (fun s=>s++[10])
theorem j9 {s:List UInt8}{n:Int}{f:Fld}(h:fieldP s n=some f):f.key++mark++f.val=s/\f.line=n/\keyB f.key=true/\valB f.val=true:=by
 unfold fieldP at h
 split at h
 ·rename_i hc
  obtain⟨h0,h1,h2⟩:=hc
  cases h
  refine⟨?_,rfl,h1,h2⟩
  dsimp only
  obtain⟨i,hi⟩:∃ i:Nat,Lib.index s mark=i:=⟨(Lib.index s mark).toNat,by omega⟩
  rw[hi]
  have ho:Lib.occAt s mark i=true:=by
   rcases Lib.index_spec s mark with⟨h1,_⟩ | ⟨j,h1,_,h3,_⟩
   ·omega
   ·have:j=i:=by omega
    exact this ▸ h3
  unfold Lib.occAt at ho
  obtain⟨t,ht⟩:=List.isPrefixOf_iff_prefix.1 ho
  show s.take i++mark++s.drop (i+2)=s
  have e:s.drop (i+2)=t:=by rw[<-List.drop_drop,<-ht];rfl
  rw[e,List.append_assoc,ht,List.take_append_drop]
 ·cases h
theorem lE (l:List Fld)(f:Fld):stanzaT (l++[f])=stanzaT l++fieldT f:=by
 unfold stanzaT;rw[List.flatMap_append];simp
theorem dR:∀ (acc:List (List Fld)) (l:List Fld),textS (acc++[l])=(if acc.isEmpty then [] else textS acc++[10])++stanzaT l
 | [],l=>rfl
 | [a],l=>by show stanzaT a++[10]++stanzaT l=_;rfl
 | a :: b :: r,l=>by
  have ih:=dR (b :: r) l
  show stanzaT a++[10]++textS (b :: r++[l])=_
  rw[ih]
  show _=(stanzaT a++[10]++textS (b :: r)++[10])++stanzaT l
  simp
theorem kd (s:List UInt8)(ls:List (List UInt8)):joinL (s :: ls)=s++[10]++joinL ls:=by unfold joinL;rw[List.flatMap_cons]
theorem lF:∀ (ls:List (List UInt8)) (n:Nat) (acc:List (List Fld)) (last:List Fld) (r:List (List Fld)) (k:Int),readL n ls acc last=(0,k,r) ->
  k=0/\textS r=textS (acc++[last])++joinL ls\/(k=0/\ls=[]/\last=[]/\r=acc)
 | [],n,acc,last,r,k,h=>by
  unfold readL at h
  cases last with
  | nil=>right;injection h with _ h;injection h with h1 h2;exact⟨h1.symm,rfl,rfl,h2.symm⟩
  | cons f l=>left;injection h with _ h;injection h with h1 h2;subst h2;exact⟨h1.symm,by simp[joinL]⟩
 | s :: ls,n,acc,last,r,k,h=>by
  unfold readL at h
  split at h
  ·rename_i hs
   have hs0:s=[]:=by simpa using hs
   subst hs0
   split at h
   ·injection h with h _;cases h
   ·rename_i hl
    have ab:last≠[]:=fun e=>hl (by simp[e])
    have aa:ls≠[]:=fun e=>hl (by simp[e])
    rcases lF ls (n+1) (acc++[last]) [] r k h with⟨hk,ht⟩ | ⟨_,h2,_,_⟩
    ·left
     refine⟨hk,?_⟩
     rw[ht,dR (acc++[last]) [],kd]
     simp[stanzaT]
    ·exact absurd h2 aa
  ·rename_i hs
   cases hf:fieldP s n with
   | none=>rw[hf] at h;injection h with h _;cases h
   | some f =>
    rw[hf] at h
    dsimp only at h
    split at h
    ·injection h with h _;cases h
    ·obtain⟨h1,_,_,_⟩:=j9 hf
     rcases lF ls (n+1) acc (last++[f]) r k h with⟨hk,ht⟩ | ⟨_,_,h3,_⟩
     ·left
      refine⟨hk,?_⟩
      rw[ht,dR,dR,lE,kd]
      unfold fieldT
      rw[h1]
      simp
     ·exact absurd h3 (by simp)
theorem ad0 (a r:List UInt8)(h:(10:UInt8) ∉ a):Lib.split (a++10 :: r) [10]=a :: Lib.split r [10]:=by
 have hi:Lib.index (a++10 :: r) [10]=a.length:=by
  refine Lib.index_first (by simp) ?_ fun j hj=>?_
  ·unfold Lib.occAt;rw[List.drop_left];rfl
  ·cases ho:Lib.occAt (a++10 :: r) [10] j with
   | false=>rfl
   | true =>
    have h2:=Lib.occAt_head (c:=10) (t:=[]) rfl ho
    rw[List.getElem?_append_left hj] at h2
    exact absurd (List.mem_of_getElem? h2) h
 rw[At.lg (by simp) hi,List.take_left]
 have e:(a++10 :: r).drop (a.length+([10]:List UInt8).length)=r:=by
  rw[<-List.drop_drop,List.drop_left];rfl
 rw[e]
theorem oE (s:List UInt8):Lib.split s [10]≠[]:=by
 unfold Lib.split
 cases Lib.count s [10] with
 | zero=>unfold Lib.splitK;simp
 | succ k=>unfold Lib.splitK;split <;> simp
theorem aal (a r:List UInt8)(h:(10:UInt8) ∉ a):linesL (a++10 :: r)=a :: linesL r:=by
 unfold linesL
 rw[ad0 a r h,List.dropLast_cons_of_ne_nil (oE r)]
theorem ad1 (s:List UInt8):((10:UInt8) ∉ s)\/∃ a r,s=a++10 :: r/\(10:UInt8) ∉ a:=by
 induction s with
 | nil=>left;simp
 | cons b l ih =>
  by_cases hb:b=10
  ·right;exact⟨[],l,by rw[hb];rfl,by simp⟩
  ·rcases ih with h | ⟨a,r,e,h⟩
   ·left;intro hm;rcases List.mem_cons.1 hm with e | e
    ·exact hb e.symm
    ·exact h e
   ·right
    refine⟨b :: a,r,by rw[e];rfl,fun hm=>?_⟩
    rcases List.mem_cons.1 hm with e | e
    ·exact hb e.symm
    ·exact h e
theorem ke:∀ (k:Nat) (s:List UInt8),s.length<=k->endB s=true->joinL (linesL s)=s
 | 0,s,hk,_=>by
  have:s=[]:=List.length_eq_zero_iff.1 (by omega)
  subst this;rfl
 | k+1,s,hk,he=>by
  rcases ad1 s with h | ⟨a,r,e,h⟩
  ·unfold endB at he
   rw[Bool.or_eq_true] at he
   rcases he with he | he
   ·have:s=[]:=by simpa using he
    subst this;rfl
   ·exact absurd (List.mem_of_getLast? (by simpa using he)) h
  ·subst e
   rw[aal a r h,kd]
   have hr:endB r=true:=by
    unfold endB at he ⊢
    cases r with
    | nil=>rfl
    | cons b l =>
     rw[Bool.or_eq_true] at he ⊢
     rcases he with he | he
     ·simp at he
     ·right
      rw[List.getLast?_append] at he
      have e2:(10 :: b :: l).getLast? = (b :: l).getLast?:=by rw[List.getLast?_cons_cons]
      rw[e2] at he
      obtain⟨x,hx⟩:∃ x,(b :: l).getLast? = some x:=⟨_,List.getLast?_eq_some_getLast (by simp)⟩
      rw[hx] at he ⊢
      exact he
   rw[ke k r (by simp at hk;omega) hr]
   simp
theorem yp {s:List UInt8}{k:Int}{r:List (List Fld)}(h:parseS s=(0,k,r)):k=0/\textS r=s:=by
 unfold parseS at h
 split at h
 ·injection h with h _;cases h
 ·split at h
  ·rename_i he
   rcases lF _ _ _ _ _ _ h with⟨h1,h2⟩ | ⟨h1,h2,_,h4⟩
   ·refine⟨h1,?_⟩
    rw[h2,ke s.length s (Nat.le_refl _) he];rfl
   ·refine⟨h1,?_⟩
    rw[h4,<-ke s.length s (Nat.le_refl _) he,h2];rfl
  ·injection h with h _;cases h
end Sz
section
open Go.RowKit
abbrev panAt (k n:Int):Ending:=.panicked [{ v:=.iface 113 (.agg #[.int .i64 k,.int .i64 n]),recovered:=false }]
theorem aV {k n:Int}(w:World):Calls Tryz.prog 53 #[.bool true,.int .i64 k,.int .i64 n] w fun e w'=>e=.returned (.tuple #[])/\w=w':=by
 go_enter Tryz.func53,Tryz.ntmps53
 go_wp2_with fail
 go_end0
 exact⟨rfl,rfl⟩
theorem aO {k n:Int}(w:World):Calls Tryz.prog 53 #[.bool false,.int .i64 k,.int .i64 n] w fun e w'=>e=panAt k n/\w=w':=by
 go_enter Tryz.func53,Tryz.ntmps53
 go_wp2_with fail
 exact⟨rfl,rfl,rfl⟩
theorem eX (k n:Int){o:Int}(w:World) :
  Calls Tryz.prog 19 #[.iface 113 (.agg #[.int .i64 k,.int .i64 n]),.int .i64 o] w fun e w'=>e=.returned (.tuple #[.int .i64 k,.int .i64 n])/\Below w.heap.size w w':=by
 have aa:∀ W:World,(Instr.typeAssert (.iface 113 (.agg #[.int .i64 k,.int .i64 n])) 20 32 true).run Tryz.prog W=.ok (.tuple #[.int .i64 0,.bool false]) W:=fun _=>by kernel_rfl
 have ab:∀ W:World,(Instr.typeAssert (.iface 113 (.agg #[.int .i64 k,.int .i64 n])) 20 113 true).run Tryz.prog W=.ok (.tuple #[.agg #[.int .i64 k,.int .i64 n],.bool true]) W:=fun _=>by kernel_rfl
 go_enter Tryz.func19,Tryz.ntmps19
 go_wp2_with fail
 go_quiet (fail)
 go_wp2_with fail
 go_ret2
 refine⟨rfl,below_drewN ?_ _⟩
 first
  | exact (Below.refl _ _).alloc (Nat.le_refl _) _
  | exact ((Below.refl _ _).alloc (Nat.le_refl _) _).setCell (Nat.le_refl _) _
  | exact Below.setCell (Below.setCell ((Below.refl _ _).alloc (Nat.le_refl _) _) (by simp) _) (by simp) _
  | trace_state
theorem qB (l:List UInt8)(p:UInt8->Bool)(k:Nat)(h:k<l.length):(l.take (k+1)).all p=((l.take k).all p&&p l[k]):=by
 rw[List.take_succ_eq_append_getElem h,List.all_append];simp only[List.all_cons,List.all_nil,Bool.and_true]
theorem oF (l:List UInt8)(p:UInt8->Bool)(k:Nat)(h:k<l.length)(hp:p l[k]=false):l.all p=false:=by
 rw[Bool.eq_false_iff];intro ha;rw[List.all_eq_true] at ha;have:=ha _ (List.getElem_mem h);simp[hp] at this
theorem mH (c:UInt8)(w:World) :
  Calls Tryz.prog 165 #[.int .u8 c.toNat] w fun e w'=>e=.returned (.bool (Vm.ltr c))/\w=w':=by
 unfold Vm.ltr
 by_cases h1:97<=c.toNat <;> by_cases h2:c.toNat<=122 <;> by_cases h3:65<=c.toNat <;> by_cases h4:c.toNat<=90
 all_goals
  go_enter Tryz.func165,Tryz.ntmps165
  go_wp2
 all_goals
  go_ret
  exact⟨by first | (simp[h1,h2,h3,h4];done) | (simp[h1,h2,h3,h4];omega),rfl⟩
theorem lG (l:List UInt8)(w:World)(hm:l.length<=1000000) :
  Calls Tryz.prog 124 #[.string ⟨l.toArray⟩] w fun e w'=>e=.returned (.bool (Sz.keyB l))/\w=w':=by
 obtain⟨R,hR⟩:=ex (Sz.keyB l)
 rw[hR]
 have HF:Hid (l.all Vm.ltr=false->R=false):=fun h=>by rw[<-hR];unfold Sz.keyB;rw[h];rfl
 have HT:Hid (l.all Vm.ltr=true->R=(!l.isEmpty&&decide (l.length<=16))):=fun h=>by rw[<-hR];unfold Sz.keyB;rw[h];rfl
 clear hR
 go_enter Tryz.func124,Tryz.ntmps124
 go_wp2_with fail
 go_loop [6] (fun i=>∃ k:Nat,k<=l.length/\i=.int .i64 k/\Hid ((l.take k).all Vm.ltr=true)) (fun i=>l.length-(intOf i).toNat)
 case atStart=>exact⟨0,Nat.zero_le _,rfl,rfl⟩
 case round =>
  obtain⟨k,hk,rfl,HK⟩:=hrel
  by_cases ad:k<l.length
  ·obtain⟨c,hc,ac⟩:=byte_at l k ad
   have HS:=zh (qB l Vm.ltr k ad)
   rw[ac] at HS
   cases h1:Vm.ltr c
   ·have HR:Hid (R=false):=HF.out (oF l Vm.ltr k ad (by rw[ac];exact h1))
    have HL:=zh h1
    clear h1 ac HS
    go_wp2_with fail
    refine (mH c _).mono ?_
    rintro _ z ⟨rfl,rfl⟩
    rw[HL.out]
    go_wp2_with fail
    go_ret
    exact⟨by rw[HR.out];rfl,rfl⟩
   ·have HY:Hid ((l.take (k+1)).all Vm.ltr=true):=by show _=_;rw[HS.out,HK.out,h1];rfl
    have HL:=zh h1
    clear h1 ac HS
    go_wp2_with fail
    refine (mH c _).mono ?_
    rintro _ z ⟨rfl,rfl⟩
    rw[HL.out]
    go_wp2_with fail
    go_round
    case rel=>exact⟨k+1,by omega,by go_num,HY⟩
    case measure=>simp[intOf];omega
  ·obtain rfl:k=l.length:=by omega
   have HR:Hid (R=(!l.isEmpty&&decide (l.length<=16))):=HT.out (by have:=HK.out;rwa [List.take_length] at this)
   cases he:l.isEmpty
   ·by_cases ab:l.length<=16
    ·have d0:decide ((l.length:Int)<=16)=true:=decide_eq_true (by omega)
     have aa:Hid (R=true):=by show _=_;rw[HR.out,he,decide_eq_true ab];rfl
     clear ab HF HT HR
     go_wp2_with fail
     go_ret
     exact⟨by rw[aa.out];rfl,rfl⟩
    ·have d0:decide ((l.length:Int)<=16)=false:=decide_eq_false (by omega)
     have aa:Hid (R=false):=by show _=_;rw[HR.out,decide_eq_false ab,Bool.and_false]
     clear ab HF HT HR
     go_wp2_with fail
     go_ret
     exact⟨by rw[aa.out];rfl,rfl⟩
   ·have aa:Hid (R=false):=by show _=_;rw[HR.out,he];rfl
    clear HF HT HR
    go_wp2_with fail
    go_ret
    exact⟨by rw[aa.out];rfl,rfl⟩
theorem aam (c:UInt8):(Sz.valC c=true/\decide ((c.toNat:Int)<32)=false/\decide ((126:Int)<(c.toNat:Int))=false)\/(Sz.valC c=false/\decide ((c.toNat:Int)<32)=true)\/(Sz.valC c=false/\decide ((c.toNat:Int)<32)=false/\decide ((126:Int)<(c.toNat:Int))=true):=by
 unfold Sz.valC
 by_cases h1:32<=c.toNat
 ·by_cases h2:c.toNat<=126
  ·left;exact⟨by rw[decide_eq_true h1,decide_eq_true h2];rfl,decide_eq_false (by omega),decide_eq_false (by omega)⟩
  ·right;right;exact⟨by rw[decide_eq_false h2,Bool.and_false],decide_eq_false (by omega),decide_eq_true (by omega)⟩
 ·right;left;exact⟨by rw[decide_eq_false h1];rfl,decide_eq_true (by omega)⟩
theorem mI (l:List UInt8)(w:World)(hm:l.length<=1000000) :
  Calls Tryz.prog 125 #[.string ⟨l.toArray⟩] w fun e w'=>e=.returned (.bool (Sz.valB l))/\w=w':=by
 obtain⟨R,hR⟩:=ex (Sz.valB l)
 rw[hR]
 have HF:Hid (l.all Sz.valC=false->R=false):=fun h=>by rw[<-hR];exact h
 have HT:Hid (l.all Sz.valC=true->R=true):=fun h=>by rw[<-hR];exact h
 clear hR
 go_enter Tryz.func125,Tryz.ntmps125
 go_wp2_with fail
 go_loop [6] (fun i=>∃ k:Nat,k<=l.length/\i=.int .i64 k/\Hid ((l.take k).all Sz.valC=true)) (fun i=>l.length-(intOf i).toNat)
 case atStart=>exact⟨0,Nat.zero_le _,rfl,rfl⟩
 case round =>
  obtain⟨k,hk,rfl,HK⟩:=hrel
  by_cases ab:k<l.length
  ·obtain⟨c,hc,aa⟩:=byte_at l k ab
   have HS:=zh (qB l Sz.valC k ab)
   rw[aa] at HS
   rcases aam c with⟨h1,d1,d2⟩ | ⟨h1,d1⟩ | ⟨h1,d1,d2⟩
   ·have HY:Hid ((l.take (k+1)).all Sz.valC=true):=by show _=_;rw[HS.out,HK.out,h1];rfl
    clear h1 aa HS
    go_wp2_with fail
    go_round
    case rel=>exact⟨k+1,by omega,by go_num,HY⟩
    case measure=>simp[intOf];omega
   all_goals
    have HR:Hid (R=false):=HF.out (oF l Sz.valC k ab (by rw[aa];exact h1))
    clear h1 aa HS
    go_wp2_with fail
    go_ret
    exact⟨by rw[HR.out];rfl,rfl⟩
  ·obtain rfl:k=l.length:=by omega
   have HR:Hid (R=true):=HT.out (by have:=HK.out;rwa [List.take_length] at this)
   clear HF HT
   go_wp2_with fail
   go_ret
   exact⟨by rw[HR.out];rfl,rfl⟩
end
namespace Wm
theorem ma {x i j:Nat}(h:x<2 ^ i)(hj:i<=j):x.testBit j=false:=Nat.testBit_lt_two_pow (Nat.lt_of_lt_of_le h (Nat.pow_le_pow_right (by decide) hj))
theorem mb (n:Bool){r:Nat}(h:r<9223372036854775808):word n r=(if n then 2 ^ 63 else 0) ||| r:=by
 unfold word
 cases n
 ·simp
 ·rw[if_pos rfl,if_pos rfl,show (9223372036854775808:Nat)=2 ^ 63 from rfl]
  exact Nat.two_pow_add_eq_or_of_lt (i:=63) h 1 |>.symm ▸ by simp
theorem eG (n:Bool){r:Nat}(h:r<9223372036854775808)(i:Nat):(word n r).testBit i=if i=63 then n else r.testBit i:=by
 rw[mb n h,Nat.testBit_or]
 by_cases hi:i=63
 ·subst hi
  rw[if_pos rfl,ma (i:=63) h (Nat.le_refl _)]
  cases n
  ·simp
  ·rw[if_pos rfl,Nat.testBit_two_pow_self];rfl
 ·rw[if_neg hi]
  cases n
  ·simp
  ·rw[if_pos rfl,Nat.testBit_two_pow_of_ne (Ne.symm hi),Bool.false_or]
theorem mc (b:Nat)(hb:b<W):b=word (neg b) (rung b):=by
 unfold word neg rung W at *
 split
 ·rename_i h;have:=of_decide_eq_true h;omega
 ·rename_i h;have:¬ 9223372036854775808<=b:=fun hh=>h (decide_eq_true hh);omega
theorem fields (p f i:Nat)(hf:f<2 ^ 52):(p*4503599627370496+f).testBit i=if i<52 then f.testBit i else p.testBit (i-52):=by
 rw[show p*4503599627370496+f=2 ^ 52*p+f from by omega]
 exact Nat.testBit_two_pow_mul_add p hf i
theorem acs (n:Bool){r:Nat}(h:r<9223372036854775808):word n r &&& 9223372036854775808=if n then 9223372036854775808 else 0:=by
 refine Nat.eq_of_testBit_eq fun i=>?_
 rw[Nat.testBit_and,eG n h,show (9223372036854775808:Nat)=2 ^ 63 from rfl]
 by_cases hi:i=63
 ·subst hi
  rw[if_pos rfl,Nat.testBit_two_pow_self]
  cases n
  ·simp
  ·rw[if_pos rfl,Nat.testBit_two_pow_self];rfl
 ·rw[if_neg hi,Nat.testBit_two_pow_of_ne (Ne.symm hi),Bool.and_false]
  cases n
  ·simp
  ·rw[if_pos rfl,Nat.testBit_two_pow_of_ne (Ne.symm hi)]
theorem vp (n:Bool){r:Nat}(h:r<9223372036854775808):word n r &&& 9223372036854775807=r:=by
 rw[show (9223372036854775807:Nat)=2 ^ 63-1 from rfl,Nat.and_two_pow_sub_one_eq_mod]
 have:=(bu n h).1
 unfold rung at this;exact this
theorem wN {r:Nat}(h:r<9223372036854775808):r ||| 9223372036854775808=9223372036854775808+r:=by
 have:=mb true h
 rw[if_pos rfl] at this
 rw[Nat.or_comm,show (9223372036854775808:Nat)=2 ^ 63 from rfl,<-this];rfl
theorem aeY (n:Bool){r:Nat}(h:r<9223372036854775808):word n r ||| 9223372036854775807=word n 9223372036854775807:=by
 refine Nat.eq_of_testBit_eq fun i=>?_
 rw[Nat.testBit_or,eG n h,eG n (by decide),show (9223372036854775807:Nat)=2 ^ 63-1 from rfl,Nat.testBit_two_pow_sub_one]
 by_cases hi:i=63
 ·simp[hi]
 ·simp only[if_neg hi]
  by_cases h2:i<63
  ·simp[h2]
  ·rw[ma (i:=63) h (by omega)];simp[h2]
theorem ad4 {b:Nat}(hb:b<W):18446744073709551615 ^^^ b=18446744073709551615-b:=by
 refine Nat.eq_of_testBit_eq fun i=>?_
 rw[Nat.testBit_xor,show 18446744073709551615-b=2 ^ 64-(b+1) from by unfold W at hb;omega,Nat.testBit_two_pow_sub_succ hb,show (18446744073709551615:Nat)=2 ^ 64-1 from rfl,Nat.testBit_two_pow_sub_one]
 by_cases h2:i<64
 ·simp[h2]
 ·rw[ma (i:=64) hb (by omega)];simp[h2]
theorem aan (n:Bool){r:Nat}(h:r<9223372036854775808):word n r &&& 9227875636482146303=word n (r % 4503599627370496):=by
 have hr:r=(r / 4503599627370496)*4503599627370496+r % 4503599627370496:=by omega
 refine Nat.eq_of_testBit_eq fun i=>?_
 rw[Nat.testBit_and,eG n h,eG n (by omega),show (9227875636482146303:Nat)=word true (2 ^ 52-1) from rfl,eG true (by decide),Nat.testBit_two_pow_sub_one,hr,fields _ _ _ (Nat.mod_lt _ (by decide)),<-hr]
 by_cases hi:i=63
 ·simp[hi]
 ·simp only[if_neg hi]
  by_cases h2:i<52
  ·simp[h2]
  ·rw[ma (i:=52) (x:=r % 4503599627370496) (Nat.mod_lt _ (by decide)) (by omega)];simp[h2]
theorem pM (n:Bool){q f:Nat}(hq:q<2048)(hf:f<4503599627370496):word n f ||| q*4503599627370496=word n (q*4503599627370496+f):=by
 refine Nat.eq_of_testBit_eq fun i=>?_
 rw[Nat.testBit_or,eG n (by omega),eG n (by omega),fields q f i hf]
 have e:=fields q 0 i (by decide)
 rw[Nat.add_zero] at e
 rw[e]
 by_cases hi:i=63
 ·subst hi
  simp only[if_true]
  rw[if_neg (by decide),ma (i:=11) hq (by decide)];simp
 ·simp only[if_neg hi]
  by_cases h2:i<52
  ·simp[h2]
  ·rw[ma (i:=52) hf (by omega)];simp[h2]
theorem sgnB (b:Nat)(hb:b<W):bits .and .u64 (b:Int) 9223372036854775808=if neg b then 9223372036854775808 else 0:=by
 have h:=u64_and_nat b 9223372036854775808 hb (by decide)
 have e:=acs (neg b) (jo b)
 rw[<-mc b hb] at e
 rw[e] at h
 refine h.trans ?_
 cases neg b <;> rfl
theorem absB (b:Nat)(hb:b<W):bits .andNot .u64 (b:Int) 9223372036854775808=(rung b:Int):=by
 have h:=u64_andNot_nat b 9223372036854775808 hb (by decide)
 have e:=vp (neg b) (jo b)
 rw[<-mc b hb] at e
 refine h.trans ?_
 rw[show (18446744073709551615-9223372036854775808:Nat)=9223372036854775807 from rfl,e]
theorem maxB (b:Nat)(hb:b<W):bits .or .u64 (b:Int) 9223372036854775807=(word (neg b) 9223372036854775807:Nat):=by
 have h:=u64_or_nat b 9223372036854775807 hb (by decide)
 have e:=aeY (neg b) (jo b)
 rw[<-mc b hb] at e
 exact h.trans (by rw[e])
theorem signB (r:Nat)(h:r<9223372036854775808):bits .or .u64 (r:Int) 9223372036854775808=(9223372036854775808+r:Nat):=by
 have h1:=u64_or_nat r 9223372036854775808 (by omega) (by decide)
 exact h1.trans (by rw[wN h])
theorem xorB (b:Nat)(hb:b<W):bits .xor .u64 18446744073709551615 (b:Int)=(18446744073709551615-b:Nat):=by
 have h1:=u64_xor_nat 18446744073709551615 b (by decide) hb
 exact h1.trans (by rw[ad4 hb])
theorem clearB (n:Bool)(r:Nat)(h:r<9223372036854775808):bits .andNot .u64 (word n r:Nat) 9218868437227405312=(word n (r % 4503599627370496):Nat):=by
 have h1:=u64_andNot_nat (word n r) 9218868437227405312 (bu n h).2.2 (by decide)
 refine h1.trans ?_
 rw[show (18446744073709551615-9218868437227405312:Nat)=9227875636482146303 from rfl,aan n h]
theorem setB (n:Bool)(q f:Nat)(hq:q<2048)(hf:f<4503599627370496):bits .or .u64 (word n f:Nat) ((q*4503599627370496:Nat):Int)=(word n (q*4503599627370496+f):Nat):=by
 have h1:=u64_or_nat (word n f) (q*4503599627370496) (bu n (by omega)).2.2 (by omega)
 exact h1.trans (by rw[pM n hq hf])
theorem tt (n:Bool){r:Nat}(h:r<9223372036854775808):word n r / 4503599627370496=(if n then 2048 else 0)+r / 4503599627370496/\r / 4503599627370496<2048:=by
 unfold word;cases n <;> simp <;> omega
theorem expB (n:Bool)(r:Nat)(h:r<9223372036854775808):bits .and .u64 ((word n r:Int) / 4503599627370496) 2047=((r / 4503599627370496:Nat):Int):=by
 obtain⟨d1,d2⟩:=tt n h
 have h1:=u64_and_nat (word n r / 4503599627370496) 2047 (by rw[d1];cases n <;> simp <;> omega) (by decide)
 have e:((word n r:Int) / 4503599627370496)=((word n r / 4503599627370496:Nat):Int):=by omega
 rw[e]
 refine h1.trans ?_
 rw[show (2047:Nat)=2 ^ 11-1 from rfl,Nat.and_two_pow_sub_one_eq_mod,d1]
 congr 1
 cases n <;> simp <;> omega
theorem expI (n:Bool)(r:Nat)(h:r<9223372036854775808):bits .and .i64 ((word n r:Int) / 4503599627370496) 2047=((r / 4503599627370496:Nat):Int):=by
 obtain⟨d1,d2⟩:=tt n h
 have e:((word n r:Int) / 4503599627370496)=((word n r / 4503599627370496:Nat):Int):=by omega
 have aa:word n r / 4503599627370496<4096:=by rw[d1];cases n <;> simp <;> omega
 have h1:=bits_mask .i64 63 (by decide) (fun m h0 h1=>by rw[IntKind.wrap_i64];omega) 11 (by decide) ((word n r / 4503599627370496:Nat):Int) (by omega) (by omega)
 rw[e]
 refine (show bits .and .i64 ((word n r / 4503599627370496:Nat):Int) 2047=_ from h1).trans ?_
 rw[d1]
 cases n <;> simp <;> omega
def placeN (b:Nat):Nat:=if nan b then (if neg b then 0 else 18446744073709551615) else (if neg b then 18446744073709551615-b else 9223372036854775808+b)
theorem acu {b:Nat}(hb:b<W)(h:neg b=false):rung b=b/\b<9223372036854775808:=by
 unfold neg rung W at *
 have:=of_decide_eq_false h;omega
end Wm
section
open Go.RowKit
theorem ad5 (b:Nat)(hb:b<Wm.W)(w:World) :
  Calls Tryz.prog 239 #[.float .f64 b] w fun e w'=>e=.returned (.float .f64 (Wm.rung b))/\w=w':=by
 have ab:=dL
 have aa:=ic
 have e:=Wm.absB b hb
 go_enter Tryz.func239,Tryz.ntmps239
 go_wp2_with fail
 go_ret
 exact⟨rfl,rfl⟩
theorem wO (b:Nat)(hb:b<Wm.W)(w:World) :
  Calls Tryz.prog 142 #[.float .f64 b] w fun e w'=>e=.returned (.int .u64 (Wm.placeN b))/\w=w':=by
 have ab:=dL
 have hs:IntKind.u64.signed=false:=rfl
 have hm:IntKind.u64.max=18446744073709551615:=rfl
 have e1:=Wm.sgnB b hb
 have e2:=Wm.maxB b hb
 have e3:=Wm.xorB b hb
 go_enter Tryz.func142,Tryz.ntmps142
 go_wp2_with fail
 refine (c7 b hb _).mono ?_
 rintro e w' ⟨rfl,rfl⟩
 cases hn:Wm.nan b
 ·cases hg:Wm.neg b
  ·have e4:=Wm.signB b (Wm.acu hb hg).2
   rw[hg] at e1
   clear e2 e3
   go_wp2_with fail
   go_ret
   exact⟨by rw[Wm.placeN,hn,hg];rfl,rfl⟩
  ·rw[hg] at e1
   clear e2
   go_wp2_with fail
   go_ret
   exact⟨by rw[Wm.placeN,hn,hg];rfl,rfl⟩
 ·cases hg:Wm.neg b
  ·have aa:bits .or .u64 (b:Int) 9223372036854775807=9223372036854775807:=by rw[e2,hg];rfl
   have e5:bits .and .u64 9223372036854775807 9223372036854775808=0:=by kernel_rfl
   have e6:bits .or .u64 9223372036854775807 9223372036854775808=18446744073709551615:=by kernel_rfl
   clear e1 e2 e3
   go_wp2_with fail
   go_ret
   exact⟨by rw[Wm.placeN,hn,hg];rfl,rfl⟩
  ·have aa:bits .or .u64 (b:Int) 9223372036854775807=18446744073709551615:=by rw[e2,hg];rfl
   have e5:bits .and .u64 18446744073709551615 9223372036854775808=9223372036854775808:=by kernel_rfl
   have e6:bits .xor .u64 18446744073709551615 18446744073709551615=0:=by kernel_rfl
   clear e1 e2 e3
   go_wp2_with fail
   go_ret
   exact⟨by rw[Wm.placeN,hn,hg];rfl,rfl⟩
theorem oG (x:Nat)(w:World) :
  Calls Tryz.prog 178 #[.int .u64 x] w fun e w'=>e=.returned (.bool false)/\w=w':=by
 go_enter Tryz.func178,Tryz.ntmps178
 go_wp2_with fail
 go_ret
 exact⟨by first | rfl | simp,rfl⟩
theorem acv (x y:Nat)(w:World) :
  Calls Tryz.prog 141 #[.int .u64 x,.int .u64 y] w fun e w'=>e=.returned (.int .i64 (Vm.sgn x y))/\w=w':=by
 obtain⟨v,hv,hc⟩:∃ v:Int,Hid (Vm.sgn x y=v)/\((x<y/\v = -1)\/(y<x/\v=1)\/(x=y/\v=0)):=by
  refine⟨_,zh rfl,?_⟩
  unfold Vm.sgn
  by_cases h1:(x:Int)<y
  ·left;exact⟨by omega,by rw[if_pos h1]⟩
  ·by_cases h2:(y:Int)<x
   ·right;left;exact⟨by omega,by rw[if_neg h1,if_pos h2]⟩
   ·right;right;exact⟨by omega,by rw[if_neg h1,if_neg h2]⟩
 rcases hc with⟨h1,rfl⟩ | ⟨h1,rfl⟩ | ⟨rfl,rfl⟩
 all_goals
  go_enter Tryz.func141,Tryz.ntmps141
  go_wp2_with fail
  refine (oG _ _).mono ?_
  rintro e w' ⟨rfl,rfl⟩
  go_wp2_with fail
  refine (oG _ _).mono ?_
  rintro e w' ⟨rfl,rfl⟩
  go_wp2_with fail
  go_ret
  exact⟨by rw[hv.out];rfl,rfl⟩
theorem aao (a b:Nat)(ha:a<Wm.W)(hb:b<Wm.W)(w:World) :
  Calls Tryz.prog 92 #[.float .f64 a,.float .f64 b] w fun e w'=>e=.returned (.int .i64 (Vm.sgn (Wm.placeN a) (Wm.placeN b)))/\w=w':=by
 go_enter Tryz.func92,Tryz.ntmps92
 go_wp2_with fail
 refine (wO a ha _).mono ?_
 rintro e w' ⟨rfl,rfl⟩
 go_wp2_with fail
 refine (wO b hb _).mono ?_
 rintro e w' ⟨rfl,rfl⟩
 go_wp2_with fail
 refine (acv _ _ _).mono ?_
 rintro e w' ⟨rfl,rfl⟩
 go_wp2_with fail
 go_ret
 exact⟨rfl,rfl⟩
theorem aeZ (a b:Nat)(ha:a<Wm.W)(hb:b<Wm.W)(w:World) :
  Calls Tryz.prog 51 #[.float .f64 a,.float .f64 b] w fun e w'=>e=.returned (.bool (Vm.sgn (Wm.placeN a) (Wm.placeN b)==0))/\w=w':=by
 go_enter Tryz.func51,Tryz.ntmps51
 go_wp2_with fail
 refine (aao a b ha hb _).mono ?_
 rintro e w' ⟨rfl,rfl⟩
 go_wp2_with fail
 go_ret
 exact⟨rfl,rfl⟩
def keyN (b:Nat):Int:=if Wm.nan b then (if Wm.neg b then -3 else 3) else if Wm.sk b<0 then -2 else if 0<Wm.sk b then 2 else if Wm.neg b then -1 else 1
def cmpW (a b:Nat):Int:=Vm.sgn (Wm.placeN a) (Wm.placeN b)
def refCmpW (a b:Nat):Int:=if keyN a≠keyN b then Vm.sgn (keyN a) (keyN b) else if Wm.nan a||Wm.nan b then 0 else Vm.sgn (Wm.sk a) (Wm.sk b)
theorem acw (b:Nat)(hb:b<Wm.W):(Wm.neg b=false/\Wm.rung b=b/\b<9223372036854775808)\/(Wm.neg b=true/\b=9223372036854775808+Wm.rung b/\Wm.rung b<9223372036854775808):=by
 unfold Wm.neg Wm.rung Wm.W at *
 by_cases h:9223372036854775808<=b
 ·right;exact⟨decide_eq_true h,by omega,by omega⟩
 ·left;exact⟨decide_eq_false h,by omega,by omega⟩
theorem bw (a b:Int):(a<b/\Vm.sgn a b = -1)\/(b<a/\Vm.sgn a b=1)\/(a=b/\Vm.sgn a b=0):=by
 unfold Vm.sgn
 by_cases h1:a<b
 ·left;exact⟨h1,by rw[if_pos h1]⟩
 ·by_cases h2:b<a
  ·right;left;exact⟨h2,by rw[if_neg h1,if_pos h2]⟩
  ·right;right;exact⟨by omega,by rw[if_neg h1,if_neg h2]⟩
theorem tu (b:Nat)(hb:b<Wm.W) :
  (Wm.nan b=true/\keyN b = -3/\Wm.placeN b=0)\/(Wm.nan b=true/\keyN b=3/\Wm.placeN b=18446744073709551615) \/
  (Wm.nan b=false/\(Wm.placeN b:Int)=(if Wm.neg b then 9223372036854775807 else 9223372036854775808)+Wm.sk b/\Wm.sk b<=9218868437227405312/\-9218868437227405312<=Wm.sk b/\(Wm.neg b=true->Wm.sk b<=0)/\(Wm.neg b=false->0<=Wm.sk b) /\
   ((Wm.sk b<0/\keyN b = -2)\/(0<Wm.sk b/\keyN b=2)\/(Wm.sk b=0/\Wm.neg b=true/\keyN b = -1)\/(Wm.sk b=0/\Wm.neg b=false/\keyN b=1))):=by
 have hr:Wm.nan b=false->Wm.rung b<=9218868437227405312:=fun h=>by unfold Wm.nan at h;simpa using h
 cases hn:Wm.nan b
 ·have hr:=hr hn
  right;right
  refine⟨rfl,?_⟩
  have hk:keyN b=(if Wm.sk b<0 then -2 else if 0<Wm.sk b then 2 else if Wm.neg b then -1 else 1):=by unfold keyN;rw[hn];rfl
  have aa:(Wm.sk b<0/\keyN b = -2)\/(0<Wm.sk b/\keyN b=2)\/(Wm.sk b=0/\Wm.neg b=true/\keyN b = -1)\/(Wm.sk b=0/\Wm.neg b=false/\keyN b=1):=by
   rw[hk]
   by_cases c1:Wm.sk b<0
   ·left;exact⟨c1,by rw[if_pos c1]⟩
   ·by_cases c2:0<Wm.sk b
    ·right;left;exact⟨c2,by rw[if_neg c1,if_pos c2]⟩
    ·right;right
     cases Wm.neg b
     ·right;exact⟨by omega,rfl,by rw[if_neg c1,if_neg c2];rfl⟩
     ·left;exact⟨by omega,rfl,by rw[if_neg c1,if_neg c2];rfl⟩
  refine⟨?_,?_,?_,?_,?_,aa⟩
  all_goals clear hk aa
  all_goals unfold Wm.sk
  all_goals try unfold Wm.placeN
  all_goals try rw[hn]
  all_goals
   rcases acw b hb with⟨h1,h2,h3⟩ | ⟨h1,h2,h3⟩
   ·rw[h1]
    try rw[h2]
    rw[h2] at hr
    simp only[Bool.false_eq_true,if_false,false_implies,forall_const]
    try omega
   ·rw[h1]
    simp only[Bool.true_eq_false,Bool.false_eq_true,if_false,if_true,false_implies,forall_const]
    try omega
 ·unfold keyN Wm.placeN
  rw[hn]
  cases Wm.neg b
  ·right;left;exact⟨rfl,rfl,rfl⟩
  ·left;exact⟨rfl,rfl,rfl⟩
theorem yq (a b:Nat)(ha:a<Wm.W)(hb:b<Wm.W):refCmpW a b=cmpW a b:=by
 have s1:=bw (keyN a) (keyN b)
 have s2:=bw (Wm.sk a) (Wm.sk b)
 have s3:=bw (Wm.placeN a) (Wm.placeN b)
 have ca:=tu a ha
 have cb:=tu b hb
 unfold refCmpW cmpW
 generalize Vm.sgn (keyN a) (keyN b)=x at *
 generalize Vm.sgn (Wm.sk a) (Wm.sk b)=y at *
 generalize Vm.sgn (Wm.placeN a) (Wm.placeN b)=z at *
 generalize keyN a=ka at *
 generalize keyN b=kb at *
 generalize Wm.placeN a=pa at *
 generalize Wm.placeN b=pb at *
 generalize Wm.sk a=sa at *
 generalize Wm.sk b=sb at *
 generalize Wm.nan a=na at *
 generalize Wm.nan b=nb at *
 generalize Wm.neg a=ga at *
 generalize Wm.neg b=gb at *
 have hg:(if ka≠kb then x else if na||nb then 0 else y)=(if ka=kb then (if na||nb then 0 else y) else x):=by
  by_cases hk:ka=kb
  ·rw[if_pos hk,if_neg (fun h=>h hk)]
  ·rw[if_neg hk,if_pos hk]
 rw[hg]
 clear hg
 by_cases hk:ka=kb
 ·rw[if_pos hk]
  cases na <;> cases nb <;> cases ga <;> cases gb <;> simp only[Bool.false_eq_true,Bool.true_eq_false,Bool.or_true,Bool.or_false,if_false,if_true,false_and,true_and,and_false,or_false,false_or,false_implies,forall_const] at*<;> omega
 ·rw[if_neg hk]
  cases na <;> cases nb <;> cases ga <;> cases gb <;> simp only[Bool.false_eq_true,Bool.true_eq_false,if_false,if_true,false_and,true_and,and_false,or_false,false_or,false_implies,forall_const] at*<;> omega
theorem me:Wm.sk 0=0:=rfl
theorem kg:Wm.nan 0=false:=rfl
theorem wP (b:Nat)(hb:b<Wm.W):(FloatKind.f64.format.order b 0==some .lt)=(!Wm.nan b&&decide (Wm.sk b<0)):=by
 rw[Wm.oB b 0 hb (by decide),kg,me];simp
theorem ad7 (b:Nat)(hb:b<Wm.W):(FloatKind.f64.format.order b 0==some .gt)=(!Wm.nan b&&decide (0<Wm.sk b)):=by
 rw[Wm.oC b 0 hb (by decide),kg,me];simp
theorem aap (b:Nat)(hb:b<Wm.W):((b:Int) / 9223372036854775808==1)=Wm.neg b:=by
 unfold Wm.neg Wm.W at *
 rw[Bool.eq_iff_iff];simp;omega
theorem aaq (b:Nat):∃ v:Int,Hid (keyN b=v)/\((Wm.nan b=true/\Wm.neg b=true/\v = -3)\/(Wm.nan b=true/\Wm.neg b=false/\v=3)\/(Wm.nan b=false/\Wm.sk b<0/\v = -2)\/(Wm.nan b=false/\0<Wm.sk b/\v=2)\/(Wm.nan b=false/\Wm.sk b=0/\Wm.neg b=true/\v = -1)\/(Wm.nan b=false/\Wm.sk b=0/\Wm.neg b=false/\v=1)):=by
 refine⟨_,zh rfl,?_⟩
 unfold keyN
 cases Wm.nan b
 ·by_cases c1:Wm.sk b<0
  ·right;right;left;exact⟨rfl,c1,by rw[if_neg Bool.false_ne_true,if_pos c1]⟩
  ·by_cases c2:0<Wm.sk b
   ·right;right;right;left;exact⟨rfl,c2,by rw[if_neg Bool.false_ne_true,if_neg c1,if_pos c2]⟩
   ·cases Wm.neg b
    ·right;right;right;right;right;exact⟨rfl,by omega,rfl,by rw[if_neg Bool.false_ne_true,if_neg c1,if_neg c2];rfl⟩
    ·right;right;right;right;left;exact⟨rfl,by omega,rfl,by rw[if_neg Bool.false_ne_true,if_neg c1,if_neg c2];rfl⟩
 ·cases Wm.neg b
  ·right;left;exact⟨rfl,rfl,rfl⟩
  ·left;exact⟨rfl,rfl,rfl⟩
theorem wQ (b:Nat)(hb:b<Wm.W)(w:World) :
  Calls Tryz.prog 63 #[.float .f64 b] w fun e w'=>e=.returned (.int .i64 (keyN b))/\w=w':=by
 have aa:=dL
 have o1:=Wm.ib b hb
 have o2:=wP b hb
 have o3:=ad7 b hb
 have o4:=aap b hb
 obtain⟨v,hv,hc⟩:=aaq b
 rcases hc with⟨hn,hg,rfl⟩ | ⟨hn,hg,rfl⟩ | ⟨hn,hs,rfl⟩ | ⟨hn,hs,rfl⟩ | ⟨hn,hs,hg,rfl⟩ | ⟨hn,hs,hg,rfl⟩
 all_goals
  rw[hn] at o1 o2 o3
  try rw[decide_eq_true hs,decide_eq_false (by omega)] at *
  try rw[decide_eq_true hs] at o3
  try rw[decide_eq_false (show ¬ Wm.sk b<0 by omega)] at o2
  try rw[decide_eq_false (show ¬ 0<Wm.sk b by omega)] at o3
  simp only[Bool.not_true,Bool.not_false,Bool.true_and,Bool.false_and] at o2 o3
  try rw[hg] at o4
  try clear hs
  go_enter Tryz.func63,Tryz.ntmps63
  go_wp2_with fail
  go_ret
  exact⟨by rw[hv.out];rfl,rfl⟩
theorem tv (x y:Int)(w:World) :
  Calls Tryz.prog 64 #[.int .i64 x,.int .i64 y] w fun e w'=>e=.returned (.int .i64 (Vm.sgn x y))/\w=w':=by
 rcases bw x y with⟨h,hv⟩ | ⟨h,hv⟩ | ⟨h,hv⟩
 all_goals
  have H:=zh hv
  clear hv
  try subst h
  go_enter Tryz.func64,Tryz.ntmps64
  go_wp2_with fail
  go_ret
  exact⟨by rw[H.out];rfl,rfl⟩
theorem oH (a b:Nat)(ha:a<Wm.W)(hb:b<Wm.W)(w:World) :
  Calls Tryz.prog 26 #[.float .f64 a,.float .f64 b] w fun e w'=>e=.returned (.int .i64 (cmpW a b))/\w=w':=by
 rw[<-yq a b ha hb]
 have H:Hid (refCmpW a b=if keyN a≠keyN b then Vm.sgn (keyN a) (keyN b) else if Wm.nan a||Wm.nan b then 0 else Vm.sgn (Wm.sk a) (Wm.sk b)):=rfl
 have o1:=Wm.oB a b ha hb
 have o2:=Wm.oC a b ha hb
 go_enter Tryz.func26,Tryz.ntmps26
 go_wp2_with fail
 refine (wQ a ha _).mono ?_
 rintro e w' ⟨rfl,rfl⟩
 go_wp2_with fail
 refine (wQ b hb _).mono ?_
 rintro e w' ⟨rfl,rfl⟩
 by_cases hk:keyN a=keyN b
 ·have aa:(keyN a != keyN b)=false:=by simp[hk]
  have HE:Hid (refCmpW a b=if Wm.nan a||Wm.nan b then 0 else Vm.sgn (Wm.sk a) (Wm.sk b)):=by show _=_;rw[H.out,if_neg (fun h=>h hk)]
  generalize keyN a=ka at *
  subst hk
  clear H
  cases hn:(Wm.nan a||Wm.nan b)
  ·have ab:Wm.nan a=false:=by revert hn;cases Wm.nan a <;> simp
   have ac:Wm.nan b=false:=by revert hn;cases Wm.nan b <;> simp
   rw[ab,ac] at o1 o2
   rcases bw (Wm.sk a) (Wm.sk b) with⟨h,hv⟩ | ⟨h,hv⟩ | ⟨h,hv⟩
   all_goals
    have HV:Hid (refCmpW a b=Vm.sgn (Wm.sk a) (Wm.sk b)):=by show _=_;rw[HE.out,hn];rfl
    rw[hv] at HV
    clear HE hv hn
   ·rw[decide_eq_true h] at o1
    rw[decide_eq_false (by omega)] at o2
    simp only[Bool.not_false,Bool.true_and] at o1 o2
    clear h
    go_wp2_with fail
    go_ret
    exact⟨by rw[HV.out];rfl,rfl⟩
   ·rw[decide_eq_false (by omega)] at o1
    rw[decide_eq_true h] at o2
    simp only[Bool.not_false,Bool.true_and] at o1 o2
    clear h
    go_wp2_with fail
    go_ret
    exact⟨by rw[HV.out];rfl,rfl⟩
   ·rw[decide_eq_false (by omega)] at o1
    rw[decide_eq_false (by omega)] at o2
    simp only[Bool.not_false,Bool.true_and] at o1 o2
    clear h
    go_wp2_with fail
    go_ret
    exact⟨by rw[HV.out];rfl,rfl⟩
  ·have HV:Hid (refCmpW a b=0):=by show _=_;rw[HE.out,hn];rfl
   have e1:(FloatKind.f64.format.order a b==some .lt)=false:=by rw[o1];revert hn;cases Wm.nan a <;> cases Wm.nan b <;> simp
   have e2:(FloatKind.f64.format.order a b==some .gt)=false:=by rw[o2];revert hn;cases Wm.nan a <;> cases Wm.nan b <;> simp
   clear o1 o2 HE hn
   go_wp2_with fail
   go_ret
   exact⟨by rw[HV.out];rfl,rfl⟩
 ·have aa:(keyN a != keyN b)=true:=by simp[hk]
  have HE:Hid (refCmpW a b=Vm.sgn (keyN a) (keyN b)):=by show _=_;rw[H.out,if_pos hk]
  clear H o1 o2 hk
  go_wp2_with fail
  refine (tv _ _ _).mono ?_
  rintro e w' ⟨rfl,rfl⟩
  go_wp2_with fail
  go_ret
  exact⟨by rw[HE.out];rfl,rfl⟩
end
end Go.Proofs.YtkaeamjnphaadaaGreatDoor
