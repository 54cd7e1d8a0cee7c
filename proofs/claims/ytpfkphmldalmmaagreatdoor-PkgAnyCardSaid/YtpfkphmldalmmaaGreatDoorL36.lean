/- Part 36 of what the laws lean on. -/
import Derived.Test.YtpfkphmldalmmaaGreatDoorL35
set_option maxRecDepth 100000
set_option maxHeartbeats 6400000
namespace Go.Proofs.YtpfkphmldalmmaaGreatDoor
section
open Go.RowKit Rs At Pg
namespace Pg
theorem lC {l:List Atm}(h:fewAs l=true):l.length<=30/\AFew l/\ASmall l:=by
 unfold fewAs at h
 rw[Bool.and_eq_true,decide_eq_true_eq] at h
 have hh:=List.all_eq_true.1 h.2
 have e:∀ a∈l,a.name.length<=100/\a.rng.length<=80:=fun a ha=>by
  have h1:=hh a ha
  unfold fewA at h1
  rw[Bool.and_eq_true,decide_eq_true_eq] at h1
  exact⟨h1.1,adk h1.2⟩
 exact⟨h.1,fun a ha=>⟨Nat.le_trans (e a ha).1 (by decide),Nat.le_trans (e a ha).2 (by decide)⟩,fun a ha=>Nat.le_trans (e a ha).2 (by decide)⟩
theorem uA {p:Pk}(h:fewP p=true)(hw:p.wt<Wm.W):PFew p/\PSmall p:=by
 unfold fewP at h
 simp only[Bool.and_eq_true,decide_eq_true_eq] at h
 obtain⟨h1,h2,h3,h4,h5,h6,h7⟩:=h
 obtain⟨c1,c2,c3⟩:=lC h5
 have hd:=List.all_eq_true.1 h6
 have hg:=List.all_eq_true.1 h7
 refine⟨⟨Nat.le_trans h1 (by decide),by omega,fun d hm=>?_,by omega,c2,by omega,fun g hm=>?_,hw⟩,by omega,fun d hm=>?_,by omega,c3,by omega⟩
 ·obtain⟨q1,q2,_⟩:=lC (hd d hm)
  exact⟨by omega,q2⟩
 ·have h8:=hg g hm
  unfold fewG at h8
  rw[Bool.and_eq_true,decide_eq_true_eq,decide_eq_true_eq] at h8
  exact⟨Nat.le_trans h8.1 (by decide),Nat.le_trans h8.2 (by decide)⟩
 ·obtain⟨q1,_,q3⟩:=lC (hd d hm)
  exact⟨by omega,q3⟩
end Pg
end
section
open Go.RowKit Rs At Pg
attribute [local go_sem ↓] Go.wp_at_zero Go.wp_at_succ
theorem i9 (v:List UInt8)(w:World):Calls Tryz.prog 28 #[.string ⟨v.toArray⟩] w fun e w'=>e=.returned (.int .i64 (verE v))/\Below w.heap.size w w':=by
 have HC:=zh (eC v w)
 obtain⟨R,hR⟩:=ex (verE v)
 rw[hR]
 unfold verE at hR
 have aa:Vm.check v=0->canonOf v=Vm.canon v:=fun h=>by rw[canonOf,if_pos h]
 obtain⟨k,hk⟩:=ex (Vm.check v)
 rw[hk] at HC hR aa
 by_cases h0:k=0
 ·rw[if_pos h0,<-aa h0] at hR
  subst h0
  obtain⟨x,hx⟩:=ex (canonOf v)
  rw[hx] at HC hR
  clear hx aa hk
  by_cases hv:x=v
  ·rw[if_pos hv] at hR
   subst hR
   have e:(x==v)=true:=by simpa using hv
   clear hv
   go_enter Tryz.func28,Tryz.ntmps28
   go_wp2_with fail
   refine HC.out.mono ?_
   rintro _ u ⟨rfl,hb⟩
   have HB:=zh hb
   clear hb
   go_wp2_with fail
   go_ret
   exact⟨rfl,HB.out⟩
  ·rw[if_neg hv] at hR
   subst hR
   have e:(x==v)=false:=beq_eq_false_iff_ne.2 hv
   clear hv
   go_enter Tryz.func28,Tryz.ntmps28
   go_wp2_with fail
   refine HC.out.mono ?_
   rintro _ u ⟨rfl,hb⟩
   have HB:=zh hb
   clear hb
   go_wp2_with fail
   go_ret
   exact⟨rfl,HB.out⟩
 ·rw[if_neg h0] at hR
  subst hR
  clear aa hk
  go_enter Tryz.func28,Tryz.ntmps28
  go_wp2_with fail
  refine HC.out.mono ?_
  rintro _ u ⟨rfl,hb⟩
  have HB:=zh hb
  clear hb
  go_wp2_with fail
  go_ret
  exact⟨rfl,HB.out⟩
theorem lD (A:Option Addr)(n c:Nat)(l:List Atm)(w:World)(hw:MaxOk w)(hn:l.length=n)(hr:ARow w A l)(hl:n<=1000000)(hf:AFew l) :
  Calls Tryz.prog 29 #[.slice A n c] w fun e w'=>e=.returned (.int .i64 (atomsE l))/\Below w.heap.size w w':=by
 obtain⟨R,hR⟩:=ex (atomsE l)
 rw[hR]
 have HX:=zh hR
 have HR:=zh hr
 have HN:=zh hn
 have HF:=zh hf
 have HM:=zh hw
 clear hr hn hf hw hR
 go_enter Tryz.func29,Tryz.ntmps29
 go_wp2_with fail
 go_loopw [3] (fun i wr=>∃ k:Nat,k<=n/\i=.int .i64 k/\Hid (atomsE (l.drop k)=R)/\Hid (Below w.heap.size w wr)) (fun i _=>n-(intOf i).toNat)
 case atStart=>exact⟨0,Nat.zero_le _,rfl,HX,Below.refl _ _⟩
 case round =>
  obtain⟨k,hk,rfl,HH,HB⟩:=hrel
  by_cases af:k<n
  ·have ab:k<l.length:=by rw[HN.out];exact af
   obtain⟨ad,C,m,d,rfl,hm,hs,hc⟩:=bM HR.out k ab
   obtain⟨c0,c1⟩:=hc _ HB.out
   have aa:=ei HF.out k ab
   obtain⟨a,ha⟩:=ex (l[k])
   have h1:=HH.out
   rw[List.drop_eq_getElem_cons ab,ha] at h1
   unfold atomsE at h1
   rw[ha] at hm hs c0 aa
   obtain⟨nm,r⟩:=a
   dsimp only at hm hs c0 aa
   obtain⟨x,hx⟩:=ex (checkA ⟨nm,r⟩)
   have ht:=mT nm C m d r wr (ah HM.out HB.out) aa.1 hm (an hs HB.out) (by rw[<-hm];exact aa.2)
   rw[hx] at ht h1
   have HT:=zh ht
   have H1:=zh h1
   clear hc ha hm hs aa h1 ht hx HH
   go_wp2_with fail
   refine HT.out.mono ?_
   rintro _ u2 ⟨rfl,ae⟩
   have ac:Hid (Below w.heap.size w u2):=bt HB.out ae
   clear ae HT c0 c1
   by_cases h0:x=0
   ·have H2:Hid (atomsE (l.drop (k+1))=R):=by have h:=H1.out;rw[if_pos h0] at h;exact h
    subst h0
    clear H1
    go_wp2_with fail
    go_roundw
    case rel=>exact⟨k+1,by omega,by go_num,H2,ac⟩
    case measure=>simp[intOf];omega
   ·have H2:Hid (x=R):=by have h:=H1.out;rw[if_neg h0] at h;exact h
    clear H1
    go_wp2_with fail
    go_ret
    exact⟨by rw[H2.out];rfl,ac.out⟩
  ·obtain rfl:k=n:=by omega
   have H2:Hid (R=0):=by
    show _=_
    rw[<-HH.out,List.drop_eq_nil_of_le (by rw[HN.out];exact Nat.le_refl _)];rfl
   go_wp2_with fail
   go_ret
   exact⟨by rw[H2.out];rfl,HB.out⟩
theorem gM (A B:Option Addr)(n c m d:Nat)(l r:List Atm)(w:World)(hn:l.length=n)(hm:r.length=m)(hr:ARow w A l)(hq:ARow w B r)(hl:n<=100000)(hml:m<=100000)(hf:AFew l)(hg:AFew r) :
  Calls Tryz.prog 37 #[.slice A n c,.slice B m d] w fun e w'=>e=.returned (.bool (decide (l=r)))/\Below w.heap.size w w':=by
 obtain⟨R,hR⟩:=ex (decide (l=r))
 rw[hR]
 have HN:=zh hn
 have HM:=zh hm
 have HR:=zh hr
 have HQ:=zh hq
 have HF:=zh hf
 have HG:=zh hg
 clear hn hm hr hq hf hg
 by_cases ao:n=m
 ·subst ao
  have ap:Hid ((∀ k,k<=l.length->l.take k=r.take k->∀ (h1:k<l.length) (h2:k<r.length),l[k]≠r[k]->R=false)/\(l.take n=r.take n->R=true)):=by
   refine⟨fun k _ _ h1 h2 hne=>?_,fun h=>?_⟩
   ·rw[<-hR];refine decide_eq_false fun e=>?_
    subst e;exact hne rfl
   ·rw[<-hR];refine decide_eq_true ?_
    rwa [List.take_of_length_le (by rw[HN.out];exact Nat.le_refl _),List.take_of_length_le (by rw[HM.out];exact Nat.le_refl _)] at h
  clear hR
  go_enter Tryz.func37,Tryz.ntmps37
  go_wp2_with fail
  go_loopw [5] (fun i wr=>∃ k:Nat,k<=n/\i=.int .i64 k/\Hid (l.take k=r.take k)/\Hid (Below w.heap.size w wr)) (fun i _=>n-(intOf i).toNat)
  case atStart=>exact⟨0,Nat.zero_le _,rfl,rfl,Below.refl _ _⟩
  case round =>
   obtain⟨k,hk,rfl,HH,HW⟩:=hrel
   by_cases aq:k<n
   ·have h1:k<l.length:=by rw[HN.out];exact aq
    have h2:k<r.length:=by rw[HM.out];exact aq
    obtain⟨ad,C,i,x,rfl,hi,ai,ab⟩:=bM HR.out k h1
    obtain⟨ae,E,j,y,rfl,hj,aj,ac⟩:=bM HQ.out k h2
    have af:=ei HF.out k h1
    have ag:=ei HG.out k h2
    have ah:=ap.out.1 k (by omega) HH.out h1 h2
    have aa:l[k]=r[k]->l.take (k+1)=r.take (k+1):=fun h=>by rw[List.take_succ_eq_append_getElem h1,List.take_succ_eq_append_getElem h2,HH.out,h]
    obtain⟨a,ha⟩:=ex (l[k])
    obtain⟨b,hb⟩:=ex (r[k])
    rw[ha] at hi ai ab af ah aa
    rw[hb] at hj aj ac ag ah aa
    obtain⟨na,ra⟩:=a
    obtain⟨nb,rb⟩:=b
    dsimp only at hi ai ab af hj aj ac ag
    have ar:Hid (∀ W,Below w.heap.size w W->W.cell? (ad.add (k*2))=some (.string ⟨na.toArray⟩)/\W.cell? ⟨(ad.add (k*2)).block,(ad.add (k*2)).off+1,none⟩=some (.slice C i x)/\W.cell? (ae.add (k*2))=some (.string ⟨nb.toArray⟩)/\W.cell? ⟨(ae.add (k*2)).block,(ae.add (k*2)).off+1,none⟩=some (.slice E j y)):=fun W h=>⟨(ab _ h).1,(ab _ h).2,(ac _ h).1,(ac _ h).2⟩
    have HT:Hid (∀ W,Below w.heap.size w W->_):=fun W h=>om na nb C E i j x y ra rb W hi hj (an ai h) (an aj h) (by rw[<-hi];exact af.2) (by rw[<-hj];exact ag.2)
    have aw:=zh ah
    have ak:=zh aa
    have al:Hid (Below w.heap.size w wr.drew):=HW.out.drew
    clear ha hb hi ai ab af hj aj ac ag ah aa
    obtain⟨q,hq⟩:=ex (decide ((⟨na,ra⟩:Atm)=⟨nb,rb⟩))
    rw[hq] at HT
    have au:=zh hq
    clear hq
    go_wp2_with fail
    go_region_held3 (fun u=>u.cell? (ad.add (k*2))=some (.string ⟨na.toArray⟩)/\u.cell? ⟨(ad.add (k*2)).block,(ad.add (k*2)).off+1,none⟩=some (.slice C i x)/\u.cell? (ae.add (k*2))=some (.string ⟨nb.toArray⟩)/\u.cell? ⟨(ae.add (k*2)).block,(ae.add (k*2)).off+1,none⟩=some (.slice E j y))
     (first
      | with_reducible exact ar.out _ al.out
      | with_reducible exact ar.out _ am.out)
     ((go_at_call 76;refine (HT.out _ al.out).mono ?_;rintro _ u2 ⟨rfl,av⟩;have am:Hid (Below w.heap.size w u2):=bt al.out av;clear av))
    cases q
    ·have HX:Hid (R=false):=aw.out (of_decide_eq_false au.out)
     go_wp2_with fail
     go_ret
     exact⟨by rw[HX.out];rfl,am.out⟩
    ·have ax:=zh (ak.out (of_decide_eq_true au.out))
     go_wp2_with fail
     go_roundw
     case rel=>exact⟨k+1,by omega,by go_num,ax,am⟩
     case measure=>simp[intOf];omega
   ·obtain rfl:k=n:=by omega
    have HX:Hid (R=true):=ap.out.2 HH.out
    go_wp2_with fail
    go_ret
    exact⟨by rw[HX.out];rfl,HW.out⟩
 ·have HX:Hid (R=false):=by
   show _=_
   rw[<-hR];refine decide_eq_false fun e=>ao ?_
   rw[<-HN.out,<-HM.out,e]
  have hp:(n:Int)≠(m:Int):=by omega
  clear hR
  go_enter Tryz.func37,Tryz.ntmps37
  go_wp2_with fail
  go_ret
  exact⟨by rw[HX.out];rfl,Below.refl _ _⟩
end
section
open Go.RowKit Rs At Pg
theorem giveRT:GiveT 68:=⟨by kernel_rfl,by kernel_rfl,by kernel_rfl,by kernel_rfl⟩
attribute [local go_sem ↓] Go.wp_at_zero Go.wp_at_succ
theorem ja (p q:Pk)(D C G D' C' G':Option Addr)(dn dc cn cc gn gc dn' dc' cn' cc' gn' gc':Nat)(w:World)(hd:Pg.DRow w D p.deps)(hdn:p.deps.length=dn)(hc:ARow w C p.confl)(hcn:p.confl.length=cn)(hg:GRow w G p.prov)(hgn:p.prov.length=gn)(hf:PFew p)(hd':Pg.DRow w D' q.deps)(hdn':q.deps.length=dn')(hc':ARow w C' q.confl)(hcn':q.confl.length=cn')(hg':GRow w G' q.prov)(hgn':q.prov.length=gn')(hf':PFew q)(hs:dn<=100000/\cn<=100000/\gn<=100000/\cn'<=100000/\(∀ d∈p.deps,d.length<=100000)/\∀ d∈q.deps,d.length<=100000) :
  Calls Tryz.prog 10 #[.agg #[.string ⟨p.name.toArray⟩,.string ⟨p.ver.toArray⟩,.slice D dn dc,.slice C cn cc,.slice G gn gc,.float .f64 p.wt],.agg #[.string ⟨q.name.toArray⟩,.string ⟨q.ver.toArray⟩,.slice D' dn' dc',.slice C' cn' cc',.slice G' gn' gc',.float .f64 q.wt]] w fun e w'=>e=.returned (.bool (samP p q))/\Below w.heap.size w w':=by
 obtain⟨nm,v,deps,confl,prov,wt⟩:=p
 obtain⟨al,v',ab,ag,aa,av⟩:=q
 obtain⟨R,hR⟩:=ex (samP ⟨nm,v,deps,confl,prov,wt⟩ ⟨al,v',ab,ag,aa,av⟩)
 rw[hR]
 unfold samP at hR
 dsimp only at hd hdn hc hcn hg hgn hd' hdn' hc' hcn' hg' hgn' hR hs ⊢
 obtain⟨-,f2,f3,f4,f5,f6,-,f8⟩:=hf
 obtain⟨-,-,aW,-,aX,-,-,aY⟩:=hf'
 dsimp only at f2 f3 f4 f5 f6 f8 aW aX aY
 obtain⟨s1,s2,s3,s4,s5,s6⟩:=hs
 obtain⟨W1,aZ⟩:=ex (w.alloc (.cells #[.string ⟨nm.toArray⟩,.string ⟨v.toArray⟩,.slice D dn dc,.slice C cn cc,.slice G gn gc,.float .f64 wt] 27))
 obtain⟨W2,a0⟩:=ex (W1.alloc (.cells #[.string ⟨al.toArray⟩,.string ⟨v'.toArray⟩,.slice D' dn' dc',.slice C' cn' cc',.slice G' gn' gc',.float .f64 av] 27))
 have a2:Below w.heap.size w W1:=ai aZ
 have aF:Below W1.heap.size W1 W2:=ai a0
 have HB:Hid (Below w.heap.size w W2):=bt a2 aF
 have af:Hid (∀ u,Below W2.heap.size W2 u->Below w.heap.size w u):=fun u h=>bt HB.out h
 obtain⟨b,hb⟩:=ex w.heap.size
 obtain⟨b1,a8⟩:=ex W1.heap.size
 have ap:Hid (∀ u,Below W2.heap.size W2 u->(u.cell? ⟨b,0,none⟩=some (.string ⟨nm.toArray⟩)/\u.cell? ⟨b,1,none⟩=some (.string ⟨v.toArray⟩)/\u.cell? ⟨b,2,none⟩=some (.slice D dn dc)/\u.cell? ⟨b,3,none⟩=some (.slice C cn cc)/\u.cell? ⟨b,4,none⟩=some (.slice G gn gc)/\u.cell? ⟨b,5,none⟩=some (.float .f64 wt))/\u.cell? ⟨b1,0,none⟩=some (.string ⟨al.toArray⟩)/\u.cell? ⟨b1,1,none⟩=some (.string ⟨v'.toArray⟩)/\u.cell? ⟨b1,2,none⟩=some (.slice D' dn' dc')/\u.cell? ⟨b1,3,none⟩=some (.slice C' cn' cc')/\u.cell? ⟨b1,4,none⟩=some (.slice G' gn' gc')/\u.cell? ⟨b1,5,none⟩=some (.float .f64 av)):=fun u h=>by
  rw[<-hb,<-a8]
  exact⟨az aZ (bt aF h),az a0 h⟩
 have HD:=zh (fun u (h:Below W2.heap.size W2 u)=>And.intro (drowD_below hd (af.out u h)) (drowD_below hd' (af.out u h)))
 have HG:=zh (fun u (h:Below W2.heap.size W2 u)=>And.intro (Rg.ak hg (af.out u h)) (Rg.ak hg' (af.out u h)))
 have HC:=zh (fun u (h:Below W2.heap.size W2 u)=>gM C C' cn cc cn' cc' confl ag u hcn hcn' (au hc (af.out u h)) (au hc' (af.out u h)) s2 s4 f5 aX)
 have HW:=zh (fun u=>oD wt av f8 aY u)
 have aG:=zh hdn
 have am:=zh hdn'
 have aH:=zh hgn
 have an:=zh hgn'
 have ba:=zh f3
 have aI:=zh aW
 have bb:=zh s5
 have bc:=zh s6
 obtain⟨x4,a9⟩:=ex (decide (confl=ag))
 obtain⟨x6,a1⟩:=ex (cmpW wt av)
 have ax:Vm.sgn (Wm.placeN wt) (Wm.placeN av)=x6:=a1
 rw[a9] at HC hR
 rw[a1] at HW
 rw[ax] at hR
 have HR:=zh hR
 clear hd hdn hc hcn hg hgn hd' hdn' hc' hcn' hg' hgn' f2 f3 f4 f5 f6 f8 aW aX aY s2 s4 s5 s6 a9 a1 ax hR a2 aF
 obtain⟨⟨c0,c1,c2,c3,c4,c5⟩,k0,k1,k2,k3,k4,k5⟩:=ap.out _ (Below.refl _ _)
 by_cases e1:nm=al
 case neg =>
  have d1:(nm != al)=true:=by simp[e1]
  have a3:(nm==al)=false:=beq_eq_false_iff_ne.2 e1
  have HX:Hid (R=false):=by show _=_;rw[<-HR.out,decide_eq_false e1];rfl
  clear e1
  go_enter Tryz.func10,Tryz.ntmps10
  go_wp2_with fail
  go_ret
  exact⟨by rw[HX.out];rfl,af.out _ (Below.refl _ _)⟩
 have d1:(nm != al)=false:=by simp[e1]
 have a3:(nm==al)=true:=beq_iff_eq.2 e1
 by_cases e2:v=v'
 case neg =>
  have d2:(v != v')=true:=by simp[e2]
  have a4:(v==v')=false:=beq_eq_false_iff_ne.2 e2
  have HX:Hid (R=false):=by show _=_;rw[<-HR.out,decide_eq_false e2,Bool.false_and,Bool.and_false]
  clear e1 e2
  go_enter Tryz.func10,Tryz.ntmps10
  go_wp2_with fail
  go_ret
  exact⟨by rw[HX.out];rfl,af.out _ (Below.refl _ _)⟩
 have d2:(v != v')=false:=by simp[e2]
 have a4:(v==v')=true:=beq_iff_eq.2 e2
 by_cases e3:dn=dn'
 case neg =>
  have d3:((dn:Int) != (dn':Int))=true:=by simp;omega
  have HX:Hid (R=false):=by
   show _=_
   rw[<-HR.out,decide_eq_false (p:=deps=ab) (fun e=>e3 (by rw[<-aG.out,<-am.out,e])),Bool.false_and,Bool.and_false,Bool.and_false]
  clear e1 e2 e3
  go_enter Tryz.func10,Tryz.ntmps10
  go_wp2_with fail
  go_ret
  exact⟨by rw[HX.out];rfl,af.out _ (Below.refl _ _)⟩
 have d3:((dn:Int) != (dn':Int))=false:=by rw[e3];simp
 have aJ:=zh e3
 have ay:Hid ((decide (deps=ab)&&(x4&&(decide (prov=aa)&&(x6==0))))=R):=by show _=_;rw[<-HR.out,decide_eq_true e1,decide_eq_true e2,Bool.true_and,Bool.true_and]
 clear e1 e2 e3 HR
 go_enter Tryz.func10,Tryz.ntmps10
 go_wp2_with fail
 clear aZ a0 hb a8
 refine (HC.out _ (Below.refl _ _)).mono ?_
 rintro _ u1 ⟨rfl,hb⟩
 have aq:=zh hb
 clear hb
 clear c0 c1 c2 c3 c4 c5 k0 k1 k2 k3 k4 k5
 obtain⟨⟨c0,c1,c2,c3,c4,c5⟩,k0,k1,k2,k3,k4,k5⟩:=ap.out _ aq.out
 cases x4
 case false =>
  have HX:Hid (R=false):=by show _=_;rw[<-ay.out,Bool.false_and,Bool.and_false]
  go_wp2_with fail
  go_ret
  exact⟨by rw[HX.out];rfl,af.out _ aq.out⟩
 by_cases e5:gn=gn'
 case neg =>
  have d5:((gn:Int) != (gn':Int))=true:=by simp;omega
  have HX:Hid (R=false):=by
   show _=_
   rw[<-ay.out,decide_eq_false (p:=prov=aa) (fun e=>e5 (by rw[<-aH.out,<-an.out,e])),Bool.false_and,Bool.and_false,Bool.and_false]
  clear e5
  go_wp2_with fail
  go_ret
  exact⟨by rw[HX.out];rfl,af.out _ aq.out⟩
 have d5:((gn:Int) != (gn':Int))=false:=by rw[e5];simp
 have aK:=zh e5
 clear e5
 go_wp2_with fail
 refine (HW.out _).mono ?_
 rintro _ u2 ⟨rfl,rfl⟩
 by_cases e6:x6=0
 case neg =>
  have d6:(x6 != 0)=true:=by simpa using e6
  have HX:Hid (R=false):=by
   show _=_
   rw[<-ay.out,show (x6==0)=false from beq_eq_false_iff_ne.2 e6,Bool.and_false,Bool.and_false,Bool.and_false]
  go_wp2_with fail
  go_ret
  exact⟨by rw[HX.out];rfl,af.out _ aq.out⟩
 have d6:(x6 != 0)=false:=by simp[e6]
 have aL:Hid ((decide (deps=ab)&&decide (prov=aa))=R):=by show _=_;rw[<-ay.out,e6];simp
 clear e6 ay
 go_wp2_with fail
 clear d1 a3 d2 a4 d3 d5 d6
 clear c0 c1 c2 c3 c4 c5 k0 k1 k2 k3 k4 k5
 go_loopw [5] (fun i wr=>∃ k:Nat,k<=dn/\i=.int .i64 k/\Hid (deps.take k=ab.take k)/\Hid (Below W2.heap.size W2 wr)) (fun i _=>dn-(intOf i).toNat)
 case atStart=>exact⟨0,Nat.zero_le _,rfl,rfl,aq.out⟩
 case round =>
  clear aq
  obtain⟨k,hk,rfl,HT,aA⟩:=hrel
  obtain⟨⟨c0,c1,c2,c3,c4,c5⟩,k0,k1,k2,k3,k4,k5⟩:=ap.out _ aA.out
  by_cases aM:k<dn
  ·have h1:k<deps.length:=by rw[aG.out];exact aM
   have h2:k<ab.length:=by have:=aJ.out;have:=am.out;omega
   obtain⟨ad,A1,n1,m1,rfl,aD,aj,aB⟩:=bT (HD.out _ (Below.refl _ _)).1 k h1
   obtain⟨ae,A2,n2,m2,rfl,aE,ar,aC⟩:=bT (HD.out _ (Below.refl _ _)).2 k h2
   have aN:=fT ba.out k h1
   have aO:=fT aI.out k h2
   have aP:=bb.out _ (List.getElem_mem h1)
   have aQ:=bc.out _ (List.getElem_mem h2)
   have ac:deps[k]=ab[k]->deps.take (k+1)=ab.take (k+1):=fun h=>by rw[List.take_succ_eq_append_getElem h1,List.take_succ_eq_append_getElem h2,HT.out,h]
   have ah:deps[k]≠ab[k]->R=false:=fun h=>by
    rw[<-aL.out,decide_eq_false (p:=deps=ab) (fun e=>h (by subst e;rfl))];rfl
   obtain⟨l,hl⟩:=ex (deps[k])
   obtain⟨r,hr⟩:=ex (ab[k])
   rw[hl] at aD aj aN aP ac ah
   rw[hr] at aE ar aO aQ ac ah
   have aR:Hid (∀ u,Below W2.heap.size W2 u->u.cell? ⟨b,2,none⟩=some (.slice (some ad) dn dc)/\u.cell? ⟨b1,2,none⟩=some (.slice (some ae) dn' dc')/\u.cell? (ad.add k)=some (.slice A1 n1 m1)/\u.cell? (ae.add k)=some (.slice A2 n2 m2)):=fun u h=>⟨(ap.out u h).1.2.2.1,(ap.out u h).2.2.2.1,aB u h,aC u h⟩
   have a5:Hid (∀ u,Below W2.heap.size W2 u->_):=fun u h=>gM A1 A2 n1 m1 n2 m2 l r u aD aE (au aj h) (au ar h) (by rw[<-aD];exact aP) (by rw[<-aE];exact aQ) aN.2 aO.2
   obtain⟨x,hx⟩:=ex (decide (l=r))
   rw[hx] at a5
   have a6:=zh hx
   have ao:=zh ac
   have aS:=zh ah
   have bd:(k:Int)<(dn':Int):=by have:=aJ.out;omega
   have aT:Hid (Below W2.heap.size W2 wr.drew):=aA.out.drew
   have be:=aR.out _ aA.out
   clear hl hr aD aj aB aE ar aC aN aO aP aQ ac ah hx be
   go_wp2_with fail
   go_region_held3 (fun u=>u.cell? ⟨b,2,none⟩=some (.slice (some ad) dn dc)/\u.cell? ⟨b1,2,none⟩=some (.slice (some ae) dn' dc')/\u.cell? (ad.add k)=some (.slice A1 n1 m1)/\u.cell? (ae.add k)=some (.slice A2 n2 m2))
    (first
     | with_reducible exact aR.out _ aT.out
     | with_reducible exact aR.out _ aU.out)
    ((go_at_call 37;refine (a5.out _ aT.out).mono ?_;rintro _ z1 ⟨rfl,hb⟩;have aU:=zh (bt aT.out hb);clear hb))
   cases x
   ·have HX:=zh (aS.out (of_decide_eq_false a6.out))
    go_wp2_with fail
    go_ret
    exact⟨by rw[HX.out];rfl,af.out _ aU.out⟩
   ·have aV:=zh (ao.out (of_decide_eq_true a6.out))
    go_wp2_with fail
    go_roundw
    case rel=>exact⟨k+1,by omega,by go_num,aV,aU⟩
    case measure=>simp[intOf];omega
  ·obtain rfl:k=dn:=by omega
   have a7:Hid (decide (prov=aa)=R):=by
    show _=_
    have h:=HT.out
    rw[List.take_of_length_le (by rw[aG.out];exact Nat.le_refl _),List.take_of_length_le (by rw[am.out,aJ.out];exact Nat.le_refl _)] at h
    rw[<-aL.out,decide_eq_true h,Bool.true_and]
   clear aL HT
   go_wp2_with fail
   clear c0 c1 c2 c3 c4 c5 k0 k1 k2 k3 k4 k5
   go_loopw [6] (fun i ws=>∃ j:Nat,j<=gn/\i=.int .i64 j/\Hid (prov.take j=aa.take j)/\Hid (Below W2.heap.size W2 ws)) (fun i _=>gn-(intOf i).toNat)
   case atStart=>exact⟨0,Nat.zero_le _,rfl,rfl,aA.out⟩
   case round =>
    clear aA
    obtain⟨j,hj,rfl,HT,aw⟩:=hrel
    obtain⟨⟨c0,c1,c2,c3,c4,c5⟩,k0,k1,k2,k3,k4,k5⟩:=ap.out _ aw.out
    by_cases aM:j<gn
    ·have h1:j<prov.length:=by rw[aH.out];exact aM
     have h2:j<aa.length:=by have:=aK.out;have:=an.out;omega
     obtain⟨ad,rfl,aB⟩:=b8 (HG.out _ (Below.refl _ _)).1 j h1
     obtain⟨ae,rfl,aC⟩:=b8 (HG.out _ (Below.refl _ _)).2 j h2
     have ac:prov[j]=aa[j]->prov.take (j+1)=aa.take (j+1):=fun h=>by rw[List.take_succ_eq_append_getElem h1,List.take_succ_eq_append_getElem h2,HT.out,h]
     have ah:prov[j]≠aa[j]->R=false:=fun h=>by
      rw[<-a7.out,decide_eq_false (p:=prov=aa) (fun e=>h (by subst e;rfl))]
     obtain⟨y0,y1⟩:=aB _ aw.out
     obtain⟨z0,z1⟩:=aC _ aw.out
     generalize prov[j]=a at y0 y1 ac ah
     generalize aa[j]=a' at z0 z1 ac ah
     have aj:=uk giveRT a a'
     have ar:∀ (x y:Operand) (W:World),(eqGuard .neq 68 x y (.agg #[.string ⟨a.name.toArray⟩,.string ⟨a.ver.toArray⟩]) (.agg #[.string ⟨a'.name.toArray⟩,.string ⟨a'.ver.toArray⟩])).run Tryz.prog W=.ok () W:=fun x y W=>um giveRT .neq x y _ _ W
     have bd:(j:Int)<(gn':Int):=by have:=aK.out;omega
     have ao:=zh ac
     have aS:=zh ah
     clear aB aC h1 h2 ac ah
     by_cases hq:a=a'
     ·rw[decide_eq_true hq] at aj
      have aV:=zh (ao.out hq)
      clear hq HT
      go_wp2_with fail
      go_quiet (fail)
      clear aj ar y0 y1 z0 z1
      go_wp2_with fail
      go_roundw
      case rel=>exact⟨j+1,by omega,by go_num,aV,below_drewN aw.out _⟩
      case measure=>simp[intOf];omega
     ·rw[decide_eq_false hq] at aj
      have HX:=zh (aS.out hq)
      clear hq HT
      go_wp2_with fail
      go_quiet (fail)
      clear aj ar y0 y1 z0 z1
      go_wp2_with fail
      go_ret
      exact⟨by rw[HX.out];rfl,af.out _ (below_drewN aw.out _)⟩
    ·obtain rfl:j=gn:=by omega
     have HX:Hid (R=true):=by
      show _=_
      have h:=HT.out
      rw[List.take_of_length_le (by rw[aH.out];exact Nat.le_refl _),List.take_of_length_le (by rw[an.out,aK.out];exact Nat.le_refl _)] at h
      rw[<-a7.out,decide_eq_true h]
     go_wp2_with fail
     go_ret
     exact⟨by rw[HX.out];rfl,af.out _ aw.out⟩
end
section
open Go.RowKit Rs At Pg
namespace Pg
theorem dF {sep:List UInt8}(hs:sep≠[]):∀ (l:List (List UInt8)),l≠[]->(∀ p∈l,(∀ r,Lib.index (p++sep++r) sep=p.length)/\Lib.index p sep = -1)->Lib.split (Lib.join l sep) sep=l
 | [],h,_=>absurd rfl h
 | [p],_,hp=>by rw[Lib.join_one,nV ((hp p (by simp)).2)]
 | p :: q :: r,_,hp=>by
  have e:Lib.join (p :: q :: r) sep=p++sep++Lib.join (q :: r) sep:=by
   rw[Lib.join_cons,Lib.join_cons]
   simp[Lib.joinTail]
  have ih:=dF hs (q :: r) (by simp) (fun y hy=>hp y (by simp[hy]))
  have e2:(p++sep++Lib.join (q :: r) sep).drop (p.length+sep.length)=Lib.join (q :: r) sep:=by
   rw[<-List.length_append,List.drop_left]
  rw[e,kN hs ((hp p (by simp)).1 _),e2,ih,List.append_assoc,List.take_left]
theorem fY {s m:List UInt8}{j:Nat}(h:Lib.occAt s m j=true)(i:Nat)(hi:i<m.length):s[j+i]?=m[i]?:=by
 unfold Lib.occAt at h
 obtain⟨t,ht⟩:=List.isPrefixOf_iff_prefix.1 h
 have h2:(m++t)[i]?=(s.drop j)[i]?:=by rw[ht]
 rw[List.getElem?_drop,List.getElem?_append_left hi] at h2
 exact h2.symm
theorem uB (p sep r:List UInt8):Lib.occAt (p++sep++r) sep p.length=true:=by
 unfold Lib.occAt
 rw[List.append_assoc,List.drop_left]
 exact List.isPrefixOf_iff_prefix.2 ⟨r,rfl⟩
theorem fZ {p:List UInt8}(h:(59:UInt8) ∉ p):(∀ r,Lib.index (p++semi++r) semi=p.length)/\Lib.index p semi = -1:=by
 refine⟨fun r=>Lib.index_first (by rw[List.length_append,List.length_append];omega) (uB _ _ _) fun j hj=>?_,Lib.index_none fun j _=>?_⟩
 ·cases hh:Lib.occAt (p++semi++r) semi j with
  | false=>rfl
  | true =>
   have h2:=fY hh 0 (by decide)
   rw[Nat.add_zero,List.append_assoc,List.getElem?_append_left hj] at h2
   exact absurd (List.mem_of_getElem? (h2.trans rfl)) h
 ·cases hh:Lib.occAt p semi j with
  | false=>rfl
  | true =>
   have h2:=fY hh 0 (by decide)
   rw[Nat.add_zero] at h2
   exact absurd (List.mem_of_getElem? (h2.trans rfl)) h
def NoSo (l:List UInt8):Prop:=∀ j:Nat,l[j]?=some 32->l[j+1]?≠some 111
theorem jb {l:List UInt8}(h:(32:UInt8) ∉ l):NoSo l:=fun _ hj=>absurd (List.mem_of_getElem? hj) h
theorem o6 {l:List UInt8}(h:(111:UInt8) ∉ l):NoSo l:=fun _ _ hj=>h (List.mem_of_getElem? hj)
theorem dV {a b:List UInt8}(ha:NoSo a)(hb:NoSo b)(hx:a.getLast?≠some 32\/b[0]?≠some 111):NoSo (a++b):=fun j hj hk=>by
 by_cases h1:j+1<a.length
 ·rw[List.getElem?_append_left (by omega)] at hj
  rw[List.getElem?_append_left h1] at hk
  exact ha j hj hk
 ·by_cases h2:j+1=a.length
  ·rw[List.getElem?_append_left (by omega)] at hj
   rw[List.getElem?_append_right (by omega),h2,Nat.sub_self] at hk
   rcases hx with hx | hx
   ·refine hx ?_
    rw[List.getLast?_eq_getElem?,<-h2,Nat.add_sub_cancel];exact hj
   ·exact hx hk
  ·rw[List.getElem?_append_right (by omega)] at hj hk
   rw[show j+1-a.length=j-a.length+1 from by omega] at hk
   exact hb _ hj hk
theorem lE {x:UInt8}(hx:x≠111):∀ (l:List (List UInt8)),(∀ p∈l,NoSo p/\p[0]?≠some 111)->NoSo (Lib.join l [32,x,32])/\(Lib.join l [32,x,32])[0]?≠some 111
 | [],_=>by rw[Lib.join_nil];exact⟨jb (by simp),by simp⟩
 | [p],h=>by rw[Lib.join_one];exact h p (by simp)
 | p :: q :: r,h=>by
  have e:Lib.join (p :: q :: r) [32,x,32]=p++([32,x,32]++Lib.join (q :: r) [32,x,32]):=by
   rw[Lib.join_cons,Lib.join_cons]
   simp[Lib.joinTail]
  have ih:=lE hx (q :: r) (fun y hy=>h y (by simp[hy]))
  have hp:=h p (by simp)
  have hm:(111:UInt8) ∉ [32,x,32]:=by
   intro hm
   simp at hm
   exact hx hm.symm
  rw[e]
  refine⟨dV hp.1 (dV (o6 hm) ih.1 (Or.inr ih.2)) (Or.inr ?_),?_⟩
  ·show some (32:UInt8)≠some 111
   decide
  ·cases p with
   | nil=>show some (32:UInt8)≠some 111;decide
   | cons c l=>exact hp.2
theorem aaN {p:List UInt8}(h:NoSo p):(∀ r,Lib.index (p++orT++r) orT=p.length)/\Lib.index p orT = -1:=by
 refine⟨fun r=>Lib.index_first (by rw[List.length_append,List.length_append];omega) (uB _ _ _) fun j hj=>?_,Lib.index_none fun j _=>?_⟩
 ·cases hh:Lib.occAt (p++orT++r) orT j with
  | false=>rfl
  | true =>
   have h0:=fY hh 0 (by decide)
   have h1:=fY hh 1 (by decide)
   rw[Nat.add_zero,List.append_assoc,List.getElem?_append_left hj] at h0
   rw[List.append_assoc] at h1
   by_cases h3:j+1<p.length
   ·rw[List.getElem?_append_left h3] at h1
    exact absurd (h1.trans rfl) (h j (h0.trans rfl))
   ·have h4:j+1=p.length:=by omega
    rw[List.getElem?_append_right (by omega),h4,Nat.sub_self] at h1
    have h5:some (32:UInt8)=some 111:=h1
    exact absurd h5 (by decide)
 ·cases hh:Lib.occAt p orT j with
  | false=>rfl
  | true =>
   have h0:=fY hh 0 (by decide)
   have h1:=fY hh 1 (by decide)
   rw[Nat.add_zero] at h0
   exact absurd (h1.trans rfl) (h j (h0.trans rfl))
theorem uC {x:UInt8}{v:List UInt8}(h:(Vm.fst x v).isEmpty=false):∃ d l k,v=d :: l/\Vm.fst x v=d :: k:=by
 cases v with
 | nil=>cases h
 | cons d l =>
  unfold Vm.fst at h ⊢
  rw[List.takeWhile_cons] at h ⊢
  cases hd:d != x with
  | false=>rw[hd] at h;cases h
  | true=>exact⟨d,l,_,rfl,rfl⟩
theorem acR {c:UInt8}(h:Vm.dig c=true):some c≠some (111:UInt8):=fun e=>by cases e;exact absurd h (by decide)
theorem acF {v:List UInt8}(h:Vm.check v=0):v[0]?≠some 111:=by
 obtain⟨_,h1,h2,_⟩:=Vm.bU h
 by_cases aa:Vm.has 58 v=true
 ·have e:Vm.ep v=Vm.fst 58 v:=by unfold Vm.ep;rw[if_pos aa]
  rw[e] at h1
  unfold Vm.epOk at h1
  simp only[Bool.and_eq_true] at h1
  obtain⟨d,l,k,rfl,ek⟩:=uC (by simpa using h1.1)
  rw[ek] at h1
  exact acR (List.all_eq_true.1 h1.2.2 d (by simp))
 ·have e:Vm.pt v=Vm.fst 45 v:=by unfold Vm.pt Vm.rest;rw[if_neg aa]
  rw[e] at h2
  unfold Vm.partOk at h2
  simp only[Bool.and_eq_true] at h2
  obtain⟨d,l,k,rfl,ek⟩:=uC (by simpa using h2.1)
  rw[ek] at h2
  exact acR (h2.2.1:Vm.dig d=true)
theorem qY {c:UInt8}(h:verC c=true):c≠32/\c≠59:=by
 refine⟨fun e=>?_,fun e=>?_⟩ <;> (subst e;exact absurd h (by decide))
theorem uD {v:List UInt8}(h:Vm.check v=0):(32:UInt8) ∉ v/\(59:UInt8) ∉ v :=
 ⟨fun hm=>(qY (kO h _ hm)).1 rfl,fun hm=>(qY (kO h _ hm)).2 rfl⟩
theorem lF {s:List UInt8}(h:nameB s=true):(32:UInt8) ∉ s/\(59:UInt8) ∉ s/\(61:UInt8) ∉ s:=by
 unfold nameB at h
 simp only[Bool.and_eq_true] at h
 obtain⟨_,_,_,h4⟩:=h
 have hc:=List.all_eq_true.1 h4
 exact⟨fun hm=>absurd (hc _ hm) (by decide),fun hm=>absurd (hc _ hm) (by decide),fun hm=>absurd (hc _ hm) (by decide)⟩
theorem yF:∀ i,i<6->(32:UInt8) ∉ sgnT i/\(59:UInt8) ∉ sgnT i/\(sgnT i)[0]?≠some 111/\0<(sgnT i).length:=by decide +kernel
theorem aaO {c:Cond}(h:At.CondOk c):(NoSo (condT c)/\(condT c)[0]?≠some 111)/\(59:UInt8) ∉ condT c:=by
 obtain⟨i,hi,hs,ho⟩:=h
 obtain⟨s,v⟩:=c
 obtain rfl:s=sgnT i:=hs
 obtain⟨f1,f2,f3,f4⟩:=yF i hi
 obtain⟨v1,v2⟩:=uD ho.1
 have hv:=acF ho.1
 have h1:NoSo (32 :: v):=dV (a:=[32]) (o6 (by decide)) (jb v1) (Or.inr hv)
 unfold condT
 refine⟨⟨dV (jb f1) h1 (Or.inr ?_),?_⟩,fun hm=>?_⟩
 ·show some (32:UInt8)≠some 111
  decide
 ·rw[List.getElem?_append_left f4];exact f3
 ·rcases List.mem_append.1 hm with h | h
  ·exact f2 h
  ·rcases List.mem_cons.1 h with h | h
   ·exact absurd h (by decide)
   ·exact v2 h
theorem acS {l:List Cond}(h:∀ c∈l,At.CondOk c):(NoSo (altT l)/\(altT l)[0]?≠some 111)/\(59:UInt8) ∉ altT l:=by
 unfold altT
 refine⟨lE (by decide) _ fun p hp=>?_,fun hm=>?_⟩
 ·obtain⟨c,hc,rfl⟩:=List.mem_map.1 hp
  exact (aaO (h c hc)).1
 ·rcases jz hm with⟨p,hp,hx⟩ | hx
  ·obtain⟨c,hc,rfl⟩:=List.mem_map.1 hp
   exact (aaO (h c hc)).2 hx
  ·exact absurd hx (by decide)
theorem aeH {t:List (List Cond)}(h:∀ l∈t,∀ c∈l,At.CondOk c):NoSo (termT t)/\(59:UInt8) ∉ termT t:=by
 unfold termT
 split
 ·exact⟨jb (by decide),by decide⟩
 refine⟨(lE (by decide) _ fun p hp=>?_).1,fun hm=>?_⟩
 ·obtain⟨c,hc,rfl⟩:=List.mem_map.1 hp
  exact (acS (h c hc)).1
 ·rcases jz hm with⟨p,hp,hx⟩ | hx
  ·obtain⟨c,hc,rfl⟩:=List.mem_map.1 hp
   exact (acS (h c hc)).2 hx
  ·exact absurd hx (by decide)
theorem lG {a:Atm}(h:checkA a=0):NoSo (textA a)/\(59:UInt8) ∉ textA a:=by
 obtain⟨h1,h2,_⟩:=dL h
 obtain⟨n1,n2,_⟩:=lF h1
 unfold textA
 split
 ·exact⟨jb n1,n2⟩
 obtain⟨_,_,h3⟩:=c6 h2
 obtain⟨t1,t2⟩:=aeH (t:=termOf a.rng) (fun l hl=>by
  obtain⟨s,hs,rfl⟩:=List.mem_map.1 hl
  exact jB (h3 s hs))
 have q1:NoSo (32 :: 40 :: (termT (termOf a.rng)++[41])):=by
  refine dV (a:=[32,40]) (o6 (by decide)) (dV t1 (o6 (by decide)) (Or.inr ?_)) (Or.inl (by decide))
  show some (41:UInt8)≠some 111
  decide
 refine⟨dV (jb n1) q1 (Or.inr ?_),fun hm=>?_⟩
 ·show some (32:UInt8)≠some 111
  decide
 ·rcases List.mem_append.1 hm with hm | hm
  ·exact n2 hm
  rcases List.mem_cons.1 hm with hm | hm
  ·exact absurd hm (by decide)
  rcases List.mem_cons.1 hm with hm | hm
  ·exact absurd hm (by decide)
  rcases List.mem_append.1 hm with hm | hm
  ·exact t2 hm
  ·exact absurd hm (by decide)
theorem xt {β:Type}{rd:List UInt8->Except Int β}{g:β->List UInt8}:∀ (l acc:List β),(∀ b∈l,rd (g b)=.ok b)->rdL rd acc (l.map g)=.ok (acc++l)
 | [],acc,_=>by rw[List.append_nil];rfl
 | b :: l,acc,h=>by
  rw[List.map_cons,oR (h b (by simp)),xt l (acc++[b]) (fun x hx=>h x (by simp[hx])),List.append_assoc]
  rfl
theorem e8 {β:Type}{rd:List UInt8->Except Int β}{g:β->List UInt8}{sep:List UInt8}(hs:sep≠[]){most:Nat}{l:List β}(h0:l≠[])(hl:l.length<=most)(h1:∀ b∈l,rd (g b)=.ok b)(h2:∀ b∈l,(∀ r,Lib.index (g b++sep++r) sep=(g b).length)/\Lib.index (g b) sep = -1):partsR rd sep most (Lib.join (l.map g) sep)=.ok l:=by
 unfold partsR
 rw[dF hs (l.map g) (by simpa using h0) (fun p hp=>by
  obtain⟨b,hb,rfl⟩:=List.mem_map.1 hp
  exact h2 b hb),List.length_map,if_pos hl,xt l [] h1]
 rfl
theorem o7 {a:Atm}(h:checkA a=0):atomR (textA a)=.ok a:=by
 unfold atomR
 rw[At.eE h];rfl
theorem aaP {d:List Atm}(h:atomsE d=0)(h1:1<=d.length)(h8:d.length<=8):depR (depT d)=.ok d :=
 e8 (by decide) (fun e=>by rw[e] at h1;exact absurd h1 (by decide)) h8 (fun _ hb=>o7 (a9 h _ hb)) (fun _ hb=>aaN (lG (a9 h _ hb)).1)
theorem qZ {d:List Atm}(h:atomsE d=0):(59:UInt8) ∉ depT d:=fun hm=>by
 rcases jz hm with⟨p,hp,hx⟩ | hx
 ·obtain⟨a,ha,rfl⟩:=List.mem_map.1 hp
  exact (lG (a9 h a ha)).2 hx
 ·exact absurd hx (by decide)
theorem aaQ {t:List (List Atm)}(h:depsE t=0)(h0:t≠[])(hl:t.length<=16):partsR depR semi 16 (Lib.join (t.map depT) semi)=.ok t :=
 e8 (by decide) h0 hl (fun _ hb=>aaP (bC h _ hb).2.2 (bC h _ hb).1 (bC h _ hb).2.1) (fun _ hb=>fZ (qZ (bC h _ hb).2.2))
theorem yG {l:List Atm}(h:atomsE l=0)(h0:l≠[])(hl:l.length<=16):partsR atomR semi 16 (Lib.join (l.map textA) semi)=.ok l :=
 e8 (by decide) h0 hl (fun _ hb=>o7 (a9 h _ hb)) (fun _ hb=>fZ (lG (a9 h _ hb)).2)
theorem aaR {p r:List UInt8}(hp:(61:UInt8) ∉ p):Lib.cut (p++[32,61,32]++r) isT=(p,r,true):=by
 have hi:=mq (x:=61) (by decide) p r hp
 unfold Lib.cut isT
 rw[hi,if_pos (by omega),Int.toNat_natCast]
 have e:(p++[32,61,32]++r).drop (p.length+([32,61,32]:List UInt8).length)=r:=by rw[<-List.length_append,List.drop_left]
 rw[e,List.append_assoc,List.take_left]
theorem acG {p:List UInt8}(hp:(61:UInt8) ∉ p):Lib.cut p isT=(p,[],false):=by
 have hi:=nW (x:=61) p hp
 unfold Lib.cut isT
 rw[hi,if_neg (by decide)]
theorem iE {v:List UInt8}(h:verE v=0):Vm.check v=0/\canonOf v=v:=by
 obtain⟨h1,h2⟩:=dD h
 exact⟨h1,by rw[canonOf,if_pos h1,h2]⟩
theorem acH {g:Gv}(h:giveE g=0):gvR (gvT g)=.ok g:=by
 obtain⟨h1,h2⟩:=dN h
 obtain⟨n1,n2,n3⟩:=lF h1
 obtain⟨nm,v⟩:=g
 dsimp only at h1 h2 n3
 unfold gvR gvT
 by_cases hv:v=[]
 ·subst hv
  rw[if_pos rfl,acG n3,if_pos h1,if_neg (by simp)]
 ·rw[if_neg hv,aaR n3,if_pos h1,if_pos rfl]
  obtain⟨c1,c2⟩:=iE (h2.resolve_left hv)
  rw[if_pos c1]
  dsimp only
  rw[c2]
theorem re {g:Gv}(h:giveE g=0):(59:UInt8) ∉ gvT g:=fun hm=>by
 obtain⟨h1,h2⟩:=dN h
 obtain⟨n1,n2,n3⟩:=lF h1
 unfold gvT at hm
 split at hm
 ·exact n2 hm
 ·rename_i hv
  rcases List.mem_append.1 hm with hm | hm
  ·rcases List.mem_append.1 hm with hm | hm
   ·exact n2 hm
   ·exact absurd hm (by decide)
  ·exact (uD (iE (h2.resolve_left hv)).1).2 hm
theorem aaS {l:List Gv}(h:givesE l=0)(h0:l≠[])(hl:l.length<=16):partsR gvR semi 16 (Lib.join (l.map gvT) semi)=.ok l :=
 e8 (by decide) h0 hl (fun _ hb=>acH (bI h _ hb)) (fun _ hb=>fZ (re (bI h _ hb)))
theorem uE {b:Nat}(hb:b<Wm.W)(h:chkW b=0):wtR (Wm.textW b)=.ok b:=by
 have hn:Wm.nan b=false:=by
  unfold chkW at h
  cases hh:Wm.nan b
  ·rfl
  ·rw[hh,if_pos rfl] at h;cases h
 obtain⟨h1,h2⟩:=_root_.Go.Proofs.YtpfkphmldalmmaaGreatDoor.eE b hb hn
 unfold wtR
 rw[if_pos h1,h2,if_pos h]
def optF (c:Prop) [Decidable c] (k v:List UInt8):List Sz.Fld:=if c then [] else [⟨k,v,0⟩]
theorem lH (p:Pk):toPk p=⟨kPkg,p.name,0⟩ :: ⟨kVer,p.ver,0⟩ :: (optF (p.deps=[]) kDep (depsT p)++(optF (p.confl=[]) kCon (conflT p)++(optF (p.prov=[]) kPro (provT p)++(optF (Wm.textW p.wt=[48]) kWei (Wm.textW p.wt)++[])))):=by
 unfold toPk to3 to2 to1 to0 optF
 split <;> split <;> split <;> split <;> rfl
theorem jZ {q q':Pk}{c:Prop} [Decidable c] {k v:List UInt8}(h1:c->q=q')(h2:¬ c->takeR q k v=.ok q')(i:Nat)(l:List Sz.Fld):∃ j,readR i q (optF c k v++l)=readR j q' l:=by
 unfold optF
 by_cases hc:c
 ·rw[if_pos hc];exact⟨i,by rw[h1 hc];rfl⟩
 ·rw[if_neg hc];exact⟨i+1,jP (f:=⟨k,v,0⟩) (h2 hc)⟩
theorem mb {c:Prop} [Decidable c] {k v:List UInt8}{n:Nat}{l:List Sz.Fld}{b:Int}(hk:Sz.placeOf keys6 k=some n)(hb:b<n)(h:∀ i last,last<=(n:Int)->(Sz.ordP keys6 i last l).2=0)(i:Nat)(last:Int)(hl:last<=b):(Sz.ordP keys6 i last (optF c k v++l)).2=0:=by
 unfold optF
 by_cases hc:c
 ·rw[if_pos hc];exact h i last (by omega)
 ·rw[if_neg hc]
  show (Sz.ordP keys6 i last (⟨k,v,0⟩ :: l)).2=0
  rw[Sz.ordP,hk]
  show (if last<(n:Int) then _ else _:Int × Int).2=0
  rw[if_pos (by omega)]
  exact h _ _ (Int.le_refl _)
theorem aeI (p:Pk):(Sz.ordP keys6 0 (-1) (toPk p)).2=0:=by
 rw[lH]
 have h5:∀ i last,last<=((4:Nat):Int)->(Sz.ordP keys6 i last (optF (Wm.textW p.wt=[48]) kWei (Wm.textW p.wt)++[])).2=0:=mb (n:=5) (by decide) (by decide) (fun _ _ _=>rfl)
 have h4:∀ i last,last<=((3:Nat):Int)->(Sz.ordP keys6 i last (optF (p.prov=[]) kPro (provT p)++_)).2=0:=mb (n:=4) (by decide) (by decide) h5
 have h3:∀ i last,last<=((2:Nat):Int)->(Sz.ordP keys6 i last (optF (p.confl=[]) kCon (conflT p)++_)).2=0:=mb (n:=3) (by decide) (by decide) h4
 have h2:∀ i last,last<=((1:Nat):Int)->(Sz.ordP keys6 i last (optF (p.deps=[]) kDep (depsT p)++_)).2=0:=mb (n:=2) (by decide) (by decide) h3
 exact h2 2 1 (Int.le_refl _)
theorem aeb {b:Nat}(hb:b<Wm.W)(h:chkW b=0)(e:Wm.textW b=[48]):(0:Nat)=b:=by
 have h1:=uE hb h
 rw[e] at h1
 have h2:errW [48]=0/\chkW (outW [48])=0/\outW [48]=0:=by decide +kernel
 unfold wtR at h1
 rw[if_pos h2.1,if_pos h2.2.1,h2.2.2] at h1
 cases h1;rfl
theorem aec {p:Pk}(h:checkP p=0)(hw:p.wt<Wm.W):readP (toPk p)=.ok p:=by
 obtain⟨h1,h2,h3,h4,h5,h6,h7,h8,h9⟩:=dC h
 obtain⟨v1,v2⟩:=iE h2
 have e:=lH p
 unfold readP
 rw[if_pos (aeI p),Sz.tV,Sz.tV]
 have g1:(Sz.hasK (toPk p) kPkg&&Sz.hasK (toPk p) kVer)=true:=by rw[e];rfl
 rw[if_pos g1,e]
 obtain⟨nm,v,D,C,G,b⟩:=p
 dsimp only at h1 h2 h3 h4 h5 h6 h7 h8 h9 v1 v2 hw ⊢
 clear e g1
 have t1:takeR zeroP kPkg nm=.ok ⟨nm,[],[],[],[],0⟩:=by unfold takeR;rw[if_pos rfl,if_pos h1];rfl
 have t2:takeR ⟨nm,[],[],[],[],0⟩ kVer v=.ok ⟨nm,v,[],[],[],0⟩:=by unfold takeR;rw[if_neg (by decide),if_pos rfl,if_pos v1,v2]
 have t3:¬ D=[]->takeR ⟨nm,v,[],[],[],0⟩ kDep (depsT ⟨nm,v,D,C,G,b⟩)=.ok ⟨nm,v,D,[],[],0⟩:=fun h0=>by
  unfold takeR depsT
  rw[if_neg (by decide),if_neg (by decide),if_pos rfl,aaQ h4 h0 h3]
 have t4:¬ C=[]->takeR ⟨nm,v,D,[],[],0⟩ kCon (conflT ⟨nm,v,D,C,G,b⟩)=.ok ⟨nm,v,D,C,[],0⟩:=fun h0=>by
  unfold takeR conflT
  rw[if_neg (by decide),if_neg (by decide),if_neg (by decide),if_pos rfl,yG h6 h0 h5]
 have t5:¬ G=[]->takeR ⟨nm,v,D,C,[],0⟩ kPro (provT ⟨nm,v,D,C,G,b⟩)=.ok ⟨nm,v,D,C,G,0⟩:=fun h0=>by
  unfold takeR provT
  rw[if_neg (by decide),if_neg (by decide),if_neg (by decide),if_neg (by decide),if_pos rfl,aaS h8 h0 h7]
 have t6:takeR ⟨nm,v,D,C,G,0⟩ kWei (Wm.textW b)=.ok ⟨nm,v,D,C,G,b⟩:=by
  unfold takeR
  rw[if_neg (by decide),if_neg (by decide),if_neg (by decide),if_neg (by decide),if_neg (by decide),if_pos rfl,uE hw h9]
 rw[jP (f:=⟨kPkg,nm,0⟩) t1,jP (f:=⟨kVer,v,0⟩) t2]
 obtain⟨i3,e3⟩:=jZ (q:=⟨nm,v,[],[],[],0⟩) (q':=⟨nm,v,D,[],[],0⟩) (c:=D=[]) (fun e=>by rw[e]) t3 (0+1+1) (optF (C=[]) kCon (conflT ⟨nm,v,D,C,G,b⟩)++(optF (G=[]) kPro (provT ⟨nm,v,D,C,G,b⟩)++(optF (Wm.textW b=[48]) kWei (Wm.textW b)++[])))
 obtain⟨i4,e4⟩:=jZ (q:=⟨nm,v,D,[],[],0⟩) (q':=⟨nm,v,D,C,[],0⟩) (c:=C=[]) (fun e=>by rw[e]) t4 i3 (optF (G=[]) kPro (provT ⟨nm,v,D,C,G,b⟩)++(optF (Wm.textW b=[48]) kWei (Wm.textW b)++[]))
 obtain⟨i5,e5⟩:=jZ (q:=⟨nm,v,D,C,[],0⟩) (q':=⟨nm,v,D,C,G,0⟩) (c:=G=[]) (fun e=>by rw[e]) t5 i4 (optF (Wm.textW b=[48]) kWei (Wm.textW b)++[])
 obtain⟨i6,e6⟩:=jZ (q:=⟨nm,v,D,C,G,0⟩) (q':=⟨nm,v,D,C,G,b⟩) (c:=Wm.textW b=[48]) (fun e=>by rw[aeb hw h9 e]) (fun _=>t6) i5 []
 exact e3.trans (e4.trans (e5.trans (e6.trans rfl)))
theorem aed {p:Pk}(h:checkP p=0)(hw:p.wt<Wm.W):fromP (toPk p)=(0,0,p):=by
 unfold fromP
 rw[aec h hw]
theorem acI (p:Pk):samP p p=true:=by
 unfold samP
 simp only[decide_true,Bool.true_and]
 have:Vm.sgn (Wm.placeN p.wt) (Wm.placeN p.wt)=0:=by unfold Vm.sgn;simp
 rw[this];rfl
end Pg
end
section
open Go.RowKit Rs At Pg
attribute [local go_sem ↓] Go.wp_at_zero Go.wp_at_succ
attribute [local go_sem] Pg.bd
namespace Pg
theorem ns {p:Pk}(h:PSmall p):p.deps.length<=100000/\p.confl.length<=100000/\p.prov.length<=100000/\∀ d∈p.deps,d.length<=100000 :=
 ⟨Nat.le_trans h.1 (by decide),Nat.le_trans h.2.2.1 (by decide),Nat.le_trans h.2.2.2.2 (by decide),fun d hm=>Nat.le_trans (h.2.1 d hm).1 (by decide)⟩
theorem aeU {u:World}(p:Pk)(D C G:Option Addr)(dc cc gc:Nat)(hd:Pg.DRow u D p.deps)(hc:ARow u C p.confl)(hg:GRow u G p.prov)(hf:PSmall p){nm vr:List UInt8}{dn cn gn wt:Nat}(e0:p.name=nm)(e1:p.ver=vr)(e2:p.deps.length=dn)(e3:p.confl.length=cn)(e4:p.prov.length=gn)(e5:p.wt=wt) :
  Calls Tryz.prog 16 #[.agg #[.string ⟨nm.toArray⟩,.string ⟨vr.toArray⟩,.slice D dn dc,.slice C cn cc,.slice G gn gc,.float .f64 wt]] u fun e w'=>∃ D' dc' C' cc' G' gc',e=.returned (.agg #[.string ⟨nm.toArray⟩,.string ⟨vr.toArray⟩,.slice D' dn dc',.slice C' cn cc',.slice G' gn gc',.float .f64 wt])/\Pg.DRow w' D' p.deps/\ARow w' C' p.confl/\GRow w' G' p.prov/\Below u.heap.size u w':=by
 subst e0 e1 e5
 exact aea p D C G dn dc cn cc gn gc u hd e2 hc e3 hg e4 hf
theorem acJ {u:World}(p:Pk)(D C G D' C' G':Option Addr)(dc cc gc dc' cc' gc':Nat)(hd:Pg.DRow u D p.deps)(hc:ARow u C p.confl)(hg:GRow u G p.prov)(hd':Pg.DRow u D' p.deps)(hc':ARow u C' p.confl)(hg':GRow u G' p.prov)(hf:PFew p)(hs:PSmall p){nm vr:List UInt8}{dn cn gn wt:Nat}(e0:p.name=nm)(e1:p.ver=vr)(e2:p.deps.length=dn)(e3:p.confl.length=cn)(e4:p.prov.length=gn)(e5:p.wt=wt) :
  Calls Tryz.prog 10 #[.agg #[.string ⟨nm.toArray⟩,.string ⟨vr.toArray⟩,.slice D dn dc,.slice C cn cc,.slice G gn gc,.float .f64 wt],.agg #[.string ⟨nm.toArray⟩,.string ⟨vr.toArray⟩,.slice D' dn dc',.slice C' cn cc',.slice G' gn gc',.float .f64 wt]] u fun e w'=>e=.returned (.bool true)/\Below u.heap.size u w':=by
 subst e0 e1 e5
 obtain⟨m1,m2,m3,m4⟩:=ns hs
 have h:=ja p p D C G D' C' G' dn dc cn cc gn gc dn dc' cn cc' gn gc' u hd e2 hc e3 hg e4 hf hd' e2 hc' e3 hg' e4 hf ⟨by omega,by omega,by omega,by omega,m4,m4⟩
 rw[acI] at h
 exact h
end Pg
end
end Go.Proofs.YtpfkphmldalmmaaGreatDoor
