/- Part 28 of what the laws lean on. -/
import Derived.Test.YtpfkphmldalmmaaGreatDoorL27
set_option maxRecDepth 100000
set_option maxHeartbeats 6400000
namespace Go.Proofs.YtpfkphmldalmmaaGreatDoor
section
open Go.RowKit Rs At Pg
attribute [local go_sem ↓] Go.wp_at_zero Go.wp_at_succ
def Pg.fewG (g:Gv):Bool:=decide (g.name.length<=100)&&decide (g.ver.length<=100)
def Pg.fewP (p:Pk):Bool:=decide (p.name.length<=100)&&(decide (p.ver.length<=100)&&(decide (p.deps.length<=30)&&(decide (p.prov.length<=30)&&(fewAs p.confl&&(p.deps.all fewAs&&p.prov.all fewG)))))
theorem ack (p:Pk)(D C G:Option Addr)(dn dc cn cc gn gc:Nat)(w:World)(hw:MaxOk w)(hd:Pg.DRow w D p.deps)(hdn:p.deps.length=dn)(hc:ARow w C p.confl)(hcn:p.confl.length=cn)(hg:GRow w G p.prov)(hgn:p.prov.length=gn)(hf:PWide p) :
  Calls Tryz.prog 5 #[.agg #[.string ⟨p.name.toArray⟩,.string ⟨p.ver.toArray⟩,.slice D dn dc,.slice C cn cc,.slice G gn gc,.float .f64 p.wt]] w fun e w'=>e=.returned (.bool (fewP p))/\Below w.heap.size w w':=by
 obtain⟨nm,vr,deps,confl,prov,wt⟩:=p
 obtain⟨f1,f2,f3,f4,f5,f6,f7,f8,_⟩:=hf
 dsimp only at hd hdn hc hcn hg hgn f1 f2 f3 f4 f5 f6 f7 f8 ⊢
 rw[hdn] at f3
 rw[hcn] at f5
 rw[hgn] at f7
 unfold maxLen at f1 f2 f3 f5 f7
 obtain⟨R,hR⟩:=ex (fewP ⟨nm,vr,deps,confl,prov,wt⟩)
 rw[hR]
 unfold fewP at hR
 dsimp only at hR
 rw[hdn,hgn] at hR
 obtain⟨b,hb⟩:=ex w.heap.size
 obtain⟨V,hV⟩:=ex (w.alloc (.cells #[.string ⟨nm.toArray⟩,.string ⟨vr.toArray⟩,.slice D dn dc,.slice C cn cc,.slice G gn gc,.float .f64 wt] 27))
 have HB:Hid (Below w.heap.size w V):=ai hV
 have HY:=zh (fun W (h:Below V.heap.size V W)=>az hV h)
 rw[hb] at HY
 obtain⟨y0,y1,y2,y3,y4,y5⟩:=HY.out _ (Below.refl _ _)
 have HD:Hid (Pg.DRow V D deps):=drowD_below hd HB.out
 have HG:Hid (GRow V G prov):=Rg.ak hg HB.out
 have HM:Hid (MaxOk V):=ah hw HB.out
 have HA:=zh (kh C cn cc confl V HM.out hcn (au hc HB.out) (by unfold maxLen;exact f5) f6)
 have aq:=zh hdn
 have ar:=zh hgn
 have aA:=zh f4
 have aB:=zh f8
 have HR:=zh hR
 have al:Hid (Below b w V):=by show Below _ _ _;rw[<-hb];exact HB.out
 clear hw hd hdn hc hcn hg hgn hR f4 f6 f8
 by_cases h0:100<nm.length
 ·have HX:Hid (R=false):=by
   show _=_
   rw[<-HR.out,decide_eq_false (p:=nm.length<=100) (by omega)];simp
  have p0:(100:Int)<(nm.length:Int):=by omega
  clear h0
  go_enter Tryz.func5,Tryz.ntmps5
  go_wp2_with fail
  go_ret
  exact⟨by rw[HX.out];rfl,al.out⟩
 have p0:¬ (100:Int)<(nm.length:Int):=by omega
 by_cases h1:100<vr.length
 ·have HX:Hid (R=false):=by
   show _=_
   rw[<-HR.out,decide_eq_false (p:=vr.length<=100) (by omega)];simp
  have p1:(100:Int)<(vr.length:Int):=by omega
  clear h1
  go_enter Tryz.func5,Tryz.ntmps5
  go_wp2_with fail
  go_ret
  exact⟨by rw[HX.out];rfl,al.out⟩
 have p1:¬ (100:Int)<(vr.length:Int):=by omega
 by_cases h2:30<dn
 ·have HX:Hid (R=false):=by
   show _=_
   rw[<-HR.out,decide_eq_false (p:=dn<=30) (by omega)];simp
  have p2:(30:Int)<(dn:Int):=by omega
  clear h2
  go_enter Tryz.func5,Tryz.ntmps5
  go_wp2_with fail
  go_ret
  exact⟨by rw[HX.out];rfl,al.out⟩
 have p2:¬ (30:Int)<(dn:Int):=by omega
 by_cases h3:30<gn
 ·have HX:Hid (R=false):=by
   show _=_
   rw[<-HR.out,decide_eq_false (p:=gn<=30) (by omega)];simp
  have p3:(30:Int)<(gn:Int):=by omega
  clear h3
  go_enter Tryz.func5,Tryz.ntmps5
  go_wp2_with fail
  go_ret
  exact⟨by rw[HX.out];rfl,al.out⟩
 have p3:¬ (30:Int)<(gn:Int):=by omega
 have HX:Hid ((fewAs confl&&(deps.all fewAs&&prov.all fewG))=R):=by
  show _=_
  rw[<-HR.out,decide_eq_true (p:=nm.length<=100) (by omega),decide_eq_true (p:=vr.length<=100) (by omega),decide_eq_true (p:=dn<=30) (by omega),decide_eq_true (p:=gn<=30) (by omega)];rfl
 obtain⟨x,hx⟩:=ex (fewAs confl)
 rw[hx] at HX HA
 have aC:dn<=30:=by omega
 have aD:gn<=30:=by omega
 clear hx h0 h1 h2 h3 HR
 go_enter Tryz.func5,Tryz.ntmps5
 go_wp2_with fail
 clear hV hb
 refine HA.out.mono ?_
 rintro _ u1 ⟨rfl,ax⟩
 have av:=zh ax
 clear ax HA y0 y1 y2 y3 y4 y5
 cases x
 ·have HF:Hid (R=false):=by show _=_;rw[<-HX.out];rfl
  go_wp2_with fail
  go_ret
  exact⟨by rw[HF.out];rfl,bt HB.out av.out⟩
 have am:Hid ((deps.all fewAs&&prov.all fewG)=R):=by show _=_;rw[<-HX.out];rfl
 clear HX
 go_wp2_with fail
 go_loopw [3] (fun i wr=>∃ k:Nat,k<=dn/\i=.int .i64 k/\Hid ((deps.take k).all fewAs=true)/\Hid (Below V.heap.size V wr)) (fun i _=>dn-(intOf i).toNat)
 case atStart=>exact⟨0,Nat.zero_le _,rfl,rfl,av.out⟩
 case round =>
  obtain⟨k,hk,rfl,HH,ae⟩:=hrel
  obtain⟨y0,y1,y2,y3,y4,y5⟩:=HY.out _ ae.out
  by_cases an:k<dn
  ·have aa:k<deps.length:=by rw[aq.out];exact an
   obtain⟨ad,C1,m,d,rfl,hm,hs,hc⟩:=bT HD.out k aa
   have q0:=hc _ ae.out
   have ab:=aA.out _ (List.getElem_mem aa)
   obtain⟨a,ha⟩:=ex (deps[k])
   have h1:=ni fewAs deps k aa ha HH.out
   have h2:fewAs a=false->deps.all fewAs=false:=fun h=>iO aa ha h
   rw[ha] at hm hs ab
   have HT:=zh (kh C1 m d a wr (ah HM.out ae.out) hm (au hs ae.out) (by rw[<-hm];exact ab.1) ab.2)
   have H1:=zh h1
   have H2:=zh h2
   clear hc ha hm hs ab h1 h2
   obtain⟨x,hx⟩:=ex (fewAs a)
   rw[hx] at HT H1 H2
   clear hx
   go_wp2_with fail
   refine HT.out.mono ?_
   rintro _ u2 ⟨rfl,ay⟩
   have aw:Hid (Below V.heap.size V u2):=bt ae.out ay
   clear ay HT y0 y1 y2 y3 y4 y5 q0
   cases x
   ·have ac:Hid (R=false):=by show _=_;rw[<-am.out,H2.out rfl];rfl
    go_wp2_with fail
    go_ret
    exact⟨by rw[ac.out];rfl,bt HB.out aw.out⟩
   ·have ao:Hid ((deps.take (k+1)).all fewAs=true):=H1.out
    clear H1 H2
    go_wp2_with fail
    go_roundw
    case rel=>exact⟨k+1,by omega,by go_num,ao,aw⟩
    case measure=>simp[intOf];omega
  ·obtain rfl:k=dn:=by omega
   have ap:Hid (prov.all fewG=R):=by
    have h:=HH.out
    rw[List.take_of_length_le (by rw[aq.out];exact Nat.le_refl _)] at h
    show _=_
    rw[<-am.out,h];rfl
   clear am HH
   go_wp2_with fail
   clear y0 y1 y2 y3 y4 y5
   go_loopw [4] (fun i ws=>∃ j:Nat,j<=gn/\i=.int .i64 j/\Hid ((prov.take j).all fewG=true)/\Hid (Below V.heap.size V ws)) (fun i _=>gn-(intOf i).toNat)
   case atStart=>exact⟨0,Nat.zero_le _,rfl,rfl,ae⟩
   case round =>
    obtain⟨j,hj,rfl,HH,af⟩:=hrel
    obtain⟨y0,y1,y2,y3,y4,y5⟩:=HY.out _ af.out
    by_cases an:j<gn
    ·have aa:j<prov.length:=by rw[ar.out];exact an
     obtain⟨ad,rfl,hc⟩:=b8 HG.out j aa
     obtain⟨q0,q1⟩:=hc _ af.out
     have ab:=aB.out _ (List.getElem_mem aa)
     obtain⟨a,ha⟩:=ex (prov[j])
     have h1:=ni fewG prov j aa ha HH.out
     have h2:fewG a=false->prov.all fewG=false:=fun h=>iO aa ha h
     rw[ha] at q0 q1 ab
     obtain⟨ag,aj⟩:=a
     dsimp only at q0 q1 ab
     obtain⟨aE,aF⟩:=ab
     unfold maxLen at aE aF
     have H1:=zh h1
     have H2:=zh h2
     clear hc ha h1 h2
     by_cases g1:100<ag.length
     ·have ac:Hid (R=false):=by show _=_;rw[<-ap.out,H2.out (by unfold fewG;rw[decide_eq_false (p:=ag.length<=100) (by omega)];rfl)]
      have p0:(100:Int)<(ag.length:Int):=by omega
      clear g1
      go_wp2_with fail
      go_ret
      exact⟨by rw[ac.out];rfl,bt HB.out af.out⟩
     by_cases g2:100<aj.length
     ·have ac:Hid (R=false):=by show _=_;rw[<-ap.out,H2.out (by unfold fewG;rw[decide_eq_false (p:=aj.length<=100) (by omega),Bool.and_false])]
      have p0:¬ (100:Int)<(ag.length:Int):=by omega
      have p1:(100:Int)<(aj.length:Int):=by omega
      clear g1 g2
      go_wp2_with fail
      go_ret
      exact⟨by rw[ac.out];rfl,bt HB.out af.out⟩
     have ao:Hid ((prov.take (j+1)).all fewG=true):=by
      show _=_
      rw[H1.out];unfold fewG;rw[decide_eq_true (p:=ag.length<=100) (by omega),decide_eq_true (p:=aj.length<=100) (by omega)];rfl
     have p0:¬ (100:Int)<(ag.length:Int):=by omega
     have p1:¬ (100:Int)<(aj.length:Int):=by omega
     clear g1 g2 H1 H2
     go_wp2_with fail
     go_roundw
     case rel=>exact⟨j+1,by omega,by go_num,ao,af⟩
     case measure=>simp[intOf];omega
    ·obtain rfl:j=gn:=by omega
     have ac:Hid (R=true):=by
      have h:=HH.out
      rw[List.take_of_length_le (by rw[ar.out];exact Nat.le_refl _)] at h
      show _=_
      rw[<-ap.out,h]
     go_wp2_with fail
     go_ret
     exact⟨by rw[ac.out];rfl,bt HB.out af.out⟩
theorem Pg.acm (t:List UInt8):(Lib.cut t [32,61,32]).1.length<=t.length:=by
 unfold Lib.cut
 split
 ·show (t.take _).length<=_
  rw[List.length_take];omega
 ·exact Nat.le_refl _
theorem rE (t:List UInt8)(i:Int)(w:World)(hw:MaxOk w)(ht:t.length<=1000) :
  Calls Tryz.prog 138 #[.agg #[.string ⟨t.toArray⟩,.int .i64 i]] w fun r w'=>Below w.heap.size w w'/\match gvR t with
   | .ok a=>r=.returned (.agg #[.string ⟨a.name.toArray⟩,.string ⟨a.ver.toArray⟩])
   | .error k=>r=panAt i k :=
 (rC t i w hw (by omega) (Nat.le_trans (Nat.le_trans (acm t) ht) (by decide))).mono fun r w' ⟨h1,h2⟩=>by
  refine⟨h2,?_⟩
  rw[aar] at h1
  cases h:gvR t with
  | ok a=>rw[h] at h1;exact h1
  | error k=>rw[h] at h1;exact h1
theorem Pg.sliceG:Rg.SliceT Tryz.prog encG 2 32 58:=⟨fitsG,by decide,by kernel_rfl,Rg.bE (z:=.agg #[.string ByteArray.empty,.string ByteArray.empty]) (b:=32) (by kernel_rfl) (by rfl) (by decide)⟩
theorem Pg.nj {w:World}{B:Nat}{T:TypeId}{v:Value}{l:List Gv}(h:Rg.Own encG 2 w B T v l):∃ A c,v=.slice A l.length c/\GRow w A l/\∀ a,A=some a->B<=a.block:=by
 obtain⟨A,c,hv,hr,_,_⟩:=Rg.aE fitsG h
 exact⟨A,c,hv,hr,fun a ha=>by subst ha;exact (Rg.bD h a.block (by rw[hv];rfl)).1⟩
theorem pO (t sep:List UInt8)(i:Int)(most:Nat)(w:World)(hw:MaxOk w)(ht:Fit sep t)(h1:1<=sep.length)(hmo:most<=100) :
  Calls Tryz.prog 137 #[.agg #[.string ⟨t.toArray⟩,.int .i64 i],.string ⟨sep.toArray⟩,.int .i64 most,.func (.func 138) #[] #[]] w (Pg.PartsRet GRow w i (partsR gvR sep most t)):=by
 obtain⟨R,hR⟩:=ex (partsR gvR sep most t)
 rw[hR]
 unfold partsR at hR
 obtain⟨V,hV⟩:=ex (w.alloc (.cells #[.string ⟨t.toArray⟩,.int .i64 i] 148))
 have HB:Hid (Below w.heap.size w V):=ai hV
 have HP:=zh (fun W (h:Below V.heap.size V W)=>aB hV h)
 have HM:=zh (fun W (h:Below V.heap.size V W)=>ah (ah hw HB.out) h)
 have HC:Hid (Calls Tryz.prog 176 #[.string ⟨t.toArray⟩,.string ⟨sep.toArray⟩,.int .i64 ((most:Int)+1)] V fun e w'=>∃ A m c,e=.returned (.slice A m c)/\(Lib.splitN t sep (most+1)).length=m/\m<=1000/\Rg.Row encT 1 w' A (Lib.splitN t sep (most+1))/\Below V.heap.size V w') :=
  jQ t sep (most+1) V (HM.out _ (Below.refl _ _)) (Nat.le_trans ht.1 (by decide)) h1 (by omega) (by omega)
 have ap:∀ p∈Lib.split t sep,p.length<=1000:=ht.2
 obtain⟨f1,f2⟩:=jO (s:=t) (sep:=sep) (fun e=>by rw[e] at h1;simp at h1) most
 obtain⟨ps,aE⟩:=ex (Lib.split t sep)
 obtain⟨qs,aF⟩:=ex (Lib.splitN t sep (most+1))
 rw[aE] at hR f1 f2 ap
 rw[aF] at f1 f2 HC
 have iw:IntKind.i64.wrap ((most:Int)+1)=(most:Int)+1:=IntWalk.i64_in _ (by omega)
 obtain⟨c0,c1⟩:=HP.out _ (Below.refl _ _)
 have HR:=zh hR
 have aq:=zh f1
 have az:=zh f2
 have aK:=zh ap
 clear hw hR ap f1 f2 aE aF
 go_enter Tryz.func137,Tryz.ntmps137
 go_wp2_with fail
 clear hV
 refine HC.out.mono ?_
 rintro _ z1 ⟨A,n,c,rfl,hn,aU,aj,aG⟩
 have HN:=zh hn
 have ac:=zh aj
 have al:=zh aG
 clear hn aj aG HC c0 c1 iw
 obtain⟨c0,c1⟩:=HP.out _ al.out
 by_cases ae:n<=most
 case neg =>
  have ar:Hid (R=.error 4):=by
   show _=_
   rw[<-HR.out,if_neg]
   intro hh
   have:=aq.out hh
   rw[this] at HN
   have:=HN.out
   omega
  have d0:decide (n<=most)=false:=decide_eq_false ae
  clear ae
  go_wp2_with fail
  refine (aM t i false 4 _).mono ?_
  rintro _ u ⟨rfl,hb⟩
  have HU:Hid (Below w.heap.size w u):=HB.out.trans ((bt al.out hb).mono HB.out.size)
  clear hb
  go_wp2_with fail
  exact⟨rfl,HU.out,by rw[ar.out]⟩
 have aL:qs=ps:=by
  rcases Nat.lt_or_ge most ps.length with h | h
  ·have:=az.out h
   have:=HN.out
   omega
  ·exact aq.out h
 subst aL
 have ar:Hid (rdL gvR [] qs=R):=by
  show _=_
  rw[<-HR.out,if_pos (by rw[HN.out];exact ae)]
 have d0:decide (n<=most)=true:=decide_eq_true ae
 clear ae aq az HR
 go_wp2_with fail
 refine (aM t i true 4 _).mono ?_
 rintro _ z2 ⟨rfl,hb⟩
 have au:Hid (Below V.heap.size V z2):=bt al.out hb
 have af:=zh (Rg.ak ac.out hb)
 clear hb ac d0 c0 c1 al
 go_wp2_with fail
 go_loopw [10,27] (fun v i wr=>∃ (k:Nat) (acc:List Gv),k<=n/\i=.int .i64 k/\Hid (Rg.Own encG 2 wr z2.heap.size 58 v acc)/\Hid (Below z2.heap.size z2 wr/\z2.heap.size<=wr.heap.size)/\Hid (acc.length=k)/\Hid (rdL gvR acc (qs.drop k)=R)) (fun _ i _=>n-(intOf i).toNat)
 case atStart=>exact⟨0,[],Nat.zero_le _,rfl,Rg.aD _ _ _,⟨Below.refl _ _,Nat.le_refl _⟩,rfl,by show rdL _ _ (qs.drop 0)=R;rw[List.drop_zero,ar.out]⟩
 case round =>
  obtain⟨k,acc,hk,rfl,HO,ab,HA,HE⟩:=hrel
  have ag:Hid (Below V.heap.size V wr):=au.out.trans (ab.out.1.mono au.out.size)
  by_cases aA:k<n
  ·have aC:=zh aA
   have av:k<qs.length:=by rw[HN.out];exact aA
   obtain⟨ad,rfl,_,q0⟩:=eF (Rg.ak af.out ab.out.1) k av
   have am:=aK.out _ (List.getElem_mem av)
   have he:=HE.out
   rw[List.drop_eq_getElem_cons av] at he
   obtain⟨p,hp⟩:=ex (qs[k])
   rw[hp] at am he q0
   have aN:Hid (acc.length+1<=1000000):=by have h1:=HA.out;show _<=_;omega
   have an:=zh (rE p i wr (HM.out _ ag.out) am)
   obtain⟨c0,c1⟩:=HP.out _ ag.out
   obtain⟨E,hE⟩:=ex (gvR p)
   rw[hE] at an
   cases E with
   | error e =>
    have ax:Hid (R=.error e):=by show _=_;rw[<-he];exact ll hE
    clear he hp am hE
    go_wp2_with fail
    refine an.out.mono ?_
    rintro e z3 ⟨hb,rfl⟩
    have aa:Hid (Below w.heap.size w z3):=HB.out.trans ((bt ag.out hb).mono HB.out.size)
    clear hb
    go_wp2_with fail
    exact⟨rfl,aa.out,by rw[ax.out]⟩
   | ok a =>
    have aP:Hid (rdL gvR (acc++[a]) (qs.drop (k+1))=R):=by show _=_;rw[<-he];exact (oR hE).symm
    clear he hp am hE
    go_wp2_with fail
    refine an.out.mono ?_
    rintro e z3 ⟨hb,rfl⟩
    have aa:=zh hb
    clear hb c0 c1 q0 an
    go_wp2_with (at_builtin;refine Rg.aO sliceG rfl (.tmp 31) (.tmp 38) rfl z2.heap.size _ acc [a] rfl (Rg.own_below HO.out (aa.out.alloc aa.out.size _)) _ _ rfl (Rg.ay z3 _ _ _ (by rfl)) (Nat.zero_lt_succ _) aN.out ?b2 ?_)
    case b2=>have:=ab.out.2;have:=aa.out.size;simp;omega
    intro v5 W5 aH aI aT
    have ao:Below wr.heap.size wr (z3.alloc (.cells #[.string ⟨a.name.toArray⟩,.string ⟨a.ver.toArray⟩] 58)):=aa.out.alloc aa.out.size _
    have aQ:Hid (Rg.Own encG 2 W5 z2.heap.size 58 v5 (acc++[a])):=aH
    have aR:Hid (Below z2.heap.size z2 W5/\z2.heap.size<=W5.heap.size):=by
     have h2:=ab.out.1.trans ((ao.mono ab.out.2).trans (Rg.aw (Rg.own_below HO.out ao) (Nat.le_trans ab.out.2 ao.size) aI))
     exact⟨h2,h2.size⟩
    clear aH aI aT ao HO aa ab ag
    go_wp2_with fail
    go_roundw
    case rel=>exact⟨k+1,acc++[a],(by have:=aC.out;omega),by go_num,aQ,aR,by show (acc++[a]).length=_;rw[List.length_append,HA.out];rfl,aP⟩
    case measure=>have:=aC.out;simp[intOf];omega
  ·obtain rfl:k=n:=by omega
   have ax:Hid (R=.ok acc):=by show _=_;rw[<-HE.out,List.drop_eq_nil_of_le (by rw[HN.out];exact Nat.le_refl _)];rfl
   obtain⟨C,d,rfl,aJ,hf⟩:=nj HO.out
   have aS:=zh aJ
   have HF:=zh hf
   clear aJ hf
   go_wp2_with fail
   go_ret
   refine⟨bt HB.out ag.out,?_⟩
   rw[ax.out]
   exact⟨C,_,d,rfl,rfl,aS.out,fun a ha=>Nat.le_trans (Nat.le_trans HB.out.size au.out.size) (HF.out a ha)⟩
def Pg.DFresh (B:Nat) (ds:List Desc):Prop:=∀ (i:Nat) (d:Desc),ds[i]?=some d->∀ a,d.1=some a->B<=a.block
def Pg.DRowF (B:Nat) (w:World) (A:Option Addr) (t:List (List Atm)):Prop:=∃ ds,Rg.Row encO 1 w A ds/\DIn w ds t/\DFresh B ds
theorem Pg.jR {B B':Nat}{w:World}{A:Option Addr}{t:List (List Atm)}(h:Pg.DRowF B w A t)(hB:B'<=B):Pg.DRowF B' w A t:=by
 obtain⟨ds,h1,h2,h3⟩:=h
 exact⟨ds,h1,h2,fun i d e a ha=>Nat.le_trans hB (h3 i d e a ha)⟩
theorem Pg.ly {B:Nat}{w:World}{A:Option Addr}{t:List (List Atm)}(h:Pg.DRowF B w A t):Pg.DRow w A t:=by
 obtain⟨ds,h1,h2,_⟩:=h
 exact⟨ds,h1,h2⟩
def Pg.DOwnF (w:World) (B:Nat) (T:TypeId) (v:Value) (ds:List Desc) (t:List (List Atm)):Prop:=Rg.Own encO 1 w B T v ds/\DIn w ds t/\DFresh B ds/\Pure IsSl w v
theorem Pg.nk (w:World)(B:Nat)(T:TypeId):DOwnF w B T (.slice none 0 0) [] []:=⟨Rg.aD _ _ _,⟨rfl,fun i a d h=>by simp at h⟩,fun i a h=>by simp at h,pure_nil _ _⟩
theorem Pg.aZ {w w':World}{B:Nat}{T:TypeId}{v:Value}{ds:List Desc}{t:List (List Atm)}(h:DOwnF w B T v ds t)(hb:Below w.heap.size w w'):DOwnF w' B T v ds t:=⟨Rg.own_below h.1 hb,kZ h.2.1 hb,h.2.2.1,oQ h.2.2.2 h.1 hb⟩
theorem Pg.qL {w w':World}{v:Value}{A:Option Addr}{l:List Atm}(h:ARow w A l)(hp:Pure IsSl w v)(hb:But v.ownBlock w w'):ARow w' A l:=by
 refine jN h hb ?_ fun g hg j x hx=>aeF (hp g hg j x hx)
 cases hv:v.ownBlock with
 | none=>exact fun _ a _ e=>by cases e
 | some g=>exact adO h (hp g hv)
theorem Pg.nn {w w':World}{B:Nat}{T:TypeId}{v v':Value}{ds:List Desc}{t:List (List Atm)}{C:Option Addr}{m c:Nat}{l:List Atm}(h:DOwnF w B T v ds t)(hr:ARow w C l)(hm:l.length=m)(hf:∀ a,C=some a->B<=a.block)(ho:Rg.Own encO 1 w' B T v' (ds++[(C,m,c)]))(hp:Pure IsSl w' v')(hg:w.grownBy w' v.ownBlock):DOwnF w' B T v' (ds++[(C,m,c)]) (t++[l]):=by
 have hb:But v.ownBlock w w':=qI hg
 refine⟨ho,⟨by rw[List.length_append,List.length_append,h.2.1.1];rfl,fun i x y e1 e2=>?_⟩,fun i x e1=>?_,hp⟩
 ·rcases aR e1 with⟨q1,q2⟩ | ⟨q1,q2⟩
  ·rcases aR e2 with⟨_,p2⟩ | ⟨p1,_⟩
   ·exact⟨(h.2.1.2 i x y q2 p2).1,qL (h.2.1.2 i x y q2 p2).2 h.2.2.2 hb⟩
   ·have:=h.2.1.1;omega
  ·rcases aR e2 with⟨p1,_⟩ | ⟨_,p2⟩
   ·have:=h.2.1.1;omega
   ·subst q2 p2;exact⟨hm.symm,qL hr h.2.2.2 hb⟩
 ·rcases aR e1 with⟨q1,q2⟩ | ⟨q1,q2⟩
  ·exact h.2.2.1 i x q2
  ·subst q2;exact hf
theorem Pg.down_row {w:World}{B:Nat}{T:TypeId}{v:Value}{ds:List Desc}{t:List (List Atm)}(h:DOwnF w B T v ds t):∃ A c,v=.slice A t.length c/\Pg.DRowF B w A t/\∀ a,A=some a->B<=a.block:=by
 obtain⟨A,c,hv,hr,_,_⟩:=Rg.aE fitsO h.1
 rw[h.2.1.1] at hv
 exact⟨A,c,hv,⟨ds,hr,h.2.1,h.2.2.1⟩,fun a ha=>by subst ha;exact (Rg.bD h.1 a.block (by rw[hv];rfl)).1⟩
theorem Pg.sliceD6:Rg.SliceT Tryz.prog encO 1 30 54:=⟨fitsO,by decide,by kernel_rfl,Rg.bE (z:=.slice none 0 0) (b:=24) (by kernel_rfl) (by rfl) (by decide)⟩
theorem Pg.ua:∀ i,Tryz.prog.info? 54=some i->∀ z,i.zero=some z->∀ u∈z.cells,IsSl u:=lY (z0:=.slice none 0 0) (by kernel_rfl) (fun u hu=>by simp[Value.cells] at hu;exact⟨_,_,_,hu⟩)
theorem Pg.pP:∀ x:Desc,∀ u∈encO x,IsSl u:=fun _ _ hu=>⟨_,_,_,List.mem_singleton.1 hu⟩
theorem ub (t:List UInt8)(i:Int)(w:World)(hw:MaxOk w)(ht:Fit orT t) :
  Calls Tryz.prog 134 #[.agg #[.string ⟨t.toArray⟩,.int .i64 i]] w (Pg.PartsRet ARow w i (depR t)):=by
 obtain⟨E,hE⟩:=ex (depR t)
 rw[hE]
 obtain⟨V,hV⟩:=ex (w.alloc (.cells #[.string ⟨t.toArray⟩,.int .i64 i] 148))
 have HB:Hid (Below w.heap.size w V):=ai hV
 obtain⟨c0,c1⟩:=aB hV (Below.refl _ _)
 have HC:Hid (Calls Tryz.prog 135 #[.agg #[.string ⟨t.toArray⟩,.int .i64 i],.string ⟨#[32,111,114,32]⟩,.int .i64 8,.func (.func 136) #[] #[]] V (Pg.PartsRet ARow V i E)):=by
  have h:=iY t orT i 8 V (ah hw HB.out) ht (by decide) (by decide)
  rw[show partsR atomR orT 8 t=E from hE] at h
  exact h
 clear hw ht hE
 go_enter Tryz.func134,Tryz.ntmps134
 go_wp2_with fail
 clear hV
 refine HC.out.mono ?_
 rintro r u ⟨hb,hr⟩
 have HU:Hid (Below w.heap.size w u):=bt HB.out hb
 clear hb HC c0 c1
 cases E with
 | error k =>
  obtain rfl:r=panAt i k:=hr
  go_wp2_with fail
  exact⟨rfl,HU.out,rfl⟩
 | ok l =>
  obtain⟨A,n,c,rfl,hn,aa,hf⟩:=hr
  have HN:=zh hn
  have HR:=zh aa
  have HF:Hid (∀ a,A=some a->w.heap.size<=a.block):=fun a ha=>Nat.le_trans HB.out.size (hf a ha)
  clear hn aa hf
  go_wp2_with fail
  go_ret
  exact⟨HU.out,A,n,c,rfl,HN.out,HR.out,HF.out⟩
theorem rF (t sep:List UInt8)(i:Int)(most:Nat)(w:World)(hw:MaxOk w)(ht:t.length<=200000/\∀ p∈Lib.split t sep,Fit orT p)(h1:1<=sep.length)(hmo:most<=100) :
  Calls Tryz.prog 133 #[.agg #[.string ⟨t.toArray⟩,.int .i64 i],.string ⟨sep.toArray⟩,.int .i64 most,.func (.func 134) #[] #[]] w (Pg.PartsRet (fun u A l=>Pg.DRowF w.heap.size u A l) w i (partsR depR sep most t)):=by
 obtain⟨R,hR⟩:=ex (partsR depR sep most t)
 rw[hR]
 unfold partsR at hR
 obtain⟨V,hV⟩:=ex (w.alloc (.cells #[.string ⟨t.toArray⟩,.int .i64 i] 148))
 have HB:Hid (Below w.heap.size w V):=ai hV
 have HP:=zh (fun W (h:Below V.heap.size V W)=>aB hV h)
 have HM:=zh (fun W (h:Below V.heap.size V W)=>ah (ah hw HB.out) h)
 have HC:Hid (Calls Tryz.prog 176 #[.string ⟨t.toArray⟩,.string ⟨sep.toArray⟩,.int .i64 ((most:Int)+1)] V fun e w'=>∃ A m c,e=.returned (.slice A m c)/\(Lib.splitN t sep (most+1)).length=m/\m<=1000/\Rg.Row encT 1 w' A (Lib.splitN t sep (most+1))/\Below V.heap.size V w') :=
  jQ t sep (most+1) V (HM.out _ (Below.refl _ _)) (Nat.le_trans ht.1 (by decide)) h1 (by omega) (by omega)
 have ar:∀ p∈Lib.split t sep,Fit orT p:=ht.2
 obtain⟨f1,f2⟩:=jO (s:=t) (sep:=sep) (fun e=>by rw[e] at h1;simp at h1) most
 obtain⟨ps,aF⟩:=ex (Lib.split t sep)
 obtain⟨qs,aG⟩:=ex (Lib.splitN t sep (most+1))
 rw[aF] at hR f1 f2 ar
 rw[aG] at f1 f2 HC
 have iw:IntKind.i64.wrap ((most:Int)+1)=(most:Int)+1:=IntWalk.i64_in _ (by omega)
 obtain⟨c0,c1⟩:=HP.out _ (Below.refl _ _)
 have HR:=zh hR
 have av:=zh f1
 have aC:=zh f2
 have aN:=zh ar
 clear hw hR ar f1 f2 aF aG
 go_enter Tryz.func133,Tryz.ntmps133
 go_wp2_with fail
 clear hV
 refine HC.out.mono ?_
 rintro _ z1 ⟨A,n,c,rfl,hn,aX,am,aH⟩
 have HN:=zh hn
 have ac:=zh am
 have an:=zh aH
 clear hn am aH HC c0 c1 iw
 obtain⟨c0,c1⟩:=HP.out _ an.out
 by_cases ae:n<=most
 case neg =>
  have ax:Hid (R=.error 4):=by
   show _=_
   rw[<-HR.out,if_neg]
   intro hh
   have:=av.out hh
   rw[this] at HN
   have:=HN.out
   omega
  have d0:decide (n<=most)=false:=decide_eq_false ae
  clear ae
  go_wp2_with fail
  refine (aM t i false 4 _).mono ?_
  rintro _ u ⟨rfl,hb⟩
  have HU:Hid (Below w.heap.size w u):=HB.out.trans ((bt an.out hb).mono HB.out.size)
  clear hb
  go_wp2_with fail
  exact⟨rfl,HU.out,by rw[ax.out]⟩
 have aO:qs=ps:=by
  rcases Nat.lt_or_ge most ps.length with h | h
  ·have:=aC.out h
   have:=HN.out
   omega
  ·exact av.out h
 subst aO
 have ax:Hid (rdL depR [] qs=R):=by
  show _=_
  rw[<-HR.out,if_pos (by rw[HN.out];exact ae)]
 have d0:decide (n<=most)=true:=decide_eq_true ae
 clear ae av aC HR
 go_wp2_with fail
 refine (aM t i true 4 _).mono ?_
 rintro _ z2 ⟨rfl,hb⟩
 have ao:Hid (Below V.heap.size V z2):=bt an.out hb
 have af:=zh (Rg.ak ac.out hb)
 clear hb ac d0 c0 c1 an
 go_wp2_with fail
 go_loopw [10,27] (fun v i wr=>∃ (k:Nat) (acc:List (List Atm)) (ds:List Desc),k<=n/\i=.int .i64 k/\Hid (DOwnF wr z2.heap.size 54 v ds acc)/\Hid (Below z2.heap.size z2 wr/\z2.heap.size<=wr.heap.size)/\Hid (acc.length=k)/\Hid (rdL depR acc (qs.drop k)=R)) (fun _ i _=>n-(intOf i).toNat)
 case atStart=>exact⟨0,[],[],Nat.zero_le _,rfl,nk _ _ _,⟨Below.refl _ _,Nat.le_refl _⟩,rfl,by show rdL _ _ (qs.drop 0)=R;rw[List.drop_zero,ax.out]⟩
 case round =>
  obtain⟨k,acc,ds,hk,rfl,HO,ab,HA,HE⟩:=hrel
  have ag:Hid (Below V.heap.size V wr):=ao.out.trans (ab.out.1.mono ao.out.size)
  by_cases aD:k<n
  ·have aE:=zh aD
   have az:k<qs.length:=by rw[HN.out];exact aD
   obtain⟨ad,rfl,_,q0⟩:=eF (Rg.ak af.out ab.out.1) k az
   have ap:=aN.out _ (List.getElem_mem az)
   have he:=HE.out
   rw[List.drop_eq_getElem_cons az] at he
   obtain⟨p,hp⟩:=ex (qs[k])
   rw[hp] at ap he q0
   have aP:Hid (ds.length+1<=1000000):=by have h1:=HA.out;have h2:=HO.out.2.1.1;show _<=_;omega
   have aq:=zh (ub p i wr (HM.out _ ag.out) ap)
   obtain⟨c0,c1⟩:=HP.out _ ag.out
   obtain⟨E,hE⟩:=ex (depR p)
   rw[hE] at aq
   cases E with
   | error e =>
    have aj:Hid (R=.error e):=by show _=_;rw[<-he];exact ll hE
    clear he hp ap hE
    go_wp2_with fail
    refine aq.out.mono ?_
    rintro e z3 ⟨hb,rfl⟩
    have aa:Hid (Below w.heap.size w z3):=HB.out.trans ((bt ag.out hb).mono HB.out.size)
    clear hb
    go_wp2_with fail
    exact⟨rfl,aa.out,by rw[aj.out]⟩
   | ok a =>
    have aQ:Hid (rdL depR (acc++[a]) (qs.drop (k+1))=R):=by show _=_;rw[<-he];exact (oR hE).symm
    clear he hp ap hE
    go_wp2_with fail
    refine aq.out.mono ?_
    rintro e z3 ⟨hb,C,m,d,rfl,hm,hr,aI⟩
    have aa:=zh hb
    have aR:=zh hm
    have aj:=zh hr
    have aS:Hid (∀ a,C=some a->z2.heap.size<=a.block):=fun a ha=>Nat.le_trans ab.out.2 (aI a ha)
    clear hb hm hr aI c0 c1 q0 aq
    go_wp2_with (at_builtin;refine Pg.c8 sliceD6 ua pP rfl (.tmp 31) (.tmp 38) rfl z2.heap.size _ ds [(C,m,d)] rfl (aZ HO.out (aa.out.alloc aa.out.size _)).1 (aZ HO.out (aa.out.alloc aa.out.size _)).2.2.2 _ _ rfl (Rg.ay z3 _ [(C,m,d)] _ (by rfl)) (Nat.zero_lt_succ _) aP.out ?b2 ?_)
    case b2=>have:=ab.out.2;have:=aa.out.size;simp;omega
    intro v5 W5 aJ aK aA aW
    have al:Below wr.heap.size wr (z3.alloc (.cells #[.slice C m d] 54)):=aa.out.alloc aa.out.size _
    have aT:=zh (nn (aZ HO.out al) (au aj.out ((Below.refl _ _).alloc (Nat.le_refl _) _)) aR.out aS.out aJ aK aA)
    have aU:Hid (Below z2.heap.size z2 W5/\z2.heap.size<=W5.heap.size):=by
     have h2:=ab.out.1.trans ((al.mono ab.out.2).trans (Rg.aw (aZ HO.out al).1 (Nat.le_trans ab.out.2 al.size) aA))
     exact⟨h2,h2.size⟩
    clear aJ aK aA aW al HO aa ab ag
    go_wp2_with fail
    go_roundw
    case rel=>exact⟨k+1,acc++[a],_,(by have:=aE.out;omega),by go_num,aT,aU,by show (acc++[a]).length=_;rw[List.length_append,HA.out];rfl,aQ⟩
    case measure=>have:=aE.out;simp[intOf];omega
  ·obtain rfl:k=n:=by omega
   have aj:Hid (R=.ok acc):=by show _=_;rw[<-HE.out,List.drop_eq_nil_of_le (by rw[HN.out];exact Nat.le_refl _)];rfl
   obtain⟨C,d,rfl,aL,hf⟩:=down_row HO.out
   have aV:=zh aL
   have HF:=zh hf
   clear aL hf
   go_wp2_with fail
   go_ret
   refine⟨bt HB.out ag.out,?_⟩
   rw[aj.out]
   exact⟨C,_,d,rfl,rfl,jR aV.out (Nat.le_trans HB.out.size ao.out.size),fun a ha=>Nat.le_trans (Nat.le_trans HB.out.size ao.out.size) (HF.out a ha)⟩
end
section
open Go.RowKit
namespace Wm
theorem acn (u:Nat):∃ c t,Lib.decDigits u=c :: t/\c≠45:=by
 obtain⟨⟨h1,h2,_⟩,_⟩:=el u u (Nat.le_refl _)
 cases h:Lib.decDigits u with
 | nil=>exact absurd h h1
 | cons c t =>
  refine⟨c,t,rfl,?_⟩
  rw[h] at h2
  simp only[List.all_cons,Bool.and_eq_true] at h2
  intro hc;subst hc
  have:=h2.1;revert this;decide
theorem fL (z:Int):sgnd (Lib.itoa z)=decide (z<0)/\mgn (Lib.itoa z)=Lib.decDigits z.natAbs:=by
 unfold Lib.itoa
 split
 ·rename_i h
  refine⟨by rw[decide_eq_true h];rfl,rfl⟩
 ·rename_i h
  obtain⟨c,t,e,hc⟩:=acn z.toNat
  have hs:sgnd (Lib.decDigits z.toNat)=false:=by rw[e];unfold sgnd;simp[hc]
  refine⟨by rw[hs,decide_eq_false h],?_⟩
  unfold mgn;rw[hs]
  rw[if_neg Bool.false_ne_true,show z.toNat=z.natAbs from by omega]
theorem qM (z:Int):decB (Lib.itoa z)=true:=by
 rw[jM]
 obtain⟨h1,h2⟩:=fL z
 obtain⟨p1,p2,_⟩:=el z.natAbs z.natAbs (Nat.le_refl _)
 unfold decOk
 rw[h1,h2]
 refine⟨p1,fun h=>?_⟩
 rw[h] at p2
 have:Vm.num [48]=0:=by decide
 rw[this] at p2
 exact decide_eq_false (by omega)
theorem jS (z:Int)(h1:-9223372036854775808<=z)(h2:z<9223372036854775808):nmb (Lib.itoa z)=z:=by
 obtain⟨e1,e2⟩:=fL z
 obtain⟨_,p2,_⟩:=el z.natAbs z.natAbs (Nat.le_refl _)
 unfold nmb
 rw[e1,e2,p2]
 by_cases h:z<0
 ·rw[decide_eq_true h,if_pos rfl,if_pos (by omega)];omega
 ·rw[decide_eq_false h,if_neg Bool.false_ne_true,if_pos (by omega)];omega
theorem adP (z:Int)(c:UInt8)(h:c∈Lib.itoa z):c=45\/Vm.dig c=true:=by
 obtain⟨e1,e2⟩:=fL z
 obtain⟨⟨_,p,_⟩,_⟩:=el z.natAbs z.natAbs (Nat.le_refl _)
 rw[List.all_eq_true] at p
 unfold Lib.itoa at h
 split at h
 ·rcases List.mem_cons.1 h with h | h
  ·exact Or.inl h
  ·exact Or.inr (p c h)
 ·rw[show z.toNat=z.natAbs from by omega] at h
  exact Or.inr (p c h)
theorem cut112 (a b:List UInt8)(h:∀ c∈a,c≠112):Vm.has 112 (a++112 :: b)=true/\Vm.fst 112 (a++112 :: b)=a/\Vm.snd 112 (a++112 :: b)=b:=by
 induction a with
 | nil=>refine⟨?_,?_,?_⟩ <;> simp[Vm.has,Vm.fst,Vm.snd]
 | cons c t ih =>
  obtain⟨i1,i2,i3⟩:=ih (fun x hx=>h x (List.mem_cons_of_mem _ hx))
  have hc:c≠112:=h c (List.mem_cons_self ..)
  have aa:(c != 112)=true:=by simp[hc]
  refine⟨?_,?_,?_⟩
  ·unfold Vm.has at *;simp
  ·unfold Vm.fst at *;rw[List.cons_append,List.takeWhile_cons,aa];simp only[if_true];rw[i2]
  ·unfold Vm.snd at *;rw[List.cons_append,List.dropWhile_cons,aa];simp only[if_true];exact i3
end Wm
theorem aco (l:List UInt8)(h:Vm.has 112 l=true):litW l=none:=by
 rcases lg l with rfl | rfl | rfl | rfl | rfl | ⟨h1,h2,h3,h4,h5,_,_⟩
 ·exact absurd h (by decide)
 ·exact absurd h (by decide)
 ·exact absurd h (by decide)
 ·exact absurd h (by decide)
 ·exact absurd h (by decide)
 ·rw[beq_eq_false_iff_ne] at h1 h2 h3 h4 h5
  unfold litW;rw[if_neg h1,if_neg h2,if_neg h3,if_neg h4,if_neg h5]
theorem uc (z:Int)(h:z.natAbs % 2=1):lastOdd (Lib.itoa z)=true:=by
 obtain⟨e1,e2⟩:=Wm.fL z
 obtain⟨⟨p1,p2,_⟩,p3,_⟩:=Wm.el z.natAbs z.natAbs (Nat.le_refl _)
 have aa:(Lib.itoa z).getLast? = (Lib.decDigits z.natAbs).getLast?:=by
  unfold Lib.itoa
  split
  ·cases hd:Lib.decDigits z.natAbs with
   | nil=>exact absurd hd p1
   | cons c t=>rfl
  ·rw[show z.toNat=z.natAbs from by omega]
 have hn:=Wm.tM _ p1
 rw[p3,h] at hn
 have ab:Vm.dig ((Lib.decDigits z.natAbs).getLast p1)=true:=by rw[List.all_eq_true] at p2;exact p2 _ (List.getLast_mem p1)
 rw[Wm.fU] at ab
 unfold lastOdd
 rw[aa,List.getLast?_eq_some_getLast p1]
 simp only[Option.getD_some]
 rw[beq_iff_eq]
 omega
theorem yv (n:Bool){k:Nat}{e:Int}(ho:k % 2=1)(h2:k<2 ^ 53)(lo:-1074<=e)(hi:(k.log2:Int)+e<=1023) :
  errW (Lib.itoa (Wm.sg n k)++112 :: Lib.itoa e)=0/\outW (Lib.itoa (Wm.sg n k)++112 :: Lib.itoa e)=Wm.word n (Wm.rungOf k e):=by
 have ae:Wm.sg n k=if n then -(k:Int) else k:=by unfold Wm.sg;cases n <;> simp
 have hb:-9007199254740992<Wm.sg n k/\Wm.sg n k<9007199254740992:=by rw[ae];cases n <;> simp <;> omega
 have ad:(Wm.sg n k).natAbs=k:=Wm.aae n k
 obtain⟨c1,c2,c3⟩:=Wm.cut112 (Lib.itoa (Wm.sg n k)) (Lib.itoa e) (fun c hc=>by
  rcases Wm.adP _ c hc with rfl | h
  ·decide
  ·intro h3;subst h3;revert h;decide)
 have hl:=aco _ c1
 have ab:formOk (Lib.itoa (Wm.sg n k)++112 :: Lib.itoa e)=true:=by
  unfold formOk
  rw[c1,c2,c3,Wm.qM,Wm.qM,uc _ (by rw[ad];exact ho)];rfl
 have af:e<=1023:=by omega
 have hr:Wm.rangeOk (Wm.sg n k) e=true:=by
  rw[Wm.iB hb.1 hb.2,ad,decide_eq_true lo,decide_eq_true (by omega)];rfl
 have ac:prodErr (Lib.itoa (Wm.sg n k)++112 :: Lib.itoa e)=0:=by
  unfold prodErr
  rw[ab,c2,c3,Wm.jS _ (by omega) (by omega),Wm.jS _ (by omega) (by omega),hr];rfl
 have aa:errW (Lib.itoa (Wm.sg n k)++112 :: Lib.itoa e)=0:=by unfold errW;rw[hl];exact ac
 refine⟨aa,?_⟩
 unfold outW
 rw[if_pos aa]
 unfold valW prodOf
 rw[hl,if_pos ac,c2,c3,Wm.jS _ (by omega) (by omega),Wm.jS _ (by omega) (by omega)]
 unfold Wm.prodVal
 rw[ad]
 have hd:decide (Wm.sg n k<0)=n:=by rw[ae];cases n <;> simp <;> omega
 rw[hd];rfl
theorem eE (b:Nat)(hb:b<Wm.W)(hn:Wm.nan b=false):errW (Wm.textW b)=0/\outW (Wm.textW b)=b:=by
 rcases kinds b hb with h | ⟨n,rfl⟩ | ⟨n,r,hf,rfl⟩ | ⟨n,rfl⟩
 ·rw[hn] at h;cases h
 ·cases n <;> exact⟨by decide +kernel,by decide +kernel⟩
 ·rw[ic n hf]
  obtain⟨s1,s2,s3,s4,s5⟩:=Wm.eT hf.1 hf.2
  have:=yv n s1 s2 s3 s4
  rw[s5] at this
  exact this
 ·cases n <;> exact⟨by decide +kernel,by decide +kernel⟩
theorem aat (b:Nat)(hb:b<Wm.W):(Wm.textW b).length<=100:=by
 rcases kinds b hb with h | ⟨n,rfl⟩ | ⟨n,r,hf,rfl⟩ | ⟨n,rfl⟩
 ·unfold Wm.textW;rw[h,if_pos rfl];decide
 ·cases n <;> decide +kernel
 ·rw[ic n hf]
  obtain⟨s1,s2,s3,s4,s5⟩:=Wm.eT hf.1 hf.2
  have aa:=Wm.aae n (Wm.kOf r)
  have h1:=Lib.itoa_length_le (Wm.sg n (Wm.kOf r)) (by omega) (by omega)
  have h2:=Lib.itoa_length_le (Wm.eOf r) (by omega) (by omega)
  unfold Wm.textF
  rw[List.length_append,List.length_cons];omega
 ·cases n <;> decide +kernel
end
section
open Go.RowKit
theorem acp (l:List UInt8):l=if Wm.sgnd l then 45 :: Wm.mgn l else Wm.mgn l:=by
 unfold Wm.mgn Wm.sgnd
 cases l with
 | nil=>rfl
 | cons c t =>
  by_cases hc:c=45
  ·subst hc;simp
  ·simp[hc]
theorem oU (l:List UInt8):Vm.has 112 l=Vm.has 112 (Wm.mgn l)/\Wm.mgn (Vm.fst 112 l)=Vm.fst 112 (Wm.mgn l)/\Wm.sgnd (Vm.fst 112 l)=Wm.sgnd l/\Vm.snd 112 l=Vm.snd 112 (Wm.mgn l):=by
 have hl:=acp l
 cases hs:Wm.sgnd l
 ·have hm:Wm.mgn l=l:=by unfold Wm.mgn;rw[hs];rfl
  rw[hm]
  have hf:Wm.sgnd (Vm.fst 112 l)=false:=by
   unfold Vm.fst Wm.sgnd at *
   cases l with
   | nil=>rfl
   | cons c t =>
    rw[List.takeWhile_cons]
    cases c != 112
    ·rfl
    ·exact hs
  refine⟨rfl,?_,hf,rfl⟩
  unfold Wm.mgn;rw[hf];rfl
 ·rw[hs] at hl
  simp only[if_true] at hl
  generalize Wm.mgn l=t at *
  subst hl
  have h1:Vm.fst 112 (45 :: t)=45 :: Vm.fst 112 t:=by unfold Vm.fst;rw[List.takeWhile_cons];rfl
  refine⟨?_,?_,?_,?_⟩
  ·unfold Vm.has;simp
  ·rw[h1];rfl
  ·rw[h1];rfl
  ·unfold Vm.snd;rw[List.dropWhile_cons];rfl
def refRange (m n:Nat) (neg:Bool):Bool:=decide (m<=9007199254740991)&&(decide (n<=5000)&&(decide (-1074<=Wm.sg neg n)&&decide ((m.log2:Int)+1+Wm.sg neg n<=1024)))
theorem mC (l:List UInt8):refRange (Vm.num (Wm.mgn (Vm.fst 112 l))) (Vm.num (Wm.mgn (Vm.snd 112 l))) (Wm.sgnd (Vm.snd 112 l))=Wm.rangeOk (Wm.nmb (Vm.fst 112 l)) (Wm.nmb (Vm.snd 112 l)):=by
 generalize Vm.fst 112 l=a
 generalize Vm.snd 112 l=b
 have aa:Wm.sg (Wm.sgnd b) (Vm.num (Wm.mgn b))=if Wm.sgnd b then -(Vm.num (Wm.mgn b):Int) else Vm.num (Wm.mgn b):=by unfold Wm.sg;cases Wm.sgnd b <;> simp
 unfold refRange
 rw[aa]
 unfold Wm.nmb
 generalize Vm.num (Wm.mgn a)=m at *
 generalize Vm.num (Wm.mgn b)=n at *
 by_cases hm:m<=9007199254740991
 ·rw[decide_eq_true hm,Bool.true_and]
  have hF:∀ g:Bool,(if g=true then (if m<=9223372036854775808 then -(m:Int) else -9223372036854775808) else (if m<9223372036854775808 then (m:Int) else 9223372036854775807))=if g then -(m:Int) else m:=by
   intro g;cases g <;> simp only[Bool.false_eq_true,if_false,if_true] <;> rw[if_pos (by omega)]
  rw[hF]
  rw[Wm.iB (by split <;> omega) (by split <;> omega)]
  have ab:(if Wm.sgnd a=true then -(m:Int) else m).natAbs=m:=by split <;> omega
  rw[ab]
  rw[Bool.eq_iff_iff]
  simp only[Bool.and_eq_true,decide_eq_true_eq]
  cases Wm.sgnd b
  ·simp only[Bool.false_eq_true,if_false]
   split <;> omega
  ·simp only[if_true]
   split <;> omega
 ·rw[decide_eq_false hm,Bool.false_and]
  symm
  cases Wm.sgnd a
  ·simp only[Bool.false_eq_true,if_false]
   exact Wm.oI (by split <;> omega)
  ·simp only[if_true]
   exact Wm.oH (by split <;> omega)
theorem qN (w:World)(T:TypeId)(x:Int)(b:UInt8)(hx:(b.toNat:Int)=x):(convert 101 9 (.slice (some ⟨w.heap.size,0,none⟩) 1 1)).run Tryz.prog (w.alloc (.cells #[.int .u8 x] T))=.ok (.string ⟨[b].toArray⟩) (w.alloc (.cells #[.int .u8 x] T)) :=
 run_convert_bytes_back (P:=Tryz.prog) _ _ _ _ _ 1 [b] Tryz.underlying101 Tryz.underlying5 Tryz.underlying9 (fun j hj=>by
  match j,hj with
  | 0,_ =>
   have h2:([b][0].toNat:Int)=x:=hx
   rw[h2]
   simp[Addr.add])
def dgt (n:Nat):UInt8:=UInt8.ofNat (48+n % 10)
theorem xg (n:Nat):(dgt n).toNat=48+n % 10:=by unfold dgt;rw[UInt8.toNat_ofNat'];omega
def DSt (n m:Nat) (d:List UInt8):Prop:=(if m<10 then d else Lib.decDigits (m / 10)++d)=Lib.decDigits n/\m<=n
theorem aau (n:Nat):DSt n n [dgt n]:=by
 refine⟨?_,Nat.le_refl _⟩
 unfold dgt
 split
 ·rename_i h;rw[Wm.ib h,show n % 10=n from by omega]
 ·rename_i h;rw[Wm.pM h]
theorem acq {n m:Nat}{d:List UInt8}(h:DSt n m d)(hm:10<=m):DSt n (m / 10) (dgt (m / 10) :: d):=by
 obtain⟨h1,h2⟩:=h
 refine⟨?_,by omega⟩
 rw[if_neg (by omega)] at h1
 rw[<-h1]
 unfold dgt
 split
 ·rename_i h3;rw[Wm.ib h3,show m / 10 % 10=m / 10 from by omega];rfl
 ·rename_i h3;conv=>rhs;rw[Wm.pM h3]
  rw[List.append_assoc];rfl
theorem adQ {n m:Nat}{d:List UInt8}(h:DSt n m d)(hn:n<18446744073709551616):d.length<=20:=by
 have h1:=congrArg List.length h.1
 have h2:(Lib.decDigits n).length<=20:=by rw[Lib.decDigits_length];exact Lib.nDigits_le20 n hn
 split at h1
 ·omega
 ·rw[List.length_append] at h1;omega
theorem eK (n:Nat)(hn:n<18446744073709551616)(w:World) :
  Calls Tryz.prog 91 #[.int .u64 n] w fun e w'=>e=.returned (.string ⟨(Lib.decDigits n).toArray⟩)/\Below w.heap.size w w':=by
 have ag:(0:Int)<=(n:Int):=by omega
 have HN:=zh hn
 clear hn
 go_enter Tryz.func91,Tryz.ntmps91
 have aa:=qN w 5 (48+(n:Int) % 10) (dgt n) (by rw[xg];omega)
 go_wp2_with fail
 have ac:=zh (aau n)
 have ad:Below w.heap.size w (w.alloc (.cells #[.int .u8 (48+(n:Int) % 10)] 5)):=(Below.refl _ _).alloc (Nat.le_refl _) _
 have ae:=zh ad
 clear aa ad
 go_loopw [0,3] (fun x s wr=>∃ (m:Nat) (d:List UInt8),x=.int .u64 m/\s=.string ⟨d.toArray⟩/\d.length<=20/\Hid (DSt n m d)/\Hid (Below w.heap.size w wr)) (fun x _ _=>(intOf x).toNat)
 case atStart=>exact⟨n,[dgt n],rfl,rfl,by simp,ac,ae⟩
 case round =>
  clear ac ae ag
  obtain⟨m,d,rfl,rfl,hd,HS,HB⟩:=hrel
  have aj:(0:Int)<=(m:Int):=by omega
  by_cases ah:10<=m
  ·have g1:(10:Int)<=(m:Int):=by omega
   have ab:=zh (acq HS.out ah)
   have af:=adQ ab.out HN.out
   have aa:=qN wr 5 (48+(m:Int) / 10 % 10) (dgt (m / 10)) (by rw[xg];omega)
   obtain⟨c,hc⟩:=ex (dgt (m / 10))
   rw[hc] at aa ab af
   have ak:IntKind.u64.wrap ((m:Int) / 10)=(m:Int) / 10:=IntWalk.u64_in _ (by have:=HS.out.2;have:=HN.out;omega)
   have al:(0:Int)<=(m:Int) / 10:=by omega
   have ai:Hid ((m:Int) / 10=((m / 10:Nat):Int)):=by show _=_;omega
   clear hc HS
   go_wp2_with fail
   go_roundw
   case rel=>exact⟨m / 10,c :: d,by rw[ai.out],congrArg Value.string (ByteArray.mk_append_mk [c] d),af,ab,HB.out.alloc HB.out.size _⟩
   case measure=>simp[intOf];omega
  ·go_wp2_with fail
   go_ret
   have h:=HS.out.1
   rw[if_pos (by omega)] at h
   exact⟨by rw[<-h];rfl,HB.out⟩
end
end Go.Proofs.YtpfkphmldalmmaaGreatDoor
