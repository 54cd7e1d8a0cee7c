/- Part 17 of what the laws lean on. -/
import Derived.Test.YtgnaiidgjmicaaaGreatDoorM16
set_option maxRecDepth 100000
set_option maxHeartbeats 1600000
namespace Go.Proofs.YtgnaiidgjmicaaaGreatDoor
section
open Go.RowKit Rs At Pg
attribute [local go_sem ↓] Go.wp_at_zero Go.wp_at_succ
theorem cm (k:Int)(w:World):Calls Tryz.prog 187 #[.int .i64 k] w fun e w'=>e=bB k/\w=w':=by
 by_cases hk:k=0
 ·subst hk
  go_enter Tryz.func187,Tryz.ntmps187
  go_wp2_with fail
  refine (ak _).mono ?_
  rintro _ z ⟨rfl,rfl⟩
  go_wp2_with fail
  go_end0
  exact⟨rfl,rfl⟩
 ·have d:(k==0)=false:=beq_eq_false_iff_ne.2 hk
  have HK:Hid (bB k=pan k):=a7 hk
  clear hk
  go_enter Tryz.func187,Tryz.ntmps187
  go_wp2_with fail
  refine (au _).mono ?_
  rintro _ z ⟨rfl,rfl⟩
  go_wp2_with fail
  exact⟨rfl,by rw[HK.out],rfl⟩
theorem eH (v:List UInt8)(w:World)(hw:MaxOk w):Calls Tryz.prog 184 #[.string ⟨v.toArray⟩] w fun e w'=>e=bB (verE v)/\Below w.heap.size w w':=by
 obtain⟨R,hR⟩:=ex (verE v)
 rw[hR]
 unfold verE at hR
 have HC:=zh (cQ v w hw)
 obtain⟨x,hx⟩:=ex (canonOf v)
 obtain⟨k,hk⟩:=ex (Vm.check v)
 rw[hx,hk] at HC
 rw[hk] at hR
 have HX:Hid (k=0->Vm.canon v=x):=fun h=>by rw[<-hx];unfold canonOf;rw[if_pos (hk.trans h)]
 clear hx hk hw
 by_cases h0:k=0
 ·subst h0
  rw[if_pos rfl,HX.out rfl] at hR
  by_cases hv:x=v
  ·rw[if_pos hv] at hR
   subst hR
   have e:(x==v)=true:=by simpa using hv
   clear hv
   go_enter Tryz.func184,Tryz.ntmps184
   go_wp2_with fail
   refine HC.out.mono ?_
   rintro _ u ⟨rfl,hb⟩
   have HB:=zh hb
   clear hb
   go_wp2_with fail
   refine (cm 0 _).mono ?_
   rintro _ z ⟨rfl,rfl⟩
   rw[a8]
   go_wp2_with fail
   refine (ak _).mono ?_
   rintro _ z ⟨rfl,rfl⟩
   go_wp2_with fail
   go_end0
   exact⟨rfl,HB.out⟩
  ·rw[if_neg hv] at hR
   subst hR
   have e:(x==v)=false:=beq_eq_false_iff_ne.2 hv
   clear hv
   go_enter Tryz.func184,Tryz.ntmps184
   go_wp2_with fail
   refine HC.out.mono ?_
   rintro _ u ⟨rfl,hb⟩
   have HB:=zh hb
   clear hb
   go_wp2_with fail
   refine (cm 0 _).mono ?_
   rintro _ z ⟨rfl,rfl⟩
   rw[a8]
   go_wp2_with fail
   refine (au _).mono ?_
   rintro _ z ⟨rfl,rfl⟩
   go_wp2_with fail
   exact⟨rfl,rfl,HB.out⟩
 ·rw[if_neg h0] at hR
  subst hR
  have HK:Hid (bB k=pan k):=a7 h0
  clear h0
  go_enter Tryz.func184,Tryz.ntmps184
  go_wp2_with fail
  refine HC.out.mono ?_
  rintro _ u ⟨rfl,hb⟩
  have HB:=zh hb
  clear hb
  go_wp2_with fail
  refine (cm k _).mono ?_
  rintro _ z ⟨rfl,rfl⟩
  rw[HK.out]
  go_wp2_with fail
  exact⟨rfl,by rw[HK.out],HB.out⟩
theorem Pg.aD {w W1 u:World}{a b:Value}{T:TypeId}(h1:w.alloc (.cells #[a,b] T)=W1)(hb:Below W1.heap.size W1 u):u.cell? ⟨w.heap.size,0,none⟩=some a/\u.cell? ⟨w.heap.size,1,none⟩=some b :=
 ⟨(cY h1 hb).1,(cY h1 hb).2.1⟩
theorem og (g:Gv)(w:World)(hw:MaxOk w)(hm:g.name.length<=maxLen):Calls Tryz.prog 186 #[.agg #[.string ⟨g.name.toArray⟩,.string ⟨g.ver.toArray⟩]] w fun e w'=>e=bB (giveE g)/\Below w.heap.size w w':=by
 obtain⟨nm,v⟩:=g
 dsimp only at hm ⊢
 obtain⟨R,hR⟩:=ex (giveE ⟨nm,v⟩)
 rw[hR]
 unfold giveE at hR
 dsimp only at hR
 obtain⟨W1,ac⟩:=ex (w.alloc (.cells #[.string ⟨nm.toArray⟩,.string ⟨v.toArray⟩] 135))
 have aa:Hid (Below w.heap.size w W1):=ai ac
 obtain⟨c0,c1⟩:=aD ac (Below.refl _ _)
 have HN:=zh (ft nm W1 hm)
 have HV:=zh (eH v W1 (ag hw aa.out))
 clear hw hm
 cases ab:nameB nm
 ·rw[ab] at hR HN
  rw[if_neg (by decide)] at hR
  subst hR
  clear HV ab
  go_enter Tryz.func186,Tryz.ntmps186
  go_wp2_with fail
  refine HN.out.mono ?_
  rintro _ z ⟨rfl,rfl⟩
  go_wp2_with fail
  refine (au _).mono ?_
  rintro _ z ⟨rfl,rfl⟩
  go_wp2_with fail
  exact⟨rfl,rfl,aa.out⟩
 ·rw[ab] at hR HN
  rw[if_pos rfl] at hR
  clear ab
  by_cases hv:v=[]
  ·rw[if_pos hv] at hR
   subst hR
   have e:(v==[])=true:=by rw[hv];rfl
   clear hv HV
   go_enter Tryz.func186,Tryz.ntmps186
   go_wp2_with fail
   refine HN.out.mono ?_
   rintro _ z ⟨rfl,rfl⟩
   go_wp2_with fail
   refine (ak _).mono ?_
   rintro _ z ⟨rfl,rfl⟩
   go_wp2_with fail
   go_end0
   exact⟨rfl,aa.out⟩
  ·rw[if_neg hv] at hR
   rw[hR] at HV
   have e:(v==[])=false:=beq_eq_false_iff_ne.2 hv
   clear hv hR
   by_cases h0:R=0
   ·subst h0
    go_enter Tryz.func186,Tryz.ntmps186
    go_wp2_with fail
    refine HN.out.mono ?_
    rintro _ z ⟨rfl,rfl⟩
    go_wp2_with fail
    refine (ak _).mono ?_
    rintro _ z ⟨rfl,rfl⟩
    go_wp2_with fail
    refine HV.out.mono ?_
    rintro _ u ⟨rfl,hb⟩
    have HB:=zh (bt aa.out hb)
    clear hb
    rw[a8]
    go_wp2_with fail
    go_end0
    exact⟨rfl,HB.out⟩
   ·have HK:Hid (bB R=pan R):=a7 h0
    clear h0
    go_enter Tryz.func186,Tryz.ntmps186
    go_wp2_with fail
    refine HN.out.mono ?_
    rintro _ z ⟨rfl,rfl⟩
    go_wp2_with fail
    refine (ak _).mono ?_
    rintro _ z ⟨rfl,rfl⟩
    go_wp2_with fail
    refine HV.out.mono ?_
    rintro _ u ⟨rfl,hb⟩
    have HB:=zh (bt aa.out hb)
    clear hb
    rw[HK.out]
    go_wp2_with fail
    exact⟨rfl,by rw[HK.out],HB.out⟩
theorem Pg.wA (a:Atm)(l:List Atm):atomsE (a :: l)=if checkA a=0 then atomsE l else checkA a:=rfl
theorem gO (A:Option Addr)(n c:Nat)(l:List Atm)(w:World)(hw:MaxOk w)(hn:l.length=n)(hr:ARow w A l)(hl:n<=1000000)(hf:AFew l) :
  Calls Tryz.prog 185 #[.slice A n c] w fun e w'=>e=bB (atomsE l)/\Below w.heap.size w w':=by
 obtain⟨R,hR⟩:=ex (atomsE l)
 rw[hR]
 have HM:=zh hw
 have HN:=zh hn
 have HR:=zh hr
 have HF:=zh hf
 have HG:=zh hR
 clear hw hn hr hf hR
 go_enter Tryz.func185,Tryz.ntmps185
 go_wp2_with fail
 go_loopw [6] (fun i wr=>∃ k:Nat,k<=n/\i=.int .i64 k/\Hid (atomsE (l.drop k)=R)/\Hid (Below w.heap.size w wr)) (fun i _=>n-(intOf i).toNat)
 case atStart=>exact⟨0,Nat.zero_le _,rfl,HG.out,Below.refl _ _⟩
 case round =>
  obtain⟨k,hk,rfl,HH,HW⟩:=hrel
  by_cases ae:k<n
  ·have ab:k<l.length:=by rw[HN.out];exact ae
   obtain⟨ad,C,m,d,rfl,hm,hs,hc⟩:=dm HR.out k ab
   obtain⟨c0,c1⟩:=hc _ HW.out
   have hd:l.drop k=l[k] :: l.drop (k+1):=List.drop_eq_getElem_cons ab
   obtain⟨f1,f2⟩:=jg HF.out k ab
   have hh:=HH.out
   rw[hd,wA] at hh
   obtain⟨a,ha⟩:=ex (l[k])
   rw[ha] at c0 hm hs f1 f2 hh
   obtain⟨nm,rg⟩:=a
   dsimp only at c0 hm hs f1 f2
   obtain⟨V,hV⟩:=ex (wr.alloc (.cells #[.string ⟨nm.toArray⟩,.slice C m d] 51))
   have aa:Hid (Below w.heap.size w V):=HW.out.trans ((ai hV).mono HW.out.size)
   obtain⟨v0,v1⟩:=aD hV (Below.refl _ _)
   have ac:=zh (rD nm C m d rg V (ag HM.out aa.out) f1 hm (ao hs aa.out) (by rw[<-hm];exact f2))
   obtain⟨x,hx⟩:=ex (checkA ⟨nm,rg⟩)
   rw[hx] at hh ac
   clear hc hd ha hs f1 f2 hx hm
   by_cases h0:x=0
   ·subst h0
    have HE:Hid (atomsE (l.drop (k+1))=R):=by rw[if_pos rfl] at hh;exact hh
    clear hh
    go_wp2_with fail
    clear hV
    refine ac.out.mono ?_
    rintro _ u ⟨rfl,hb⟩
    have HB:=zh (bt aa.out hb)
    clear hb
    go_wp2_with fail
    refine (cm 0 _).mono ?_
    rintro _ z ⟨rfl,rfl⟩
    rw[a8]
    go_wp2_with fail
    go_roundw
    case rel=>exact⟨k+1,by omega,by go_num,HE,HB.out⟩
    case measure=>simp[intOf];omega
   ·have HE:Hid (x=R):=by rw[if_neg h0] at hh;exact hh
    have HK:Hid (bB x=pan x):=a7 h0
    clear hh h0
    go_wp2_with fail
    clear hV
    refine ac.out.mono ?_
    rintro _ u ⟨rfl,hb⟩
    have HB:=zh (bt aa.out hb)
    clear hb
    go_wp2_with fail
    refine (cm x _).mono ?_
    rintro _ z ⟨rfl,rfl⟩
    rw[HK.out]
    go_wp2_with fail
    exact⟨rfl,by rw[<-HE.out,HK.out],HB.out⟩
  ·obtain rfl:k=n:=by omega
   have HE:Hid (R=0):=by show _=_;rw[<-HH.out,List.drop_eq_nil_of_le (by rw[HN.out];exact Nat.le_refl _)];rfl
   go_wp2_with fail
   go_end0
   exact⟨by rw[HE.out];rfl,HW.out⟩
end
section
open Go.RowKit Rs At Pg
namespace Pg
theorem aw {w W1 u:World}{a b c d e f:Value}{T:TypeId}(h1:w.alloc (.cells #[a,b,c,d,e,f] T)=W1)(hb:Below W1.heap.size W1 u) :
  u.cell? ⟨w.heap.size,0,none⟩=some a/\u.cell? ⟨w.heap.size,1,none⟩=some b/\u.cell? ⟨w.heap.size,2,none⟩=some c/\u.cell? ⟨w.heap.size,3,none⟩=some d/\u.cell? ⟨w.heap.size,4,none⟩=some e/\u.cell? ⟨w.heap.size,5,none⟩=some f:=by
 subst h1
 have h:u.heap[w.heap.size]?=some (.cells #[a,b,c,d,e,f] T (0,0)):=(hb.block _ (by simp)).trans (heap_alloc_new w _)
 refine⟨?_,?_,?_,?_,?_,?_⟩ <;> simp[World.cell?,h]
def DFew (t:List (List Atm)):Prop:=∀ l∈t,l.length<=1000000/\AFew l
theorem pC {t:List (List Atm)}(h:DFew t)(k:Nat)(hk:k<t.length):t[k].length<=1000000/\AFew t[k]:=h _ (List.getElem_mem hk)
def PFew (p:Pk):Prop:=p.name.length<=maxLen/\p.deps.length<=1000000/\DFew p.deps/\p.confl.length<=1000000/\AFew p.confl/\p.prov.length<=1000000/\GFew p.prov/\p.wt<Wm.W
theorem oh (d:List Atm)(l:List (List Atm)):depsE (d :: l)=if 1<=d.length/\d.length<=8 then (if atomsE d=0 then depsE l else atomsE d) else 4:=rfl
theorem ml (g:Gv)(l:List Gv):givesE (g :: l)=if giveE g=0 then givesE l else giveE g:=rfl
end Pg
attribute [local go_sem ↓] Go.wp_at_zero Go.wp_at_succ
theorem pD (p:Pk)(D C G:Option Addr)(dn dc cn cc gn gc:Nat)(w:World)(hw:MaxOk w)(hd:Pg.DRow w D p.deps)(hdn:p.deps.length=dn)(hc:ARow w C p.confl)(hcn:p.confl.length=cn)(hg:GRow w G p.prov)(hgn:p.prov.length=gn)(hf:PFew p) :
  Calls Tryz.prog 147 #[.agg #[.string ⟨p.name.toArray⟩,.string ⟨p.ver.toArray⟩,.slice D dn dc,.slice C cn cc,.slice G gn gc,.float .f64 p.wt]] w fun e w'=>e=bB (checkP p)/\Below w.heap.size w w':=by
 obtain⟨nm,v,deps,confl,prov,wt⟩:=p
 dsimp only at hd hdn hc hcn hg hgn ⊢
 obtain⟨f1,f2,f3,f4,f5,f6,f7,f8⟩:=hf
 dsimp only at f1 f2 f3 f4 f5 f6 f7 f8
 obtain⟨R,hR⟩:=ex (checkP ⟨nm,v,deps,confl,prov,wt⟩)
 rw[hR]
 unfold checkP at hR
 dsimp only at hR
 obtain⟨x1,ap⟩:=ex (verE v)
 obtain⟨x2,aq⟩:=ex (depsE deps)
 obtain⟨x3,ar⟩:=ex (atomsE confl)
 obtain⟨x4,av⟩:=ex (givesE prov)
 obtain⟨x5,ax⟩:=ex (chkW wt)
 rw[ap,aq,ar,av,ax,hdn,hcn,hgn] at hR
 have aR:dn<=1000000:=by omega
 have aI:cn<=1000000:=by omega
 have aS:gn<=1000000:=by omega
 obtain⟨W1,an⟩:=ex (w.alloc (.cells #[.string ⟨nm.toArray⟩,.string ⟨v.toArray⟩,.slice D dn dc,.slice C cn cc,.slice G gn gc,.float .f64 wt] 68))
 have ae:Hid (Below w.heap.size w W1):=ai an
 have al:=zh an
 have HM:=zh (ag hw ae.out)
 have HD:=zh hd
 have aA:=zh hdn
 have HC:=zh hc
 have aJ:=zh hcn
 have HG:=zh hg
 have aB:=zh hgn
 have aK:=zh f3
 have aL:=zh f5
 have aM:=zh f7
 have aN:=zh f8
 have aC:=zh aq
 have aO:=zh ar
 have aE:=zh av
 have aF:=zh ax
 have HN:=zh (ft nm W1 f1)
 have HV:=zh (eH v W1 HM.out)
 rw[ap] at HV
 have aa:=zh hR
 clear hw hd hdn hc hcn hg hgn f1 f2 f3 f4 f5 f6 f7 f8 ap aq ar av ax hR
 obtain⟨c0,c1,c2,c3,c4,c5⟩:=aw an (Below.refl _ _)
 clear c2 c3 c4 c5
 go_enter Tryz.func147,Tryz.ntmps147
 go_wp2_with fail
 clear an
 refine HN.out.mono ?_
 rintro _ z ⟨rfl,rfl⟩
 have hR:=aa.out
 cases am:nameB nm
 ·rw[am,if_pos rfl] at hR
  have HE:=zh hR
  clear am hR
  go_wp2_with fail
  refine (au _).mono ?_
  rintro _ z ⟨rfl,rfl⟩
  go_wp2_with fail
  exact⟨rfl,by rw[<-HE.out];rfl,ae.out⟩
 rw[am,if_neg (by decide)] at hR
 clear am aa HN
 have aa:=zh hR
 clear hR
 go_wp2_with fail
 refine (ak _).mono ?_
 rintro _ z ⟨rfl,rfl⟩
 go_wp2_with fail
 refine HV.out.mono ?_
 clear HV
 rintro _ u ⟨rfl,hb⟩
 have HU:=zh hb
 have ab:Hid (Below w.heap.size w u):=bt ae.out hb
 clear hb c0 c1
 by_cases h1:x1=0
 case neg =>
  have hR:=aa.out
  rw[if_pos h1] at hR
  have HE:=zh hR
  have HK:Hid (bB x1=pan x1):=a7 h1
  clear hR h1
  rw[HK.out]
  go_wp2_with fail
  exact⟨rfl,by rw[<-HE.out,HK.out],ab.out⟩
 have hR:=aa.out
 subst h1
 rw[if_neg (by simp)] at hR
 clear aa
 have aa:=zh hR
 clear hR
 rw[a8]
 obtain⟨c0,c1,c2,c3,c4,c5⟩:=aw al.out HU.out
 clear c0 c1 c3 c4 c5
 by_cases aT:dn<=16
 case neg =>
  have hR:=aa.out
  rw[if_pos (by omega)] at hR
  have HE:=zh hR
  have d1:decide ((dn:Int)<=16)=false:=decide_eq_false (by omega)
  clear hR
  go_wp2_with fail
  refine (au _).mono ?_
  rintro _ z ⟨rfl,rfl⟩
  go_wp2_with fail
  exact⟨rfl,by rw[<-HE.out];rfl,ab.out⟩
 have hR:=aa.out
 rw[if_neg (by omega)] at hR
 clear aa
 have aa:=zh hR
 have d1:decide ((dn:Int)<=16)=true:=decide_eq_true (by omega)
 clear hR
 go_wp2_with fail
 refine (ak _).mono ?_
 rintro _ z ⟨rfl,rfl⟩
 go_wp2_with fail
 go_loopw [21] (fun i wr=>∃ k:Nat,k<=dn/\i=.int .i64 k/\Hid (depsE (deps.drop k)=x2)/\Hid (Below W1.heap.size W1 wr)) (fun i _=>dn-(intOf i).toNat)
 case atStart=>exact⟨0,Nat.zero_le _,rfl,aC.out,HU.out⟩
 case round =>
  clear c2 HU ab
  obtain⟨k,hk,rfl,HH,HW⟩:=hrel
  have ac:Hid (Below w.heap.size w wr):=bt ae.out HW.out
  by_cases ao:k<dn
  ·have af:k<deps.length:=by rw[aA.out];exact ao
   obtain⟨ad,B,m,d,rfl,hm,hs,hc⟩:=dB HD.out k af
   have c0:=hc _ ac.out
   have ah:deps.drop k=deps[k] :: deps.drop (k+1):=List.drop_eq_getElem_cons af
   obtain⟨f1,f2⟩:=pC aK.out k af
   have hh:=HH.out
   rw[ah,oh] at hh
   obtain⟨l,hl⟩:=ex (deps[k])
   rw[hl] at hm hs f1 f2 hh
   rw[hm] at hh
   have HS:=zh hs
   have aG:=zh hm
   have aP:=zh f1
   have aQ:=zh f2
   clear hc ah hl f1 f2 hs hm
   by_cases aU:1<=m
   case neg =>
    rw[if_neg (by omega)] at hh
    have hR:=aa.out
    rw[<-hh,if_pos (by decide)] at hR
    have HE:=zh hR
    have d2:decide (1<=(m:Int))=false:=decide_eq_false (by omega)
    clear hR hh
    go_wp2_with fail
    refine (au _).mono ?_
    rintro _ z ⟨rfl,rfl⟩
    go_wp2_with fail
    exact⟨rfl,by rw[<-HE.out];rfl,ac.out⟩
   have d2:decide (1<=(m:Int))=true:=decide_eq_true (by omega)
   by_cases aV:m<=8
   case neg =>
    rw[if_neg (by omega)] at hh
    have hR:=aa.out
    rw[<-hh,if_pos (by decide)] at hR
    have HE:=zh hR
    have d3:decide ((m:Int)<=8)=false:=decide_eq_false (by omega)
    clear hR hh
    go_wp2_with fail
    refine (au _).mono ?_
    rintro _ z ⟨rfl,rfl⟩
    go_wp2_with fail
    exact⟨rfl,by rw[<-HE.out];rfl,ac.out⟩
   have d3:decide ((m:Int)<=8)=true:=decide_eq_true (by omega)
   rw[if_pos (by omega)] at hh
   obtain⟨y,hy⟩:=ex (atomsE l)
   have HA:=zh (gO B m d l wr (ag HM.out HW.out) aG.out (ay HS.out ac.out) (by rw[<-aG.out];exact aP.out) aQ.out)
   rw[hy] at HA hh
   have aj:=zh hh
   clear hh hy
   go_wp2_with fail
   refine (ak _).mono ?_
   rintro _ z ⟨rfl,rfl⟩
   go_wp2_with fail
   refine HA.out.mono ?_
   rintro _ u2 ⟨rfl,hb⟩
   have HU:=zh (bt HW.out hb)
   have ab:Hid (Below w.heap.size w u2):=bt ae.out HU.out
   clear hb c0 HA
   by_cases h0:y=0
   ·subst h0
    have HE:Hid (depsE (deps.drop (k+1))=x2):=by have:=aj.out;rw[if_pos rfl] at this;exact this
    rw[a8]
    go_wp2_with fail
    go_roundw
    case rel=>exact⟨k+1,by omega,by go_num,HE,HU.out⟩
    case measure=>simp[intOf];omega
   ·have hh:=aj.out
    rw[if_neg h0] at hh
    have hR:=aa.out
    rw[<-hh,if_pos h0] at hR
    have HE:=zh hR
    have HK:Hid (bB y=pan y):=a7 h0
    clear hR h0 hh
    rw[HK.out]
    go_wp2_with fail
    exact⟨rfl,by rw[<-HE.out,HK.out],ab.out⟩
  ·obtain rfl:k=dn:=by omega
   have h2:0=x2:=by rw[<-HH.out,List.drop_eq_nil_of_le (by rw[aA.out];exact Nat.le_refl _)];rfl
   have hR:=aa.out
   rw[<-h2,if_neg (by simp)] at hR
   clear aa HH aC h2
   have aa:=zh hR
   clear hR
   obtain⟨c0,c1,c2,c3,c4,c5⟩:=aw al.out HW.out
   clear c0 c1 c2 c4 c5
   by_cases aW:cn<=16
   case neg =>
    have hR:=aa.out
    rw[if_pos (by omega)] at hR
    have HE:=zh hR
    have d2:decide ((cn:Int)<=16)=false:=decide_eq_false (by omega)
    clear hR
    go_wp2_with fail
    refine (au _).mono ?_
    rintro _ z ⟨rfl,rfl⟩
    go_wp2_with fail
    exact⟨rfl,by rw[<-HE.out];rfl,ac.out⟩
   have hR:=aa.out
   rw[if_neg (by omega)] at hR
   clear aa
   have aa:=zh hR
   have d2:decide ((cn:Int)<=16)=true:=decide_eq_true (by omega)
   clear hR
   have HA:=zh (gO C cn cc confl wr (ag HM.out HW.out) aJ.out (ay HC.out ac.out) aI aL.out)
   rw[aO.out] at HA
   go_wp2_with fail
   refine (ak _).mono ?_
   rintro _ z ⟨rfl,rfl⟩
   go_wp2_with fail
   refine HA.out.mono ?_
   rintro _ u2 ⟨rfl,hb⟩
   have HU:=zh (bt HW.out hb)
   have ab:Hid (Below w.heap.size w u2):=bt ae.out HU.out
   clear hb c3 HA HW ac
   by_cases h3:x3=0
   case neg =>
    have hR:=aa.out
    rw[if_pos h3] at hR
    have HE:=zh hR
    have HK:Hid (bB x3=pan x3):=a7 h3
    clear hR h3
    rw[HK.out]
    go_wp2_with fail
    exact⟨rfl,by rw[<-HE.out,HK.out],ab.out⟩
   have hR:=aa.out
   rw[if_neg (by simp[h3])] at hR
   rw[h3,a8]
   clear aa h3
   have aa:=zh hR
   clear hR
   obtain⟨c0,c1,c2,c3,c4,c5⟩:=aw al.out HU.out
   clear c0 c1 c2 c3 c5
   by_cases aX:gn<=16
   case neg =>
    have hR:=aa.out
    rw[if_pos (by omega)] at hR
    have HE:=zh hR
    have d3:decide ((gn:Int)<=16)=false:=decide_eq_false (by omega)
    clear hR
    go_wp2_with fail
    refine (au _).mono ?_
    rintro _ z ⟨rfl,rfl⟩
    go_wp2_with fail
    exact⟨rfl,by rw[<-HE.out];rfl,ab.out⟩
   have hR:=aa.out
   rw[if_neg (by omega)] at hR
   clear aa
   have aa:=zh hR
   have d3:decide ((gn:Int)<=16)=true:=decide_eq_true (by omega)
   clear hR
   go_wp2_with fail
   refine (ak _).mono ?_
   rintro _ z ⟨rfl,rfl⟩
   go_wp2_with fail
   go_loopw [53] (fun i wr=>∃ k:Nat,k<=gn/\i=.int .i64 k/\Hid (givesE (prov.drop k)=x4)/\Hid (Below W1.heap.size W1 wr)) (fun i _=>gn-(intOf i).toNat)
   case atStart=>exact⟨0,Nat.zero_le _,rfl,aE.out,HU.out⟩
   case round =>
    clear c4 HU ab
    obtain⟨k,hk,rfl,HH,HW⟩:=hrel
    have ac:Hid (Below w.heap.size w wr):=bt ae.out HW.out
    by_cases ao:k<gn
    ·have af:k<prov.length:=by rw[aB.out];exact ao
     obtain⟨ad,rfl,hc⟩:=dJ HG.out k af
     obtain⟨c0,c1⟩:=hc _ ac.out
     have ah:prov.drop k=prov[k] :: prov.drop (k+1):=List.drop_eq_getElem_cons af
     obtain⟨f1,f2⟩:=xM aM.out k af
     have hh:=HH.out
     rw[ah,ml] at hh
     obtain⟨a,ha⟩:=ex (prov[k])
     rw[ha] at c0 c1 f1 hh
     obtain⟨az,gv⟩:=a
     dsimp only at c0 c1 f1
     obtain⟨V,hV⟩:=ex (wr.alloc (.cells #[.string ⟨az.toArray⟩,.string ⟨gv.toArray⟩] 135))
     have aH:Hid (Below W1.heap.size W1 V):=HW.out.trans ((ai hV).mono HW.out.size)
     obtain⟨v0,v1⟩:=aD hV (Below.refl _ _)
     have HA:=zh (og ⟨az,gv⟩ V (ag HM.out aH.out) f1)
     obtain⟨y,hy⟩:=ex (giveE ⟨az,gv⟩)
     rw[hy] at HA hh
     have aj:=zh hh
     clear hc ah ha f1 f2 hh hy
     go_wp2_with fail
     clear hV
     refine HA.out.mono ?_
     rintro _ u2 ⟨rfl,hb⟩
     have HU:=zh (bt aH.out hb)
     have ab:Hid (Below w.heap.size w u2):=bt ae.out HU.out
     clear hb c0 c1 v0 v1 HA
     by_cases h0:y=0
     ·subst h0
      have HE:Hid (givesE (prov.drop (k+1))=x4):=by have:=aj.out;rw[if_pos rfl] at this;exact this
      rw[a8]
      go_wp2_with fail
      go_roundw
      case rel=>exact⟨k+1,by omega,by go_num,HE,HU.out⟩
      case measure=>simp[intOf];omega
     ·have hh:=aj.out
      rw[if_neg h0] at hh
      have hR:=aa.out
      rw[<-hh,if_pos h0] at hR
      have HE:=zh hR
      have HK:Hid (bB y=pan y):=a7 h0
      clear hR h0 hh
      rw[HK.out]
      go_wp2_with fail
      exact⟨rfl,by rw[<-HE.out,HK.out],ab.out⟩
    ·obtain rfl:k=gn:=by omega
     have h2:0=x4:=by rw[<-HH.out,List.drop_eq_nil_of_le (by rw[aB.out];exact Nat.le_refl _)];rfl
     have hR:=aa.out
     rw[<-h2,if_neg (by simp)] at hR
     clear aa HH aE h2
     have HR:=zh hR
     clear hR
     obtain⟨c0,c1,c2,c3,c4,c5⟩:=aw al.out HW.out
     clear c0 c1 c2 c3 c4
     have HA:=zh (xL wt aN.out wr)
     rw[aF.out,HR.out] at HA
     clear aF HR
     go_wp2_with fail
     refine HA.out.mono ?_
     rintro _ u2 ⟨rfl,rfl⟩
     go_wp2_with fail
     refine (cm R _).mono ?_
     rintro _ u2 ⟨rfl,rfl⟩
     by_cases h0:R=0
     ·subst h0
      rw[a8]
      go_wp2_with fail
      go_end0
      exact⟨rfl,ac.out⟩
     ·have HK:Hid (bB R=pan R):=a7 h0
      clear h0
      rw[HK.out]
      go_wp2_with fail
      exact⟨rfl,by rw[HK.out],ac.out⟩
end
section
open Go.RowKit Rs At Pg
theorem tY (p:Addr)(x:Int)(n:Int)(w:World)(hc:w.cell? p=some (.int .i64 x))(hz:w.frozen? p=false) :
  CallsD Tryz.prog 146 #[.pointer (some p)] (.panicking [{ v:=.iface 77 (.int .i64 n),recovered:=false }]) w fun e u' w' =>
   e=.returned (.tuple #[])/\u'=.panicking [{ v:=.iface 77 (.int .i64 n),recovered:=true }]/\w'=w.setCell p (.int .i64 n):=by
 refine callsD_of_wpS Tryz.func146 rfl fun c₀ cs hu=>?_
 apply wpS_region
 simp[wpOpsS,go_sem,recoverD,hu,Tryz.ntmps146]
 refine (bU n _).mono ?_
 rintro e w' ⟨rfl,rfl⟩
 simp[go_sem,hc,hz,bodyPostS,results,Tryz.results146]
theorem wB (p:Addr)(x:Int)(w:World)(hc:w.cell? p=some (.int .i64 x))(hz:w.frozen? p=false) :
  CallsD Tryz.prog 146 #[.pointer (some p)] .returning w fun e u' w'=>e=.returned (.tuple #[])/\u'=.returning/\w'=w.setCell p (.int .i64 0):=by
 refine callsD_of_wpS Tryz.func146 rfl fun c₀ cs hu=>?_
 apply wpS_region
 simp[wpOpsS,go_sem,recoverD,hu,Tryz.ntmps146]
 refine (bT _).mono ?_
 rintro e w' ⟨rfl,rfl⟩
 cases c₀
 simp_all [go_sem,bodyPostS,results,Tryz.results146]
attribute [local go_sem ↓] Go.wp_at_zero Go.wp_at_succ
theorem tZ (p:Pk)(D C G:Option Addr)(dn dc cn cc gn gc:Nat)(w:World)(hw:MaxOk w)(hd:Pg.DRow w D p.deps)(hdn:p.deps.length=dn)(hc:ARow w C p.confl)(hcn:p.confl.length=cn)(hg:GRow w G p.prov)(hgn:p.prov.length=gn)(hf:PFew p) :
  Calls Tryz.prog 109 #[.agg #[.string ⟨p.name.toArray⟩,.string ⟨p.ver.toArray⟩,.slice D dn dc,.slice C cn cc,.slice G gn gc,.float .f64 p.wt]] w fun e w'=>e=.returned (.int .i64 (checkP p))/\Below w.heap.size w w':=by
 have ap:∀ (fn:Fn) (first cap:Array Value) (w:World),(Instr.makeFunc fn first cap).run Tryz.prog w=.ok (.func fn first cap) w:=fun _ _ _ _=>rfl
 obtain⟨K,hK⟩:=ex (checkP p)
 rw[hK]
 obtain⟨W1,ad⟩:=ex (w.alloc (.cells #[.string ⟨p.name.toArray⟩,.string ⟨p.ver.toArray⟩,.slice D dn dc,.slice C cn cc,.slice G gn gc,.float .f64 p.wt] 68))
 have am:=zh (ai ad)
 have af:W1.heap.size=w.heap.size+1:=by rw[<-ad];simp
 obtain⟨W2,ae⟩:=ex (W1.alloc (.cells #[.int .i64 0] 77))
 have ah:=zh (ai ae)
 have ac:Hid (Below w.heap.size w W2):=bt am.out ah.out
 have HR:=zh (pD p D C G dn dc cn cc gn gc W2 (ag hw ac.out) (aJ hd ac.out) hdn (ay hc ac.out) hcn (Rg.aj hg ac.out) hgn hf)
 rw[hK] at HR
 obtain⟨k0,k1,k2,k3,k4,k5⟩:=aw ad ah.out
 have an:=zh ae
 clear hw hd hdn hc hcn hg hgn hf hK
 go_enter_defers Tryz.func109,Tryz.ntmps109
 go_wp2_with fail
 have ao:=zh af
 clear ad ae af
 refine HR.out.mono ?_
 rintro _ w1 ⟨rfl,hb⟩
 have ak:Below (W1.heap.size+1) (W1.alloc (.cells #[.int .i64 0] 77)) w1:=by have h:=hb;rw[<-an.out] at h;simpa using h
 obtain⟨aa,ab⟩:=bj W1 w1 _ _ ak
 have al:Hid (Below w.heap.size w w1):=bt ac.out hb
 rw[ao.out] at aa ab
 clear hb ak k0 k1 k2 k3 k4 k5 HR
 by_cases hk:K=0
 ·subst hk
  rw[a8]
  go_wp2_with fail
  refine leaves_cons (f:=146) (args:=#[.pointer (some ⟨w.heap.size+1,0,none⟩)]) (by simp) (by simp[go_sem]) ?_
  refine (wB ⟨w.heap.size+1,0,none⟩ 0 _ ?_ ?_).mono ?_
  ·simp[go_sem,aa]
  ·simp[go_sem,ab]
  rintro e u' w3 ⟨rfl,rfl,rfl⟩
  simp[Leaves,settle,results,Tryz.results109,go_sem,aa]
  exact (al.out.setCell (Nat.le_succ _) _).setCell (Nat.le_succ _) _
 ·rw[a7 hk]
  go_wp2_with fail
  refine leaves_cons (f:=146) (args:=#[.pointer (some ⟨w.heap.size+1,0,none⟩)]) (by simp) (by simp[go_sem]) ?_
  refine (tY ⟨w.heap.size+1,0,none⟩ 0 _ _ ?_ ?_).mono ?_
  ·simp[go_sem,aa]
  ·simp[go_sem,ab]
  rintro e u' w3 ⟨rfl,rfl,rfl⟩
  simp[Leaves,settle,results,Tryz.results109,go_sem,aa]
  exact al.out.setCell (Nat.le_succ _) _
end
section
open Go.RowKit Rs At Pg
attribute [local go_sem ↓] Go.wp_at_zero Go.wp_at_succ
theorem wC (A B:Option Addr)(n m c d:Nat)(l k:List Atm)(w:World)(hn:l.length=n)(hm:k.length=m)(hr:ARow w A l)(hq:ARow w B k)(hl:n<=1000000)(hf:AFew l)(hg:AFew k) :
  Calls Tryz.prog 115 #[.slice A n c,.slice B m d,.func (.func 116) #[] #[]] w fun e w'=>e=.returned (.bool (decide (l=k)))/\Below w.heap.size w w':=by
 obtain⟨X,hX⟩:=ex (decide (l=k))
 rw[hX]
 have HX:=zh hX
 have HR:=zh hr
 have HQ:=zh hq
 have HN:=zh hn
 have HM:=zh hm
 have HF:=zh hf
 have HG:=zh hg
 clear hX hr hq hn hm hf hg
 by_cases hlen:n=m
 ·have hd:((n:Int) != m)=false:=by rw[hlen];simp
  have HL:=zh hlen
  clear hlen
  go_enter Tryz.func115,Tryz.ntmps115
  go_wp2_with fail
  clear hd
  go_loopw [17] (fun i wr=>∃ j:Nat,j<=n/\i=.int .i64 j/\Hid (l.take j=k.take j)/\Hid (Below w.heap.size w wr)) (fun i _=>n-(intOf i).toNat)
  case atStart=>exact⟨0,Nat.zero_le _,rfl,rfl,Below.refl _ _⟩
  case round =>
   obtain⟨j,hj,rfl,HT,HW⟩:=hrel
   by_cases aj:j<n
   ·have ac:j<m:=by have:=HL.out;omega
    have h1:j<l.length:=by rw[HN.out];exact aj
    have h2:j<k.length:=by rw[HM.out];exact ac
    obtain⟨ad,C,x,cx,rfl,hx,hs,hc⟩:=dm HR.out j h1
    obtain⟨ae,C',y,cy,rfl,hy,ht,he⟩:=dm HQ.out j h2
    obtain⟨f1,f2⟩:=jg HF.out j h1
    obtain⟨g1,g2⟩:=jg HG.out j h2
    have aa:Hid (l[j]=k[j]->l.take (j+1)=k.take (j+1)):=fun q=>by
     rw[List.take_succ_eq_append_getElem h1,List.take_succ_eq_append_getElem h2,HT.out,q]
    have ab:Hid (l[j]≠k[j]->X=false):=fun q=>by
     rw[<-HX.out];exact decide_eq_false fun h=>q (by subst h;rfl)
    obtain⟨a,ha⟩:=ex (l[j])
    obtain⟨b,hb⟩:=ex (k[j])
    rw[ha] at hx hs f2
    rw[hb] at hy ht g2
    rw[ha,hb] at aa ab
    obtain⟨c0,c1⟩:=hc _ HW.out
    rw[ha] at c0
    obtain⟨na,ra⟩:=a
    obtain⟨nb,rb⟩:=b
    dsimp only at hx hs f2 hy ht g2 c0
    obtain⟨V,hV⟩:=ex (wr.alloc (.cells #[.string ⟨na.toArray⟩,.slice C x cx] 51))
    have af:Hid (Below w.heap.size w V):=HW.out.trans ((ai hV).mono HW.out.size)
    obtain⟨e0,e1⟩:=he _ af.out
    rw[hb] at e0
    dsimp only at e0
    obtain⟨U,hU⟩:=ex (V.alloc (.cells #[.string ⟨nb.toArray⟩,.slice C' y cy] 51))
    have ag:Hid (Below w.heap.size w U):=af.out.trans ((ai hU).mono af.out.size)
    obtain⟨u0,u1⟩:=aD hV (ai hU)
    obtain⟨u2,u3⟩:=aD hU (Below.refl _ _)
    have HS:=zh (kP na nb C C' x y cx cy ra rb U hx hy (ao hs ag.out) (ao ht ag.out) (by omega) (by omega))
    clear hc he ha hb hx hs f1 f2 hy ht g1 g2 h1 h2
    go_wp2_with fail
    clear hV hU
    refine HS.out.mono ?_
    rintro _ u ⟨rfl,hb⟩
    have HU:Hid (Below w.heap.size w u):=bt ag.out hb
    clear hb HS c0 c1 e0 e1 u0 u1 u2 u3
    by_cases hq:(⟨na,ra⟩:Atm)=⟨nb,rb⟩
    ·rw[decide_eq_true hq]
     have ak:=zh (aa.out hq)
     clear aa ab hq
     go_wp2_with fail
     go_roundw
     case rel=>exact⟨j+1,by omega,by go_num,ak.out,HU.out⟩
     case measure=>simp[intOf];omega
    ·rw[decide_eq_false hq]
     have ah:=zh (ab.out hq)
     clear aa ab hq
     go_wp2_with fail
     go_ret
     exact⟨by rw[ah.out];rfl,HU.out⟩
   ·obtain rfl:j=n:=by omega
    have al:Hid (X=true):=by
     show _=_
     have:=HT.out
     rw[List.take_of_length_le (by rw[HN.out];exact Nat.le_refl _),List.take_of_length_le (by rw[HM.out,HL.out];exact Nat.le_refl _)] at this
     rw[<-HX.out];exact decide_eq_true this
    clear HT
    go_wp2_with fail
    go_ret
    exact⟨by rw[al.out];rfl,HW.out⟩
 ·have hd:((n:Int) != m)=true:=by simp;omega
  have ah:Hid (X=false):=by show _=_;rw[<-HX.out];exact decide_eq_false fun h=>hlen (by rw[<-HN.out,<-HM.out,h])
  go_enter Tryz.func115,Tryz.ntmps115
  go_wp2_with fail
  go_ret
  exact⟨by rw[ah.out];rfl,Below.refl _ _⟩
theorem aaX (A B:Option Addr)(n m c d:Nat)(l k:List Atm)(w:World)(hn:l.length=n)(hm:k.length=m)(hr:ARow w A l)(hq:ARow w B k)(hl:n<=1000000)(hf:AFew l)(hg:AFew k) :
  Calls Tryz.prog 156 #[.slice A n c,.slice B m d,.func (.func 116) #[] #[]] w fun e w'=>e=.returned (.bool (decide (l=k)))/\Below w.heap.size w w':=by
 obtain⟨X,hX⟩:=ex (decide (l=k))
 rw[hX]
 have HX:=zh hX
 have HR:=zh hr
 have HQ:=zh hq
 have HN:=zh hn
 have HM:=zh hm
 have HF:=zh hf
 have HG:=zh hg
 clear hX hr hq hn hm hf hg
 by_cases hlen:n=m
 ·have hd:((n:Int) != m)=false:=by rw[hlen];simp
  have HL:=zh hlen
  clear hlen
  go_enter Tryz.func156,Tryz.ntmps156
  go_wp2_with fail
  clear hd
  go_loopw [17] (fun i wr=>∃ j:Nat,j<=n/\i=.int .i64 j/\Hid (l.take j=k.take j)/\Hid (Below w.heap.size w wr)) (fun i _=>n-(intOf i).toNat)
  case atStart=>exact⟨0,Nat.zero_le _,rfl,rfl,Below.refl _ _⟩
  case round =>
   obtain⟨j,hj,rfl,HT,HW⟩:=hrel
   by_cases aj:j<n
   ·have ac:j<m:=by have:=HL.out;omega
    have h1:j<l.length:=by rw[HN.out];exact aj
    have h2:j<k.length:=by rw[HM.out];exact ac
    obtain⟨ad,C,x,cx,rfl,hx,hs,hc⟩:=dm HR.out j h1
    obtain⟨ae,C',y,cy,rfl,hy,ht,he⟩:=dm HQ.out j h2
    obtain⟨f1,f2⟩:=jg HF.out j h1
    obtain⟨g1,g2⟩:=jg HG.out j h2
    have aa:Hid (l[j]=k[j]->l.take (j+1)=k.take (j+1)):=fun q=>by
     rw[List.take_succ_eq_append_getElem h1,List.take_succ_eq_append_getElem h2,HT.out,q]
    have ab:Hid (l[j]≠k[j]->X=false):=fun q=>by
     rw[<-HX.out];exact decide_eq_false fun h=>q (by subst h;rfl)
    obtain⟨a,ha⟩:=ex (l[j])
    obtain⟨b,hb⟩:=ex (k[j])
    rw[ha] at hx hs f2
    rw[hb] at hy ht g2
    rw[ha,hb] at aa ab
    obtain⟨c0,c1⟩:=hc _ HW.out
    rw[ha] at c0
    obtain⟨na,ra⟩:=a
    obtain⟨nb,rb⟩:=b
    dsimp only at hx hs f2 hy ht g2 c0
    obtain⟨V,hV⟩:=ex (wr.alloc (.cells #[.string ⟨na.toArray⟩,.slice C x cx] 51))
    have af:Hid (Below w.heap.size w V):=HW.out.trans ((ai hV).mono HW.out.size)
    obtain⟨e0,e1⟩:=he _ af.out
    rw[hb] at e0
    dsimp only at e0
    obtain⟨U,hU⟩:=ex (V.alloc (.cells #[.string ⟨nb.toArray⟩,.slice C' y cy] 51))
    have ag:Hid (Below w.heap.size w U):=af.out.trans ((ai hU).mono af.out.size)
    obtain⟨u0,u1⟩:=aD hV (ai hU)
    obtain⟨u2,u3⟩:=aD hU (Below.refl _ _)
    have HS:=zh (kP na nb C C' x y cx cy ra rb U hx hy (ao hs ag.out) (ao ht ag.out) (by omega) (by omega))
    clear hc he ha hb hx hs f1 f2 hy ht g1 g2 h1 h2
    go_wp2_with fail
    clear hV hU
    refine HS.out.mono ?_
    rintro _ u ⟨rfl,hb⟩
    have HU:Hid (Below w.heap.size w u):=bt ag.out hb
    clear hb HS c0 c1 e0 e1 u0 u1 u2 u3
    by_cases hq:(⟨na,ra⟩:Atm)=⟨nb,rb⟩
    ·rw[decide_eq_true hq]
     have ak:=zh (aa.out hq)
     clear aa ab hq
     go_wp2_with fail
     go_roundw
     case rel=>exact⟨j+1,by omega,by go_num,ak.out,HU.out⟩
     case measure=>simp[intOf];omega
    ·rw[decide_eq_false hq]
     have ah:=zh (ab.out hq)
     clear aa ab hq
     go_wp2_with fail
     go_ret
     exact⟨by rw[ah.out];rfl,HU.out⟩
   ·obtain rfl:j=n:=by omega
    have al:Hid (X=true):=by
     show _=_
     have:=HT.out
     rw[List.take_of_length_le (by rw[HN.out];exact Nat.le_refl _),List.take_of_length_le (by rw[HM.out,HL.out];exact Nat.le_refl _)] at this
     rw[<-HX.out];exact decide_eq_true this
    clear HT
    go_wp2_with fail
    go_ret
    exact⟨by rw[al.out];rfl,HW.out⟩
 ·have hd:((n:Int) != m)=true:=by simp;omega
  have ah:Hid (X=false):=by show _=_;rw[<-HX.out];exact decide_eq_false fun h=>hlen (by rw[<-HN.out,<-HM.out,h])
  go_enter Tryz.func156,Tryz.ntmps156
  go_wp2_with fail
  go_ret
  exact⟨by rw[ah.out];rfl,Below.refl _ _⟩
theorem wD (A B:Option Addr)(n m c d:Nat)(l k:List Atm)(w:World)(hn:l.length=n)(hm:k.length=m)(hr:ARow w A l)(hq:ARow w B k)(hl:n<=1000000)(hf:AFew l)(hg:AFew k) :
  Calls Tryz.prog 114 #[.slice A n c,.slice B m d] w fun e w'=>e=.returned (.bool (decide (l=k)))/\Below w.heap.size w w':=by
 have HS:=zh (aaX A B n m c d l k w hn hm hr hq hl hf hg)
 clear hn hm hr hq hl hf hg
 go_enter Tryz.func114,Tryz.ntmps114
 go_wp2_with fail
 refine HS.out.mono ?_
 rintro _ u ⟨rfl,hb⟩
 have HU:=zh hb
 clear hb
 go_wp2_with fail
 go_ret
 exact⟨rfl,HU.out⟩
theorem zt (A B:Option Addr)(n m c d:Nat)(l k:List (List Atm))(w:World)(hn:l.length=n)(hm:k.length=m)(hr:Pg.DRow w A l)(hq:Pg.DRow w B k)(hl:n<=1000000)(hf:DFew l)(hg:DFew k) :
  Calls Tryz.prog 113 #[.slice A n c,.slice B m d,.func (.func 114) #[] #[]] w fun e w'=>e=.returned (.bool (decide (l=k)))/\Below w.heap.size w w':=by
 obtain⟨X,hX⟩:=ex (decide (l=k))
 rw[hX]
 have HX:=zh hX
 have HR:=zh hr
 have HQ:=zh hq
 have HN:=zh hn
 have HM:=zh hm
 have HF:=zh hf
 have HG:=zh hg
 clear hX hr hq hn hm hf hg
 by_cases hlen:n=m
 ·have hd:((n:Int) != m)=false:=by rw[hlen];simp
  have HL:=zh hlen
  clear hlen
  go_enter Tryz.func113,Tryz.ntmps113
  go_wp2_with fail
  clear hd
  go_loopw [17] (fun i wr=>∃ j:Nat,j<=n/\i=.int .i64 j/\Hid (l.take j=k.take j)/\Hid (Below w.heap.size w wr)) (fun i _=>n-(intOf i).toNat)
  case atStart=>exact⟨0,Nat.zero_le _,rfl,rfl,Below.refl _ _⟩
  case round =>
   obtain⟨j,hj,rfl,HT,HW⟩:=hrel
   by_cases ag:j<n
   ·have aa:j<m:=by have:=HL.out;omega
    have h1:j<l.length:=by rw[HN.out];exact ag
    have h2:j<k.length:=by rw[HM.out];exact aa
    obtain⟨ad,C,x,cx,rfl,hx,hs,hc⟩:=dB HR.out j h1
    obtain⟨ae,C',y,cy,rfl,hy,ht,he⟩:=dB HQ.out j h2
    obtain⟨f1,f2⟩:=pC HF.out j h1
    obtain⟨g1,g2⟩:=pC HG.out j h2
    have ab:Hid (l[j]=k[j]->l.take (j+1)=k.take (j+1)):=fun q=>by
     rw[List.take_succ_eq_append_getElem h1,List.take_succ_eq_append_getElem h2,HT.out,q]
    have ac:Hid (l[j]≠k[j]->X=false):=fun q=>by
     rw[<-HX.out];exact decide_eq_false fun h=>q (by subst h;rfl)
    have c0:=hc _ HW.out
    have e0:=he _ HW.out
    have HS:=zh (wD C C' x y cx cy l[j] k[j] wr hx hy (ay hs HW.out) (ay ht HW.out) (by omega) f2 g2)
    obtain⟨P,hP⟩:=ex (decide (l[j]=k[j]))
    rw[hP] at HS
    have HP:=zh hP
    clear hc he hx hs f1 f2 hy ht g1 g2 hP
    go_wp2_with fail
    refine HS.out.mono ?_
    rintro _ u ⟨rfl,hb⟩
    have HU:Hid (Below w.heap.size w u):=bt HW.out hb
    clear hb HS c0 e0
    cases P
    ·have af:=zh (ac.out (of_decide_eq_false HP.out))
     clear ab ac HP
     go_wp2_with fail
     go_ret
     exact⟨by rw[af.out];rfl,HU.out⟩
    ·have ah:=zh (ab.out (of_decide_eq_true HP.out))
     clear ab ac HP
     go_wp2_with fail
     go_roundw
     case rel=>exact⟨j+1,by omega,by go_num,ah.out,HU.out⟩
     case measure=>simp[intOf];omega
   ·obtain rfl:j=n:=by omega
    have ai:Hid (X=true):=by
     show _=_
     have:=HT.out
     rw[List.take_of_length_le (by rw[HN.out];exact Nat.le_refl _),List.take_of_length_le (by rw[HM.out,HL.out];exact Nat.le_refl _)] at this
     rw[<-HX.out];exact decide_eq_true this
    clear HT
    go_wp2_with fail
    go_ret
    exact⟨by rw[ai.out];rfl,HW.out⟩
 ·have hd:((n:Int) != m)=true:=by simp;omega
  have af:Hid (X=false):=by show _=_;rw[<-HX.out];exact decide_eq_false fun h=>hlen (by rw[<-HN.out,<-HM.out,h])
  go_enter Tryz.func113,Tryz.ntmps113
  go_wp2_with fail
  go_ret
  exact⟨by rw[af.out];rfl,Below.refl _ _⟩
end
namespace Wm
theorem lM {x i j:Nat}(h:x<2 ^ i)(hj:i<=j):x.testBit j=false:=Nat.testBit_lt_two_pow (Nat.lt_of_lt_of_le h (Nat.pow_le_pow_right (by decide) hj))
theorem xN (n:Bool){r:Nat}(h:r<9223372036854775808):word n r=(if n then 2 ^ 63 else 0) ||| r:=by
 unfold word
 cases n
 ·simp
 ·rw[if_pos rfl,if_pos rfl,show (9223372036854775808:Nat)=2 ^ 63 from rfl]
  exact Nat.two_pow_add_eq_or_of_lt (i:=63) h 1 |>.symm ▸ by simp
theorem eo (n:Bool){r:Nat}(h:r<9223372036854775808)(i:Nat):(word n r).testBit i=if i=63 then n else r.testBit i:=by
 rw[xN n h,Nat.testBit_or]
 by_cases hi:i=63
 ·subst hi
  rw[if_pos rfl,lM (i:=63) h (Nat.le_refl _)]
  cases n
  ·simp
  ·rw[if_pos rfl,Nat.testBit_two_pow_self];rfl
 ·rw[if_neg hi]
  cases n
  ·simp
  ·rw[if_pos rfl,Nat.testBit_two_pow_of_ne (Ne.symm hi),Bool.false_or]
theorem lN (b:Nat)(hb:b<W):b=word (neg b) (rung b):=by
 unfold word neg rung W at *
 split
 ·rename_i h;have:=of_decide_eq_true h;omega
 ·rename_i h;have:¬ 9223372036854775808<=b:=fun hh=>h (decide_eq_true hh);omega
theorem fields (p f i:Nat)(hf:f<2 ^ 52):(p*4503599627370496+f).testBit i=if i<52 then f.testBit i else p.testBit (i-52):=by
 rw[show p*4503599627370496+f=2 ^ 52*p+f from by omega]
 exact Nat.testBit_two_pow_mul_add p hf i
theorem ac4 (n:Bool){r:Nat}(h:r<9223372036854775808):word n r &&& 9223372036854775808=if n then 9223372036854775808 else 0:=by
 refine Nat.eq_of_testBit_eq fun i=>?_
 rw[Nat.testBit_and,eo n h,show (9223372036854775808:Nat)=2 ^ 63 from rfl]
 by_cases hi:i=63
 ·subst hi
  rw[if_pos rfl,Nat.testBit_two_pow_self]
  cases n
  ·simp
  ·rw[if_pos rfl,Nat.testBit_two_pow_self];rfl
 ·rw[if_neg hi,Nat.testBit_two_pow_of_ne (Ne.symm hi),Bool.and_false]
  cases n
  ·simp
  ·rw[if_pos rfl,Nat.testBit_two_pow_of_ne (Ne.symm hi)]
theorem wE (n:Bool){r:Nat}(h:r<9223372036854775808):word n r &&& 9223372036854775807=r:=by
 rw[show (9223372036854775807:Nat)=2 ^ 63-1 from rfl,Nat.and_two_pow_sub_one_eq_mod]
 have:=(bA n h).1
 unfold rung at this;exact this
theorem aeG {r:Nat}(h:r<9223372036854775808):r ||| 9223372036854775808=9223372036854775808+r:=by
 have:=xN true h
 rw[if_pos rfl] at this
 rw[Nat.or_comm,show (9223372036854775808:Nat)=2 ^ 63 from rfl,<-this];rfl
theorem afI (n:Bool){r:Nat}(h:r<9223372036854775808):word n r ||| 9223372036854775807=word n 9223372036854775807:=by
 refine Nat.eq_of_testBit_eq fun i=>?_
 rw[Nat.testBit_or,eo n h,eo n (by decide),show (9223372036854775807:Nat)=2 ^ 63-1 from rfl,Nat.testBit_two_pow_sub_one]
 by_cases hi:i=63
 ·simp[hi]
 ·simp only[if_neg hi]
  by_cases h2:i<63
  ·simp[h2]
  ·rw[lM (i:=63) h (by omega)];simp[h2]
theorem aeH {b:Nat}(hb:b<W):18446744073709551615 ^^^ b=18446744073709551615-b:=by
 refine Nat.eq_of_testBit_eq fun i=>?_
 rw[Nat.testBit_xor,show 18446744073709551615-b=2 ^ 64-(b+1) from by unfold W at hb;omega,Nat.testBit_two_pow_sub_succ hb,show (18446744073709551615:Nat)=2 ^ 64-1 from rfl,Nat.testBit_two_pow_sub_one]
 by_cases h2:i<64
 ·simp[h2]
 ·rw[lM (i:=64) hb (by omega)];simp[h2]
theorem aaY (n:Bool){r:Nat}(h:r<9223372036854775808):word n r &&& 9227875636482146303=word n (r % 4503599627370496):=by
 have hr:r=(r / 4503599627370496)*4503599627370496+r % 4503599627370496:=by omega
 refine Nat.eq_of_testBit_eq fun i=>?_
 rw[Nat.testBit_and,eo n h,eo n (by omega),show (9227875636482146303:Nat)=word true (2 ^ 52-1) from rfl,eo true (by decide),Nat.testBit_two_pow_sub_one,hr,fields _ _ _ (Nat.mod_lt _ (by decide)),<-hr]
 by_cases hi:i=63
 ·simp[hi]
 ·simp only[if_neg hi]
  by_cases h2:i<52
  ·simp[h2]
  ·rw[lM (i:=52) (x:=r % 4503599627370496) (Nat.mod_lt _ (by decide)) (by omega)];simp[h2]
theorem aeI (n:Bool){q f:Nat}(hq:q<2048)(hf:f<4503599627370496):word n f ||| q*4503599627370496=word n (q*4503599627370496+f):=by
 refine Nat.eq_of_testBit_eq fun i=>?_
 rw[Nat.testBit_or,eo n (by omega),eo n (by omega),fields q f i hf]
 have e:=fields q 0 i (by decide)
 rw[Nat.add_zero] at e
 rw[e]
 by_cases hi:i=63
 ·subst hi
  simp only[if_true]
  rw[if_neg (by decide),lM (i:=11) hq (by decide)];simp
 ·simp only[if_neg hi]
  by_cases h2:i<52
  ·simp[h2]
  ·rw[lM (i:=52) hf (by omega)];simp[h2]
theorem sgnB (b:Nat)(hb:b<W):bits .and .u64 (b:Int) 9223372036854775808=if neg b then 9223372036854775808 else 0:=by
 have h:=u64_and_nat b 9223372036854775808 hb (by decide)
 have e:=ac4 (neg b) (jc b)
 rw[<-lN b hb] at e
 rw[e] at h
 refine h.trans ?_
 cases neg b <;> rfl
theorem absB (b:Nat)(hb:b<W):bits .andNot .u64 (b:Int) 9223372036854775808=(rung b:Int):=by
 have h:=u64_andNot_nat b 9223372036854775808 hb (by decide)
 have e:=wE (neg b) (jc b)
 rw[<-lN b hb] at e
 refine h.trans ?_
 rw[show (18446744073709551615-9223372036854775808:Nat)=9223372036854775807 from rfl,e]
theorem maxB (b:Nat)(hb:b<W):bits .or .u64 (b:Int) 9223372036854775807=(word (neg b) 9223372036854775807:Nat):=by
 have h:=u64_or_nat b 9223372036854775807 hb (by decide)
 have e:=afI (neg b) (jc b)
 rw[<-lN b hb] at e
 exact h.trans (by rw[e])
theorem signB (r:Nat)(h:r<9223372036854775808):bits .or .u64 (r:Int) 9223372036854775808=(9223372036854775808+r:Nat):=by
 have h1:=u64_or_nat r 9223372036854775808 (by omega) (by decide)
 exact h1.trans (by rw[aeG h])
theorem xorB (b:Nat)(hb:b<W):bits .xor .u64 18446744073709551615 (b:Int)=(18446744073709551615-b:Nat):=by
 have h1:=u64_xor_nat 18446744073709551615 b (by decide) hb
 exact h1.trans (by rw[aeH hb])
theorem clearB (n:Bool)(r:Nat)(h:r<9223372036854775808):bits .andNot .u64 (word n r:Nat) 9218868437227405312=(word n (r % 4503599627370496):Nat):=by
 have h1:=u64_andNot_nat (word n r) 9218868437227405312 (bA n h).2.2 (by decide)
 refine h1.trans ?_
 rw[show (18446744073709551615-9218868437227405312:Nat)=9227875636482146303 from rfl,aaY n h]
theorem setB (n:Bool)(q f:Nat)(hq:q<2048)(hf:f<4503599627370496):bits .or .u64 (word n f:Nat) ((q*4503599627370496:Nat):Int)=(word n (q*4503599627370496+f):Nat):=by
 have h1:=u64_or_nat (word n f) (q*4503599627370496) (bA n (by omega)).2.2 (by omega)
 exact h1.trans (by rw[aeI n hq hf])
theorem ua (n:Bool){r:Nat}(h:r<9223372036854775808):word n r / 4503599627370496=(if n then 2048 else 0)+r / 4503599627370496/\r / 4503599627370496<2048:=by
 unfold word;cases n <;> simp <;> omega
theorem expB (n:Bool)(r:Nat)(h:r<9223372036854775808):bits .and .u64 ((word n r:Int) / 4503599627370496) 2047=((r / 4503599627370496:Nat):Int):=by
 obtain⟨d1,d2⟩:=ua n h
 have h1:=u64_and_nat (word n r / 4503599627370496) 2047 (by rw[d1];cases n <;> simp <;> omega) (by decide)
 have e:((word n r:Int) / 4503599627370496)=((word n r / 4503599627370496:Nat):Int):=by omega
 rw[e]
 refine h1.trans ?_
 rw[show (2047:Nat)=2 ^ 11-1 from rfl,Nat.and_two_pow_sub_one_eq_mod,d1]
 congr 1
 cases n <;> simp <;> omega
theorem expI (n:Bool)(r:Nat)(h:r<9223372036854775808):bits .and .i64 ((word n r:Int) / 4503599627370496) 2047=((r / 4503599627370496:Nat):Int):=by
 obtain⟨d1,d2⟩:=ua n h
 have e:((word n r:Int) / 4503599627370496)=((word n r / 4503599627370496:Nat):Int):=by omega
 have aa:word n r / 4503599627370496<4096:=by rw[d1];cases n <;> simp <;> omega
 have h1:=bits_mask .i64 63 (by decide) (fun m h0 h1=>by rw[IntKind.wrap_i64];omega) 11 (by decide) ((word n r / 4503599627370496:Nat):Int) (by omega) (by omega)
 rw[e]
 refine (show bits .and .i64 ((word n r / 4503599627370496:Nat):Int) 2047=_ from h1).trans ?_
 rw[d1]
 cases n <;> simp <;> omega
def placeN (b:Nat):Nat:=if nan b then (if neg b then 0 else 18446744073709551615) else (if neg b then 18446744073709551615-b else 9223372036854775808+b)
theorem ac5 {b:Nat}(hb:b<W)(h:neg b=false):rung b=b/\b<9223372036854775808:=by
 unfold neg rung W at *
 have:=of_decide_eq_false h;omega
end Wm
section
open Go.RowKit
theorem aeJ (b:Nat)(hb:b<Wm.W)(w:World) :
  Calls Tryz.prog 302 #[.float .f64 b] w fun e w'=>e=.returned (.float .f64 (Wm.rung b))/\w=w':=by
 have ab:=dS
 have aa:=jf
 have e:=Wm.absB b hb
 go_enter Tryz.func302,Tryz.ntmps302
 go_wp2_with fail
 go_ret
 exact⟨rfl,rfl⟩
theorem xO (b:Nat)(hb:b<Wm.W)(w:World) :
  Calls Tryz.prog 173 #[.float .f64 b] w fun e w'=>e=.returned (.int .u64 (Wm.placeN b))/\w=w':=by
 have ab:=dS
 have hs:IntKind.u64.signed=false:=rfl
 have hm:IntKind.u64.max=18446744073709551615:=rfl
 have e1:=Wm.sgnB b hb
 have e2:=Wm.maxB b hb
 have e3:=Wm.xorB b hb
 go_enter Tryz.func173,Tryz.ntmps173
 go_wp2_with fail
 refine (cR b hb _).mono ?_
 rintro e w' ⟨rfl,rfl⟩
 cases hn:Wm.nan b
 ·cases hg:Wm.neg b
  ·have e4:=Wm.signB b (Wm.ac5 hb hg).2
   rw[hg] at e1
   clear e2 e3
   go_wp2_with fail
   go_ret
   exact⟨by rw[Wm.placeN,hn,hg];rfl,rfl⟩
  ·rw[hg] at e1
   clear e2
   go_wp2_with fail
   go_ret
   exact⟨by rw[Wm.placeN,hn,hg];rfl,rfl⟩
 ·cases hg:Wm.neg b
  ·have aa:bits .or .u64 (b:Int) 9223372036854775807=9223372036854775807:=by rw[e2,hg];rfl
   have e5:bits .and .u64 9223372036854775807 9223372036854775808=0:=by kernel_rfl
   have e6:bits .or .u64 9223372036854775807 9223372036854775808=18446744073709551615:=by kernel_rfl
   clear e1 e2 e3
   go_wp2_with fail
   go_ret
   exact⟨by rw[Wm.placeN,hn,hg];rfl,rfl⟩
  ·have aa:bits .or .u64 (b:Int) 9223372036854775807=18446744073709551615:=by rw[e2,hg];rfl
   have e5:bits .and .u64 18446744073709551615 9223372036854775808=9223372036854775808:=by kernel_rfl
   have e6:bits .xor .u64 18446744073709551615 18446744073709551615=0:=by kernel_rfl
   clear e1 e2 e3
   go_wp2_with fail
   go_ret
   exact⟨by rw[Wm.placeN,hn,hg];rfl,rfl⟩
theorem om (x:Nat)(w:World) :
  Calls Tryz.prog 202 #[.int .u64 x] w fun e w'=>e=.returned (.bool false)/\w=w':=by
 go_enter Tryz.func202,Tryz.ntmps202
 go_wp2_with fail
 go_ret
 exact⟨by first | rfl | simp,rfl⟩
theorem ac6 (x y:Nat)(w:World) :
  Calls Tryz.prog 172 #[.int .u64 x,.int .u64 y] w fun e w'=>e=.returned (.int .i64 (Vm.sgn x y))/\w=w':=by
 obtain⟨v,hv,hc⟩:∃ v:Int,Hid (Vm.sgn x y=v)/\((x<y/\v = -1)\/(y<x/\v=1)\/(x=y/\v=0)):=by
  refine⟨_,zh rfl,?_⟩
  unfold Vm.sgn
  by_cases h1:(x:Int)<y
  ·left;exact⟨by omega,by rw[if_pos h1]⟩
  ·by_cases h2:(y:Int)<x
   ·right;left;exact⟨by omega,by rw[if_neg h1,if_pos h2]⟩
   ·right;right;exact⟨by omega,by rw[if_neg h1,if_neg h2]⟩
 rcases hc with⟨h1,rfl⟩ | ⟨h1,rfl⟩ | ⟨rfl,rfl⟩
 all_goals
  go_enter Tryz.func172,Tryz.ntmps172
  go_wp2_with fail
  refine (om _ _).mono ?_
  rintro e w' ⟨rfl,rfl⟩
  go_wp2_with fail
  refine (om _ _).mono ?_
  rintro e w' ⟨rfl,rfl⟩
  go_wp2_with fail
  go_ret
  exact⟨by rw[hv.out];rfl,rfl⟩
theorem aaZ (a b:Nat)(ha:a<Wm.W)(hb:b<Wm.W)(w:World) :
  Calls Tryz.prog 138 #[.float .f64 a,.float .f64 b] w fun e w'=>e=.returned (.int .i64 (Vm.sgn (Wm.placeN a) (Wm.placeN b)))/\w=w':=by
 go_enter Tryz.func138,Tryz.ntmps138
 go_wp2_with fail
 refine (xO a ha _).mono ?_
 rintro e w' ⟨rfl,rfl⟩
 go_wp2_with fail
 refine (xO b hb _).mono ?_
 rintro e w' ⟨rfl,rfl⟩
 go_wp2_with fail
 refine (ac6 _ _ _).mono ?_
 rintro e w' ⟨rfl,rfl⟩
 go_wp2_with fail
 go_ret
 exact⟨rfl,rfl⟩
theorem afJ (a b:Nat)(ha:a<Wm.W)(hb:b<Wm.W)(w:World) :
  Calls Tryz.prog 118 #[.float .f64 a,.float .f64 b] w fun e w'=>e=.returned (.bool (Vm.sgn (Wm.placeN a) (Wm.placeN b)==0))/\w=w':=by
 go_enter Tryz.func118,Tryz.ntmps118
 go_wp2_with fail
 refine (aaZ a b ha hb _).mono ?_
 rintro e w' ⟨rfl,rfl⟩
 go_wp2_with fail
 go_ret
 exact⟨rfl,rfl⟩
end
end Go.Proofs.YtgnaiidgjmicaaaGreatDoor
