/- Part 33 of what the laws lean on. -/
import Derived.Test.YtpfkphmldalmmaaGreatDoorL32
set_option maxRecDepth 100000
set_option maxHeartbeats 6400000
namespace Go.Proofs.YtpfkphmldalmmaaGreatDoor
section
open Go.RowKit Rs At Pg
namespace Pg
def ToSt (V:World) (v:Value) (fs:List Sz.Fld) (u:World):Prop:=Rg.Own Sz.encF 3 u V.heap.size 56 v fs/\Below V.heap.size V u
theorem jV {V u u2 W5:World}{v v5:Value}{fs:List Sz.Fld}{f:Sz.Fld}{o:Obj}(h:ToSt V v fs u)(hb:Below u.heap.size u u2)(ho:Rg.Own Sz.encF 3 W5 V.heap.size 56 v5 (fs++[f]))(hg:(u2.alloc o).grownBy W5 v.ownBlock):ToSt V v5 (fs++[f]) W5:=by
 have aa:Below u.heap.size u (u2.alloc o):=hb.alloc hb.size _
 have ab:V.heap.size<=u.heap.size:=h.2.size
 exact⟨ho,(h.2.trans (aa.mono ab)).trans (Rg.aw (Rg.own_below h.1 aa) (Nat.le_trans ab aa.size) hg)⟩
theorem xm {u:World}{f g:Sz.Fld}{B:Nat}{T:TypeId}(hB:B<=u.heap.size):Rg.Own Sz.encF 3 (u.alloc (.cells #[.string ⟨f.key.toArray⟩,.string ⟨f.val.toArray⟩,.int .i64 f.line,.string ⟨g.key.toArray⟩,.string ⟨g.val.toArray⟩,.int .i64 g.line] T)) B T (.slice (some ⟨u.heap.size,0,none⟩) 2 2) [f,g] :=
 ⟨rfl,.inr ⟨u.heap.size,2,_,rfl,hB,heap_alloc_new u _,Nat.le_refl _,by decide,rfl,rfl⟩⟩
end Pg
attribute [local go_sem ↓] Go.wp_at_zero Go.wp_at_succ
theorem aaI (p:Pk)(D C G:Option Addr)(dn dc cn cc gn gc:Nat)(w:World)(hk:KOk w)(hd:Pg.DRow w D p.deps)(hdn:p.deps.length=dn)(hc:ARow w C p.confl)(hcn:p.confl.length=cn)(hg:GRow w G p.prov)(hgn:p.prov.length=gn)(ht:PTxt p) :
  Calls Tryz.prog 11 #[.agg #[.string ⟨p.name.toArray⟩,.string ⟨p.ver.toArray⟩,.slice D dn dc,.slice C cn cc,.slice G gn gc,.float .f64 p.wt]] w fun e w'=>∃ A n c,e=.returned (.slice A n c)/\(toPk p).length=n/\Rg.Row Sz.encF 3 w' A (toPk p)/\Below w.heap.size w w':=by
 obtain⟨t1,t2,t3,t4,t5,t6,t7,t8,t9,aS,aT,aU⟩:=ht
 obtain⟨V,hV⟩:=ex (w.alloc (.cells #[.string ⟨p.name.toArray⟩,.string ⟨p.ver.toArray⟩,.slice D dn dc,.slice C cn cc,.slice G gn gc,.float .f64 p.wt] 34))
 have HB:Hid (Below w.heap.size w V):=ai hV
 obtain⟨b,hb⟩:=ex w.heap.size
 have ab:=zh (fun W (h:Below V.heap.size V W)=>az hV h)
 rw[hb] at ab
 have HK:=zh (fun W (h:Below V.heap.size V W)=>aX (aX hk HB.out) h)
 have HM:=zh (fun W (h:Below V.heap.size V W)=>ah (ah hk.1 HB.out) h)
 have aL:Hid (∀ W,Below V.heap.size V W->Calls Tryz.prog 40 #[.slice D dn dc,.func (.func 18) #[] #[],.string ⟨#[59,32]⟩] W fun e w'=>e=.returned (.string ⟨(depsT p).toArray⟩)/\Below W.heap.size W w'):=fun W h=>ui semi D dn dc p.deps W (HM.out W h) hdn (drowD_below (drowD_below hd HB.out) h) (by rw[<-hdn];exact t3) t4 t5
 have aM:Hid (∀ W,Below V.heap.size V W->Calls Tryz.prog 41 #[.slice C cn cc,.func (.func 42) #[] #[],.string ⟨#[59,32]⟩] W fun e w'=>e=.returned (.string ⟨(conflT p).toArray⟩)/\Below W.heap.size W w'):=fun W h=>ki semi C cn cc p.confl W (HM.out W h) hcn (au (au hc HB.out) h) (by rw[<-hcn];exact t6) t7 t8
 have aN:Hid (∀ W,Below V.heap.size V W->Calls Tryz.prog 43 #[.slice G gn gc,.func (.func 44) #[] #[],.string ⟨#[59,32]⟩] W fun e w'=>e=.returned (.string ⟨(provT p).toArray⟩)/\Below W.heap.size W w'):=fun W h=>rI semi G gn gc p.prov W (HM.out W h) hgn (Rg.ak (Rg.ak hg HB.out) h) (by rw[<-hgn];exact t9) aS aT
 have ax:Hid (∀ W,Below V.heap.size V W->Calls Tryz.prog 45 #[.float .f64 p.wt] W fun e w'=>e=.returned (.string ⟨(Wm.textW p.wt).toArray⟩)/\Below W.heap.size W w'):=fun W h=>aeA p.wt aU W (HK.out W h)
 obtain⟨nm,ar⟩:=ex p.name
 obtain⟨vr,av⟩:=ex p.ver
 obtain⟨fw,aw⟩:=ex p.wt
 have HN:Hid (nm.length<=281474976710656/\vr.length<=281474976710656):=by rw[<-ar,<-av];exact⟨Nat.le_trans t1 (by decide),Nat.le_trans t2 (by decide)⟩
 have H0:Hid (to0 p=[⟨kPkg,nm,0⟩,⟨kVer,vr,0⟩]):=by rw[<-ar,<-av];rfl
 have aA:Hid (dn=0↔p.deps=[]):=by rw[<-hdn];exact List.length_eq_zero_iff
 have aB:Hid (cn=0↔p.confl=[]):=by rw[<-hcn];exact List.length_eq_zero_iff
 have aC:Hid (gn=0↔p.prov=[]):=by rw[<-hgn];exact List.length_eq_zero_iff
 rw[ar,av,aw] at ab hV
 rw[ar,av,aw]
 rw[aw] at ax
 have aP:Hid (p.wt=fw):=aw
 obtain⟨y0,y1,y2,y3,y4,y5⟩:=ab.out _ (Below.refl _ _)
 have aQ:Hid (w.heap.size<=V.heap.size):=HB.out.size
 obtain⟨TD,aG⟩:=ex (depsT p)
 obtain⟨TC,aH⟩:=ex (conflT p)
 obtain⟨TG,aI⟩:=ex (provT p)
 obtain⟨TW,aJ⟩:=ex (Wm.textW fw)
 rw[aG] at aL
 rw[aH] at aM
 rw[aI] at aN
 rw[aJ] at ax
 have E1:Hid (to1 p=if dn=0 then to0 p else to0 p++[⟨kDep,TD,0⟩]):=by
  show _=_
  unfold to1;rw[aG]
  by_cases h:dn=0
  ·rw[if_pos h,if_pos (aA.out.1 h)]
  ·rw[if_neg h,if_neg (fun e=>h (aA.out.2 e))]
 have E2:Hid (to2 p=if cn=0 then to1 p else to1 p++[⟨kCon,TC,0⟩]):=by
  show _=_
  unfold to2;rw[aH]
  by_cases h:cn=0
  ·rw[if_pos h,if_pos (aB.out.1 h)]
  ·rw[if_neg h,if_neg (fun e=>h (aB.out.2 e))]
 have E3:Hid (to3 p=if gn=0 then to2 p else to2 p++[⟨kPro,TG,0⟩]):=by
  show _=_
  unfold to3;rw[aI]
  by_cases h:gn=0
  ·rw[if_pos h,if_pos (aC.out.1 h)]
  ·rw[if_neg h,if_neg (fun e=>h (aC.out.2 e))]
 have E4:Hid (toPk p=if TW=[48] then to3 p else to3 p++[⟨kWei,TW,0⟩]):=by
  show _=_
  unfold toPk;rw[aP.out,aJ]
 have aZ:=zh hb
 clear hk hd hdn hc hcn hg hgn t1 t2 t3 t4 t5 t6 t7 t8 t9 aS aT aU ar av aw aG aH aI aJ aA aB aC aP
 go_enter Tryz.func11,Tryz.ntmps11
 go_upto_region 1 with fail
 clear hV
 go_cut [3] (fun v wx=>Hid (ToSt V v (to0 p) wx))
 case first =>
  have aD:Hid (Below V.heap.size V V.drew):=(Below.refl _ _).drew
  go_region_held3 (fun w'=>w'.cell? ⟨b,0,none⟩=some (.string ⟨nm.toArray⟩)/\w'.cell? ⟨b,1,none⟩=some (.string ⟨vr.toArray⟩))
   (first
    | exact⟨(ab.out _ aD.out).1,(ab.out _ aD.out).2.1⟩
    | exact⟨(ab.out _ aF.out).1,(ab.out _ aF.out).2.1⟩
    | exact⟨(ab.out _ ag.out).1,(ab.out _ ag.out).2.1⟩
    | exact⟨(ab.out _ (ag.out.alloc ag.out.size _)).1,(ab.out _ (ag.out.alloc ag.out.size _)).2.1⟩)
   (first
    | (go_at_call 39;refine (aV vr _ HN.out.2).mono ?_;rintro _ u4 ⟨rfl,aW⟩;have ag:=zh (bt aF.out aW);clear aW)
    | (go_at_call 39;refine (aV nm _ HN.out.1).mono ?_;rintro _ u3 ⟨rfl,aY⟩;have aF:=zh (bt aD.out aY);clear aY))
  go_wp2_with fail
  go_meet
  case rel =>
   show ToSt _ _ _ _
   rw[H0.out]
   exact⟨xm ag.out.size,ag.out.alloc ag.out.size _⟩
 case rest =>
 have aj:Hid (ToSt V u3 (to0 p) wc):=hcut
 clear hcut y0 y1 y2 y3 y4 y5
 obtain⟨A0,c0,rfl,_,_,_⟩:=Rg.aE Sz.fitsF aj.out.1
 obtain⟨y0,y1,y2,y3,y4,y5⟩:=ab.out _ aj.out.2
 go_upto_if 17 with fail
 go_cut [3] (fun v wx=>Hid (ToSt V v (to1 p) wx))
 case first =>
  by_cases h0:dn=0
  ·have HF:Hid (to1 p=to0 p):=by show _=_;rw[E1.out,if_pos h0]
   subst h0
   go_wp2_with fail
   go_meet
   case rel=>show ToSt _ _ _ _;rw[HF.out];exact aj.out
  ·have HF:Hid (to1 p=to0 p++[⟨kDep,TD,0⟩]):=by show _=_;rw[E1.out,if_neg h0]
   have aq:0<dn:=by omega
   clear h0
   go_wp2_with fail
   refine (aL.out _ aj.out.2).mono ?_
   rintro _ u1 ⟨rfl,ac⟩
   have aa:=zh ac
   clear ac
   have ao:Hid ((to0 p).length+1<=1000000):=by have:=xl p;show _<=_;omega
   go_wp2_with (at_builtin;refine Rg.aO Sz.sliceF rfl (.tmp 18) (.tmp 23) rfl V.heap.size _ (to0 p) [⟨kDep,TD,0⟩] rfl (Rg.own_below aj.out.1 (aa.out.alloc aa.out.size _)) _ _ rfl (Rg.ay u1 _ _ _ (by rfl)) (Nat.zero_lt_succ _) ao.out ?b2 ?_)
   case b2=>have:=aj.out.2.size;have:=aa.out.size;simp;omega
   intro v5 W5 ad ae ap
   have al:Hid (ToSt V v5 (to1 p) W5):=by show ToSt _ _ _ _;rw[HF.out];exact jV aj.out aa.out ad ae
   clear ad ae ap
   go_wp2_with fail
   go_meet
   case rel=>exact al
 case rest =>
 have am:Hid (ToSt V u3 (to1 p) wc):=hcut
 clear hcut aj y0 y1 y2 y3 y4 y5
 obtain⟨A1,c1,rfl,_,_,_⟩:=Rg.aE Sz.fitsF am.out.1
 obtain⟨y0,y1,y2,y3,y4,y5⟩:=ab.out _ am.out.2
 go_upto_if 28 with fail
 go_cut [3] (fun v wx=>Hid (ToSt V v (to2 p) wx))
 case first =>
  by_cases h0:cn=0
  ·have HF:Hid (to2 p=to1 p):=by show _=_;rw[E2.out,if_pos h0]
   subst h0
   go_wp2_with fail
   go_meet
   case rel=>show ToSt _ _ _ _;rw[HF.out];exact am.out
  ·have HF:Hid (to2 p=to1 p++[⟨kCon,TC,0⟩]):=by show _=_;rw[E2.out,if_neg h0]
   have aq:0<cn:=by omega
   clear h0
   go_wp2_with fail
   refine (aM.out _ am.out.2).mono ?_
   rintro _ u1 ⟨rfl,ac⟩
   have aa:=zh ac
   clear ac
   have ao:Hid ((to1 p).length+1<=1000000):=by have:=pR p;show _<=_;omega
   go_wp2_with (at_builtin;refine Rg.aO Sz.sliceF rfl (.tmp 29) (.tmp 34) rfl V.heap.size _ (to1 p) [⟨kCon,TC,0⟩] rfl (Rg.own_below am.out.1 (aa.out.alloc aa.out.size _)) _ _ rfl (Rg.ay u1 _ _ _ (by rfl)) (Nat.zero_lt_succ _) ao.out ?b2 ?_)
   case b2=>have:=am.out.2.size;have:=aa.out.size;simp;omega
   intro v5 W5 ad ae ap
   have al:Hid (ToSt V v5 (to2 p) W5):=by show ToSt _ _ _ _;rw[HF.out];exact jV am.out aa.out ad ae
   clear ad ae ap
   go_wp2_with fail
   go_meet
   case rel=>exact al
 case rest =>
 have an:Hid (ToSt V u3 (to2 p) wc):=hcut
 clear hcut am y0 y1 y2 y3 y4 y5
 obtain⟨A2,c2,rfl,_,_,_⟩:=Rg.aE Sz.fitsF an.out.1
 obtain⟨y0,y1,y2,y3,y4,y5⟩:=ab.out _ an.out.2
 go_upto_if 39 with fail
 go_cut [3] (fun v wx=>Hid (ToSt V v (to3 p) wx))
 case first =>
  by_cases h0:gn=0
  ·have HF:Hid (to3 p=to2 p):=by show _=_;rw[E3.out,if_pos h0]
   subst h0
   go_wp2_with fail
   go_meet
   case rel=>show ToSt _ _ _ _;rw[HF.out];exact an.out
  ·have HF:Hid (to3 p=to2 p++[⟨kPro,TG,0⟩]):=by show _=_;rw[E3.out,if_neg h0]
   have aq:0<gn:=by omega
   clear h0
   go_wp2_with fail
   refine (aN.out _ an.out.2).mono ?_
   rintro _ u1 ⟨rfl,ac⟩
   have aa:=zh ac
   clear ac
   have ao:Hid ((to2 p).length+1<=1000000):=by have:=pS p;show _<=_;omega
   go_wp2_with (at_builtin;refine Rg.aO Sz.sliceF rfl (.tmp 40) (.tmp 45) rfl V.heap.size _ (to2 p) [⟨kPro,TG,0⟩] rfl (Rg.own_below an.out.1 (aa.out.alloc aa.out.size _)) _ _ rfl (Rg.ay u1 _ _ _ (by rfl)) (Nat.zero_lt_succ _) ao.out ?b2 ?_)
   case b2=>have:=an.out.2.size;have:=aa.out.size;simp;omega
   intro v5 W5 ad ae ap
   have al:Hid (ToSt V v5 (to3 p) W5):=by show ToSt _ _ _ _;rw[HF.out];exact jV an.out aa.out ad ae
   clear ad ae ap
   go_wp2_with fail
   go_meet
   case rel=>exact al
 case rest =>
 have af:Hid (ToSt V u3 (to3 p) wc):=hcut
 clear hcut an y0 y1 y2 y3 y4 y5
 obtain⟨A3,c3,rfl,_,_,_⟩:=Rg.aE Sz.fitsF af.out.1
 obtain⟨y0,y1,y2,y3,y4,y5⟩:=ab.out _ af.out.2
 by_cases h0:TW=[48]
 ·have HF:Hid (toPk p=to3 p):=by show _=_;rw[E4.out,if_pos h0]
  have d0:(TW==[48])=true:=beq_iff_eq.2 h0
  have d1:(TW != [48])=false:=by rw[bne,d0];rfl
  clear h0
  go_wp2_with fail
  refine (ax.out _ af.out.2).mono ?_
  rintro _ u1 ⟨rfl,ac⟩
  have aR:Hid (ToSt V (.slice A3 (to3 p).length c3) (to3 p) u1):=⟨Rg.own_below af.out.1 ac,af.out.2.trans (ac.mono af.out.2.size)⟩
  clear ac
  go_wp2_with fail
  go_ret
  rw[HF.out]
  obtain⟨A4,c4,e4,aK,_,_⟩:=Rg.aE Sz.fitsF aR.out.1
  cases e4
  exact⟨_,_,_,rfl,rfl,aK,HB.out.trans (aR.out.2.mono aQ.out)⟩
 ·have HF:Hid (toPk p=to3 p++[⟨kWei,TW,0⟩]):=by show _=_;rw[E4.out,if_neg h0]
  have d0:(TW==[48])=false:=beq_eq_false_iff_ne.2 h0
  have d1:(TW != [48])=true:=by rw[bne,d0];rfl
  clear h0
  go_wp2_with fail
  refine (ax.out _ af.out.2).mono ?_
  rintro _ u1 ⟨rfl,ac⟩
  have aa:=zh ac
  clear ac
  have ao:Hid ((to3 p).length+1<=1000000):=by have:=pT p;show _<=_;omega
  go_wp2_with (at_builtin;refine Rg.aO Sz.sliceF rfl (.tmp 52) (.tmp 55) rfl V.heap.size _ (to3 p) [⟨kWei,TW,0⟩] rfl (Rg.own_below af.out.1 (aa.out.alloc aa.out.size _)) _ _ rfl (Rg.ay u1 _ _ _ (by rfl)) (Nat.zero_lt_succ _) ao.out ?b2 ?_)
  case b2=>have:=af.out.2.size;have:=aa.out.size;simp;omega
  intro v5 W5 ad ae ap
  have al:Hid (ToSt V v5 (toPk p) W5):=by show ToSt _ _ _ _;rw[HF.out];exact jV af.out aa.out ad ae
  clear ad ae ap
  go_wp2_with fail
  go_ret
  obtain⟨A4,c4,rfl,aK,_,_⟩:=Rg.aE Sz.fitsF al.out.1
  exact⟨_,_,_,rfl,rfl,aK,HB.out.trans (al.out.2.mono aQ.out)⟩
end
section
open Go.RowKit Rs At Pg
namespace Pg
theorem dC {p:Pk}(h:checkP p=0):nameB p.name=true/\verE p.ver=0/\p.deps.length<=16/\depsE p.deps=0/\p.confl.length<=16/\atomsE p.confl=0/\p.prov.length<=16/\givesE p.prov=0/\chkW p.wt=0:=by
 unfold checkP at h
 by_cases h1:nameB p.name=false
 ·rw[if_pos h1] at h;cases h
 rw[if_neg h1] at h
 by_cases h2:verE p.ver≠0
 ·rw[if_pos h2] at h;exact absurd h h2
 rw[if_neg h2] at h
 by_cases h3:16<p.deps.length
 ·rw[if_pos h3] at h;cases h
 rw[if_neg h3] at h
 by_cases h4:depsE p.deps≠0
 ·rw[if_pos h4] at h;exact absurd h h4
 rw[if_neg h4] at h
 by_cases h5:16<p.confl.length
 ·rw[if_pos h5] at h;cases h
 rw[if_neg h5] at h
 by_cases h6:atomsE p.confl≠0
 ·rw[if_pos h6] at h;exact absurd h h6
 rw[if_neg h6] at h
 by_cases h7:16<p.prov.length
 ·rw[if_pos h7] at h;cases h
 rw[if_neg h7] at h
 by_cases h8:givesE p.prov≠0
 ·rw[if_pos h8] at h;exact absurd h h8
 rw[if_neg h8] at h
 refine⟨?_,Decidable.not_not.1 h2,by omega,Decidable.not_not.1 h4,by omega,Decidable.not_not.1 h6,by omega,Decidable.not_not.1 h8,h⟩
 cases hb:nameB p.name
 ·exact absurd hb h1
 ·rfl
theorem a9:∀ {l:List Atm},atomsE l=0->∀ a∈l,checkA a=0
 | [],_,a,ha=>by cases ha
 | b :: l,h,a,ha=>by
  unfold atomsE at h
  by_cases h1:checkA b=0
  ·rw[if_pos h1] at h
   rcases List.mem_cons.1 ha with rfl | ha
   ·exact h1
   ·exact a9 h a ha
  ·rw[if_neg h1] at h;exact absurd h h1
theorem bI:∀ {l:List Gv},givesE l=0->∀ a∈l,giveE a=0
 | [],_,a,ha=>by cases ha
 | b :: l,h,a,ha=>by
  unfold givesE at h
  by_cases h1:giveE b=0
  ·rw[if_pos h1] at h
   rcases List.mem_cons.1 ha with rfl | ha
   ·exact h1
   ·exact bI h a ha
  ·rw[if_neg h1] at h;exact absurd h h1
theorem bC:∀ {l:List (List Atm)},depsE l=0->∀ d∈l,1<=d.length/\d.length<=8/\atomsE d=0
 | [],_,a,ha=>by cases ha
 | b :: l,h,a,ha=>by
  unfold depsE at h
  by_cases h1:1<=b.length/\b.length<=8
  ·rw[if_pos h1] at h
   by_cases h2:atomsE b=0
   ·rw[if_pos h2] at h
    rcases List.mem_cons.1 ha with rfl | ha
    ·exact⟨h1.1,h1.2,h2⟩
    ·exact bC h a ha
   ·rw[if_neg h2] at h;exact absurd h h2
  ·rw[if_neg h1] at h;cases h
theorem dD {v:List UInt8}(h:verE v=0):Vm.check v=0/\Vm.canon v=v:=by
 unfold verE at h
 split at h
 ·rename_i h1
  split at h
  ·rename_i h2;exact⟨h1,h2⟩
  ·cases h
 ·rename_i h1;exact absurd h h1
theorem dN {g:Gv}(h:giveE g=0):nameB g.name=true/\(g.ver=[]\/verE g.ver=0):=by
 unfold giveE at h
 split at h
 ·rename_i h1
  split at h
  ·rename_i h2;exact⟨h1,Or.inl h2⟩
  ·exact⟨h1,Or.inr h⟩
 ·cases h
theorem xn {B:Nat}:∀ (l:List (List UInt8)),(∀ x∈l,x.length<=B)->Lib.lens l<=l.length*B
 | [],_=>by simp[Lib.lens]
 | x :: l,h=>by
  have h1:=xn l (fun y hy=>h y (List.mem_cons_of_mem _ hy))
  have h2:=h x (List.mem_cons_self ..)
  have e:Lib.lens (x :: l)=x.length+Lib.lens l:=by simp[Lib.lens]
  rw[e,List.length_cons,Nat.add_mul]
  omega
theorem join_le {B:Nat}(l:List (List UInt8))(sep:List UInt8)(h:∀ x∈l,x.length<=B):(Lib.join l sep).length<=l.length*(B+sep.length):=by
 cases l with
 | nil=>simp[Lib.join_nil]
 | cons x r =>
  rw[Lib.join_length]
  have h1:=xn (x :: r) h
  have h2:sep.length*r.length<=(r.length+1)*sep.length:=by rw[Nat.mul_comm];exact Nat.mul_le_mul_right _ (Nat.le_succ _)
  rw[List.length_cons] at h1 ⊢
  rw[Nat.mul_add]
  omega
theorem xo {l:List Atm}(h:atomsE l=0):ATxt l:=fun a ha=>by
 obtain⟨h1,h2,_⟩:=dL (a9 h a ha)
 exact⟨Nat.le_trans (cU h1) (by decide),ov h2,h2⟩
theorem xp {l:List Atm}(h:atomsE l=0):AFew l:=fun a ha=>by
 obtain⟨h1,h2,_⟩:=dL (a9 h a ha)
 exact⟨Nat.le_trans (cU h1) (by decide),Nat.le_trans (ov h2) (by decide)⟩
theorem jW {l:List Atm}(h:atomsE l=0):∀ x∈l.map textA,x.length<=1000:=fun x hx=>by
 obtain⟨a,ha,rfl⟩:=List.mem_map.1 hx
 exact wR (a9 h a ha)
theorem lZ {d:List Atm}(h:atomsE d=0)(hl:d.length<=8):(depT d).length<=8032:=by
 have h1:=join_le (d.map textA) orT (jW h)
 rw[List.length_map] at h1
 have h2:d.length*(1000+orT.length)<=8*1004:=Nat.mul_le_mul_right _ hl
 exact Nat.le_trans h1 h2
theorem uo {p:Pk}(h:depsE p.deps=0)(hl:p.deps.length<=16):(depsT p).length<=128544:=by
 have h1:=join_le (B:=8032) (p.deps.map depT) semi (fun x hx=>by
  obtain⟨d,hd,rfl⟩:=List.mem_map.1 hx
  obtain⟨_,q1,q2⟩:=bC h d hd
  exact lZ q2 q1)
 rw[List.length_map] at h1
 have h2:p.deps.length*(8032+semi.length)<=16*8034:=Nat.mul_le_mul_right _ hl
 exact Nat.le_trans h1 h2
theorem qV {p:Pk}(h:atomsE p.confl=0)(hl:p.confl.length<=16):(conflT p).length<=16032:=by
 have h1:=join_le (p.confl.map textA) semi (jW h)
 rw[List.length_map] at h1
 have h2:p.confl.length*(1000+semi.length)<=16*1002:=Nat.mul_le_mul_right _ hl
 exact Nat.le_trans h1 h2
theorem l8 {g:Gv}(h:giveE g=0):g.name.length<=24/\g.ver.length<=40/\(gvT g).length<=67:=by
 obtain⟨h1,h2⟩:=dN h
 have hn:=cU h1
 have hv:g.ver.length<=40:=by
  rcases h2 with h2 | h2
  ·rw[h2];exact Nat.zero_le _
  ·exact (Vm.bU (dD h2).1).1
 refine⟨hn,hv,?_⟩
 unfold gvT
 split
 ·omega
 ·simp only[List.length_append,List.length_cons,List.length_nil];omega
theorem ad4 {l:List Gv}(h:givesE l=0):GTxt l:=fun g hg=>by
 obtain⟨h1,h2,_⟩:=l8 (bI h g hg)
 exact⟨by omega,by omega⟩
theorem uq {p:Pk}(h:givesE p.prov=0)(hl:p.prov.length<=16):(provT p).length<=1104:=by
 have h1:=join_le (B:=67) (p.prov.map gvT) semi (fun x hx=>by
  obtain⟨d,hd,rfl⟩:=List.mem_map.1 hx
  exact (l8 (bI h d hd)).2.2)
 rw[List.length_map] at h1
 have h2:p.prov.length*(67+semi.length)<=16*69:=Nat.mul_le_mul_right _ hl
 exact Nat.le_trans h1 h2
theorem qW {p:Pk}(h:checkP p=0)(hw:p.wt<Wm.W):PTxt p:=by
 obtain⟨h1,h2,h3,h4,h5,h6,h7,h8,h9⟩:=dC h
 have hv:=(Vm.bU (dD h2).1).1
 have hn:=cU h1
 refine⟨by omega,by omega,by omega,fun d hd=>?_,Nat.le_trans (uo h4 h3) (by decide),by omega,xo h6,Nat.le_trans (qV h6 h5) (by decide),by omega,ad4 h8,Nat.le_trans (uq h8 h7) (by decide),hw⟩
 obtain⟨_,q1,q2⟩:=bC h4 d hd
 exact⟨by omega,xo q2,Nat.le_trans (lZ q2 q1) (by decide)⟩
theorem aaJ {p:Pk}(h:checkP p=0)(hw:p.wt<Wm.W):PFew p:=by
 obtain⟨h1,h2,h3,h4,h5,h6,h7,h8,h9⟩:=dC h
 have hn:=cU h1
 refine⟨Nat.le_trans hn (by decide),by omega,fun d hd=>?_,by omega,xp h6,by omega,fun g hg=>?_,hw⟩
 ·obtain⟨_,q1,q2⟩:=bC h4 d hd
  exact⟨by omega,xp q2⟩
 ·obtain⟨q1,q2,_⟩:=l8 (bI h8 g hg)
  exact⟨Nat.le_trans q1 (by decide),Nat.le_trans q2 (by decide)⟩
theorem wb {p:Pk}(h:checkP p=0):Vm.check p.ver=0/\∀ g∈p.prov,g.ver=[]\/Vm.check g.ver=0:=by
 obtain⟨h1,h2,h3,h4,h5,h6,h7,h8,h9⟩:=dC h
 refine⟨(dD h2).1,fun g hg=>?_⟩
 obtain⟨_,q⟩:=dN (bI h8 g hg)
 exact q.imp id fun q=>(dD q).1
end Pg
end
end Go.Proofs.YtpfkphmldalmmaaGreatDoor
