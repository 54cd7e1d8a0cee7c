/- Part 30 of what the laws lean on. -/
import Derived.Test.YtgnaiidgjmicaaaGreatDoorM29
set_option maxRecDepth 100000
set_option maxHeartbeats 12800000
namespace Go.Proofs.YtgnaiidgjmicaaaGreatDoor
section
open Go.RowKit Rs At Pg Rp
attribute [local go_sem ↓] Go.wp_at_zero Go.wp_at_succ
attribute [local go_sem] Pg.av
theorem Rp.abL (i:Int):okRp i 0=.returned (.tuple #[]):=rfl
theorem Rp.pW {i k:Int}(h:k≠0):okRp i k=panAt i k:=if_neg h
theorem iK (A:Option Addr)(n c:Nat)(l:List Pk)(w:World)(hw:MaxOk w)(hn:l.length=n)(hr:RRow w A l)(hf:RFew l) :
  Calls Tryz.prog 67 #[.slice A n c] w fun e w'=>e=okR n (chkF 0 none l)/\Below w.heap.size w w':=by
 have HM:=zh (fun u (h:Below w.heap.size w u)=>ag hw h)
 have HN:=zh hn
 have HR:=zh hr
 have HF:=zh hf
 clear hw hn hr hf
 by_cases an:64<n
 ·have d:decide ((n:Int)<=64)=false:=decide_eq_false (by omega)
  have HE:Hid (okR n (chkF 0 none l)=pan 4):=if_pos an
  clear an
  go_enter Tryz.func67,Tryz.ntmps67
  go_wp2_with fail
  refine (au _).mono ?_
  rintro _ z ⟨rfl,rfl⟩
  go_wp2_with fail
  exact⟨rfl,by rw[HE.out],Below.refl _ _⟩
 have aZ:n<=64:=by omega
 have d:decide ((n:Int)<=64)=true:=decide_eq_true (by omega)
 obtain⟨R,hR⟩:=ex (chkF 0 none l)
 have HE:Hid (okR n R=okRp R.1 R.2):=if_neg an
 rw[hR,HE.out]
 have a0:=zh hR
 clear an hR HE
 go_enter Tryz.func67,Tryz.ntmps67
 go_wp2_with fail
 refine (ak _).mono ?_
 rintro _ z ⟨rfl,rfl⟩
 clear d
 go_wp2_with fail
 go_loopw [12] (fun i wr=>∃ k:Nat,k<=n/\i=.int .i64 k/\Hid (chkF k (prevP l k) (l.drop k)=R)/\Hid (∀ p∈l.take k,checkP p=0)/\Hid (Below w.heap.size w wr)) (fun i _=>n-(intOf i).toNat)
 case atStart=>exact⟨0,Nat.zero_le _,rfl,a0.out,fun p h=>(by cases h),Below.refl _ _⟩
 case round =>
  obtain⟨k,hk,rfl,HI,HO,HB⟩:=hrel
  by_cases aL:k<n
  ·have ae:=zh aL
   have ao:k<l.length:=by rw[HN.out];exact aL
   obtain⟨s1,s2,s3⟩:=abm ao HI.out
   obtain⟨ad,D,dc,C,cc,G,gc,rfl,hd,hc,hg,aa⟩:=aY HR.out k ao
   have aC:=pK HF.out k ao
   have aD:∀ p∈l.take (k+1),p∈l.take k\/p=l[k]:=fun p hp=>by
    rw[List.take_succ_eq_append_getElem ao] at hp
    rcases List.mem_append.1 hp with h | h
    ·exact Or.inl h
    ·exact Or.inr (List.mem_singleton.1 h)
   obtain⟨q,hq⟩:=ex (l[k])
   rw[hq] at hd hc hg aa aC s1 s2 s3 aD
   obtain⟨c0,c1,c2,c3,c4,c5⟩:=aa _ HB.out
   obtain⟨nm,h0⟩:=ex q.name
   obtain⟨vr,h1⟩:=ex q.ver
   obtain⟨dn,h2⟩:=ex q.deps.length
   obtain⟨cn,h3⟩:=ex q.confl.length
   obtain⟨gn,h4⟩:=ex q.prov.length
   obtain⟨wt,h5⟩:=ex q.wt
   rw[h0] at c0
   rw[h1] at c1
   rw[h2] at c2
   rw[h3] at c3
   rw[h4] at c4
   rw[h5] at c5
   obtain⟨bx,aX⟩:=ex wr.heap.size
   obtain⟨V,hV⟩:=ex (wr.alloc (.cells #[.string ⟨nm.toArray⟩,.string ⟨vr.toArray⟩,.slice D dn dc,.slice C cn cc,.slice G gn gc,.float .f64 wt] 68))
   have HV:Hid (Below wr.heap.size wr V):=ai hV
   have ac:Hid (Below w.heap.size w V):=bt HB.out HV.out
   have aM:Hid (∀ u,Below V.heap.size V u->u.cell? ⟨bx,0,none⟩=some (.string ⟨nm.toArray⟩)/\u.cell? ⟨bx,1,none⟩=some (.string ⟨vr.toArray⟩)/\u.cell? ⟨bx,2,none⟩=some (.slice D dn dc)/\u.cell? ⟨bx,3,none⟩=some (.slice C cn cc)/\u.cell? ⟨bx,4,none⟩=some (.slice G gn gc)/\u.cell? ⟨bx,5,none⟩=some (.float .f64 wt)):=fun u h=>by
    rw[<-aX]
    exact aw hV h
   obtain⟨x,hx⟩:=ex (checkP q)
   have HC:=zh (ady (HM.out V ac.out) q D C G dn dc cn cc gn gc (aJ hd ac.out) h2 (ay hc ac.out) h3 (Rg.aj hg ac.out) h4 aC h0 h1 h5 hx)
   rw[hx] at s1 s2 s3
   have aN:=zh s1
   have aO:=zh s2
   have aP:=zh s3
   have HX:=zh hx
   have H0:=zh h0
   have H1:=zh h1
   have a1:=zh aD
   obtain⟨g0,g1,g2,g3,g4,g5⟩:=aM.out V (Below.refl _ _)
   clear hq hd hc hg aa aC s1 s2 s3 aD h0 h1 h2 h3 h4 h5 hx
   go_wp2_with fail
   clear hV aX c0 c1 c2 c3 c4 c5 g0 g1 g2 g3 g4 g5
   refine HC.out.mono ?_
   rintro _ u ⟨rfl,hb⟩
   have a2:Hid (Below V.heap.size V u):=hb
   have HU:Hid (Below w.heap.size w u):=bt ac.out hb
   clear hb HC
   by_cases am:x=0
   ·subst am
    have d1:((0:Int)==0)=true:=rfl
    have aQ:Hid (∀ p∈l.take (k+1),checkP p=0):=fun p hp=>by
     rcases a1.out p hp with h | rfl
     ·exact HO.out p h
     ·exact HX.out
    go_wp2_with fail
    refine (aG _).mono ?_
    rintro _ z ⟨rfl,rfl⟩
    clear d1
    by_cases aF:k=0
    ·have a3:=zh (aO.out trivial aF)
     have d0:decide (0<k)=false:=decide_eq_false (by omega)
     clear aF
     go_wp2_with fail
     go_roundw
     case rel=>exact⟨k+1,(by have:=ae.out;omega),by go_num,a3.out,aQ.out,HU.out⟩
     case measure=>have:=ae.out;simp[intOf];omega
    ·obtain⟨p,hp⟩:∃ p,p+1=k:=⟨k-1,by omega⟩
     have aR:p<l.length:=by have:=ae.out;have:=HN.out;omega
     obtain⟨t1,t2,t3⟩:=aP.out trivial p aR hp
     have ap:Vm.check l[p].ver=0:=eL (HO.out _ (List.mem_take_iff_getElem.2 ⟨p,by have:=HN.out;have:=ae.out;omega,rfl⟩))
     obtain⟨bc,D2,aq,C2,ar,G2,av,e',_,_,_,aa⟩:=aY HR.out p aR
     cases e'
     obtain⟨P,hP⟩:=ex (l[p])
     rw[hP] at t1 t2 t3 ap aa
     obtain⟨ah,i0⟩:=ex P.name
     obtain⟨al,i1⟩:=ex P.ver
     obtain⟨ax,i2⟩:=ex P.deps.length
     obtain⟨az,i3⟩:=ex P.confl.length
     obtain⟨aA,i4⟩:=ex P.prov.length
     obtain⟨aB,i5⟩:=ex P.wt
     have aS:cmpP P q=Vm.both (Lib.compareBytes ah nm) (Vm.cmpV al vr):=by unfold cmpP;rw[i0,i1,H0.out,H1.out]
     obtain⟨y,hy⟩:=ex (Vm.both (Lib.compareBytes ah nm) (Vm.cmpV al vr))
     rw[aS,hy] at t1 t2 t3
     rw[i0,i1,i2,i3,i4,i5] at aa
     have aT:Vm.check vr=0:=by rw[<-H1.out];exact eL HX.out
     rw[i1] at ap
     have aU:Hid (∀ u,Below V.heap.size V u->(u.cell? ⟨bx,0,none⟩=some (.string ⟨nm.toArray⟩)/\u.cell? ⟨bx,1,none⟩=some (.string ⟨vr.toArray⟩)/\u.cell? ⟨bx,2,none⟩=some (.slice D dn dc)/\u.cell? ⟨bx,3,none⟩=some (.slice C cn cc)/\u.cell? ⟨bx,4,none⟩=some (.slice G gn gc)/\u.cell? ⟨bx,5,none⟩=some (.float .f64 wt))/\(u.cell? (ad.add (p*6))=some (.string ⟨ah.toArray⟩)/\u.cell? ⟨(ad.add (p*6)).block,(ad.add (p*6)).off+1,none⟩=some (.string ⟨al.toArray⟩)/\u.cell? ⟨(ad.add (p*6)).block,(ad.add (p*6)).off+2,none⟩=some (.slice D2 ax aq)/\u.cell? ⟨(ad.add (p*6)).block,(ad.add (p*6)).off+3,none⟩=some (.slice C2 az ar)/\u.cell? ⟨(ad.add (p*6)).block,(ad.add (p*6)).off+4,none⟩=some (.slice G2 aA av)/\u.cell? ⟨(ad.add (p*6)).block,(ad.add (p*6)).off+5,none⟩=some (.float .f64 aB))):=fun u' h=>⟨aM.out u' h,aa u' (bt ac.out h)⟩
     have FC:Hid (∀ u',Below V.heap.size V u'->Calls Tryz.prog 107 #[.agg #[.string ⟨ah.toArray⟩,.string ⟨al.toArray⟩,.slice D2 ax aq,.slice C2 az ar,.slice G2 aA av,.float .f64 aB],.agg #[.string ⟨nm.toArray⟩,.string ⟨vr.toArray⟩,.slice D dn dc,.slice C cn cc,.slice G gn gc,.float .f64 wt]] u' fun e w'=>e=.returned (.int .i64 y)/\Below u'.heap.size u' w'):=fun u' h=>by
      rw[<-hy]
      exact iI ah al nm vr D2 C2 G2 D C G ax aq az ar aA av dn dc cn cc gn gc aB wt u' (HM.out u' (bt ac.out h)) ap aT
     have aV:(k:Int)-1=(p:Int):=by omega
     have a4:IntKind.i64.wrap ((k:Int)-1)=(p:Int):=by rw[aV];exact IntWalk.i64_in _ (by omega)
     have a5:(p:Int)<(n:Int):=by have:=ae.out;omega
     have a6:(0:Int)<=(p:Int):=by omega
     have a7:IntKind.i64.wrap (p:Int)=(p:Int):=IntWalk.i64_in _ (by omega)
     have d0:decide (0<k)=true:=decide_eq_true (by omega)
     have aH:Hid (Below V.heap.size V u.drew):=a2.out.drew
     have a8:=zh t1
     have a9:=zh t2
     have ba:=zh t3
     clear t1 t2 t3 ap aT aa hP i0 i1 i2 i3 i4 i5 aS hy hp aF aN aO aP
     go_wp2_with fail
     go_region_held3 (fun u=>(u.cell? ⟨bx,0,none⟩=some (.string ⟨nm.toArray⟩)/\u.cell? ⟨bx,1,none⟩=some (.string ⟨vr.toArray⟩)/\u.cell? ⟨bx,2,none⟩=some (.slice D dn dc)/\u.cell? ⟨bx,3,none⟩=some (.slice C cn cc)/\u.cell? ⟨bx,4,none⟩=some (.slice G gn gc)/\u.cell? ⟨bx,5,none⟩=some (.float .f64 wt))/\(u.cell? (ad.add (p*6))=some (.string ⟨ah.toArray⟩)/\u.cell? ⟨(ad.add (p*6)).block,(ad.add (p*6)).off+1,none⟩=some (.string ⟨al.toArray⟩)/\u.cell? ⟨(ad.add (p*6)).block,(ad.add (p*6)).off+2,none⟩=some (.slice D2 ax aq)/\u.cell? ⟨(ad.add (p*6)).block,(ad.add (p*6)).off+3,none⟩=some (.slice C2 az ar)/\u.cell? ⟨(ad.add (p*6)).block,(ad.add (p*6)).off+4,none⟩=some (.slice G2 aA av)/\u.cell? ⟨(ad.add (p*6)).block,(ad.add (p*6)).off+5,none⟩=some (.float .f64 aB)))
      (first
       | with_reducible exact aU.out _ aH.out
       | with_reducible exact aU.out _ aW.out)
      ((go_at_call 107;refine (FC.out _ aH.out).mono ?_;rintro _ u2 ⟨rfl,hb⟩;have aW:=zh (bt aH.out hb);clear hb))
     have aI:Hid (Below w.heap.size w u2):=bt ac.out aW.out
     clear aV a4 a7 a5 a6 FC
     by_cases af:y=0
     ·have ab:=zh (a8.out af)
      have d2:(y != 0)=false:=by simpa using af
      clear af
      go_wp2_with fail
      refine (aE _).mono ?_
      rintro _ z ⟨rfl,rfl⟩
      go_wp2_with fail
      exact⟨rfl,by rw[ab.out];rfl,aI.out⟩
     ·have d2:(y != 0)=true:=by simpa using af
      have HY:=zh af
      clear af
      go_wp2_with fail
      refine (aG _).mono ?_
      rintro _ z ⟨rfl,rfl⟩
      clear d2
      by_cases aK:0<y
      ·have ab:=zh (a9.out HY.out aK)
       have d3:decide (y<0)=false:=decide_eq_false (by omega)
       clear aK
       go_wp2_with fail
       refine (aE _).mono ?_
       rintro _ z ⟨rfl,rfl⟩
       go_wp2_with fail
       exact⟨rfl,by rw[ab.out];rfl,aI.out⟩
      ·have ab:=zh (ba.out HY.out (by omega))
       have d3:decide (y<0)=true:=decide_eq_true (by have:=HY.out;omega)
       clear aK
       go_wp2_with fail
       refine (aG _).mono ?_
       rintro _ z ⟨rfl,rfl⟩
       clear d3
       go_wp2_with fail
       go_roundw
       case rel=>exact⟨k+1,(by have:=ae.out;omega),by go_num,ab.out,aQ.out,aI.out⟩
       case measure=>have:=ae.out;simp[intOf];omega
   ·have ab:=zh (aN.out am)
    have d1:(x==0)=false:=by simpa using am
    have bb:=zh am
    clear am
    go_wp2_with fail
    refine (aE _).mono ?_
    rintro _ z ⟨rfl,rfl⟩
    go_wp2_with fail
    exact⟨rfl,by rw[ab.out];exact (pW bb.out).symm,HU.out⟩
  ·obtain rfl:k=n:=by omega
   have hI:=HI.out
   rw[List.drop_eq_nil_of_le (by rw[HN.out];exact Nat.le_refl _)] at hI
   have ab:Hid (R=(0,0)):=hI.symm
   clear hI
   go_wp2_with fail
   go_end0
   exact⟨by rw[ab.out];rfl,HB.out⟩
end
section
open Go.RowKit Rs At Pg Rp
theorem r6 (p q:Addr)(x y n:Int)(w:World)(hc:w.cell? p=some (.int .i64 x))(hz:w.frozen? p=false)(hc2:(w.setCell p (.int .i64 0)).cell? q=some (.int .i64 y))(hz2:(w.setCell p (.int .i64 0)).frozen? q=false) :
  CallsD Tryz.prog 71 #[.pointer (some p),.pointer (some q)] (.panicking [{ v:=.iface 77 (.int .i64 n),recovered:=false }]) w fun e u' w' =>
   e=.returned (.tuple #[])/\u'=.panicking [{ v:=.iface 77 (.int .i64 n),recovered:=true }]/\w'=(w.setCell p (.int .i64 0)).setCell q (.int .i64 n):=by
 refine callsD_of_wpS Tryz.func71 rfl fun c₀ cs hu=>?_
 apply wpS_region
 simp[wpOpsS,go_sem,recoverD,hu,Tryz.ntmps71]
 refine (eC n _).mono ?_
 rintro e w' ⟨rfl,rfl⟩
 simp[go_sem,hc,hz,hc2,hz2,bodyPostS,results,Tryz.results71]
theorem pX (p q:Addr)(x y k n:Int)(w:World)(hc:∀ u,Below w.heap.size w u->u.cell? p=some (.int .i64 x))(hz:∀ u,Below w.heap.size w u->u.frozen? p=false)(hc2:∀ u,Below w.heap.size w u->(u.setCell p (.int .i64 k)).cell? q=some (.int .i64 y))(hz2:∀ u,Below w.heap.size w u->(u.setCell p (.int .i64 k)).frozen? q=false) :
  CallsD Tryz.prog 71 #[.pointer (some p),.pointer (some q)] (.panicking [{ v:=.iface 158 (.agg #[.int .i64 k,.int .i64 n]),recovered:=false }]) w fun e u' w' =>
   e=.returned (.tuple #[])/\u'=.panicking [{ v:=.iface 158 (.agg #[.int .i64 k,.int .i64 n]),recovered:=true }]/\∃ u,Below w.heap.size w u/\w'=(u.setCell p (.int .i64 k)).setCell q (.int .i64 n):=by
 refine callsD_of_wpS Tryz.func71 rfl fun c₀ cs hu=>?_
 apply wpS_region
 simp[wpOpsS,go_sem,recoverD,hu,Tryz.ntmps71]
 refine (bN k n _).mono ?_
 rintro e w' ⟨rfl,hb⟩
 simp[go_sem,hc _ hb,hz _ hb,hc2 _ hb,hz2 _ hb,bodyPostS,results,Tryz.results71]
 exact⟨w',hb,rfl⟩
theorem vk (p q:Addr)(x y:Int)(w:World)(hc:w.cell? p=some (.int .i64 x))(hz:w.frozen? p=false)(hc2:(w.setCell p (.int .i64 0)).cell? q=some (.int .i64 y))(hz2:(w.setCell p (.int .i64 0)).frozen? q=false) :
  CallsD Tryz.prog 71 #[.pointer (some p),.pointer (some q)] .returning w fun e u' w'=>e=.returned (.tuple #[])/\u'=.returning/\w'=(w.setCell p (.int .i64 0)).setCell q (.int .i64 0):=by
 refine callsD_of_wpS Tryz.func71 rfl fun c₀ cs hu=>?_
 apply wpS_region
 simp[wpOpsS,go_sem,recoverD,hu,Tryz.ntmps71]
 refine (cJ _).mono ?_
 rintro e w' ⟨rfl,rfl⟩
 cases c₀
 simp_all [go_sem,bodyPostS,results,Tryz.results71]
theorem Rp.vl {l:List Pk}{n:Nat}(hn:l.length=n):(64<n->chkR l=(0,4))/\(¬ 64<n->chkR l=chkF 0 none l):=by
 subst hn
 exact⟨fun h=>if_pos h,fun h=>if_neg h⟩
theorem Rp.ng:∀ (l:List Pk) (i:Nat) (o:Option Pk),(chkF i o l).2=0->(chkF i o l).1=0
 | [],_,_,_=>rfl
 | p :: l,i,o,h=>by
  unfold chkF at h ⊢
  split at h
  ·rename_i hc;exact absurd h hc
  ·rename_i hc
   rw[if_neg hc]
   split at h
   ·exact ng l _ _ h
   ·split at h
    ·exact absurd h (show (6:Int)≠0 by decide)
    ·rename_i h1
     rw[if_neg h1]
     split at h
     ·exact absurd h (show (7:Int)≠0 by decide)
     ·rename_i h2
      rw[if_neg h2]
      exact ng l _ _ h
attribute [local go_sem ↓] Go.wp_at_zero Go.wp_at_succ
theorem r8 (A:Option Addr)(n c:Nat)(l:List Pk)(w:World)(hw:MaxOk w)(hn:l.length=n)(hr:RRow w A l)(hf:RFew l) :
  Calls Tryz.prog 33 #[.slice A n c] w fun e w'=>e=.returned (.tuple #[.int .i64 (chkR l).1,.int .i64 (chkR l).2])/\Below w.heap.size w w':=by
 have am:∀ (fn:Fn) (first cap:Array Value) (w:World),(Instr.makeFunc fn first cap).run Tryz.prog w=.ok (.func fn first cap) w:=fun _ _ _ _=>rfl
 obtain⟨X,hX⟩:=ex (chkR l)
 rw[hX]
 obtain⟨x1,x2⟩:=vl hn
 obtain⟨W1,ad⟩:=ex (w.alloc (.cells #[.int .i64 0] 3))
 obtain⟨W2,af⟩:=ex (W1.alloc (.cells #[.int .i64 0] 77))
 have aa:Hid (∀ u,Below W2.heap.size W2 u->Sz.P2 w.heap.size u):=fun u hb=>Sz.oD ad af hb
 have an:W1.heap.size=w.heap.size+1:=by rw[<-ad];simp
 have ae:Hid (Below w.heap.size w W2):=(ai ad).trans ((ai af).mono (ai ad).size)
 have HQ:=zh (iK A n c l W2 (ag hw ae.out) hn (bb hr ae.out) hf)
 clear hw hn hr hf
 by_cases ac:64<n
 ·have HX:Hid (X=(0,4)):=by show _=_;rw[<-hX];exact x1 ac
  have ab:Hid (Calls Tryz.prog 67 #[.slice A n c] W2 fun e w'=>e=pan 4/\Below W2.heap.size W2 w'):=HQ.out.mono fun _ _ h=>by unfold okR at h;rw[if_pos ac] at h;exact h
  clear hX x1 x2 HQ ac
  go_enter_defers Tryz.func33,Tryz.ntmps33
  go_wp2_with fail
  clear ad af
  refine ab.out.mono ?_
  rintro _ z1 ⟨rfl,hb⟩
  have HB:=zh hb
  clear hb
  obtain⟨c0,f0,c1,f1⟩:=Sz.aL (aa.out _ HB.out)
  obtain⟨d0,g0,d1,g1⟩:=Sz.aM (aa.out _ HB.out) (.int .i64 0)
  obtain⟨q0,q1⟩:=Sz.bO (aa.out _ HB.out) (.int .i64 0) (.int .i64 4)
  go_wp2_with fail
  refine leaves_cons (f:=71) (args:=#[.pointer (some ⟨w.heap.size,0,none⟩),.pointer (some ⟨w.heap.size+1,0,none⟩)]) (by simp) (by simp[go_sem]) ?_
  refine (r6 ⟨w.heap.size,0,none⟩ ⟨w.heap.size+1,0,none⟩ 0 0 4 _ c0 f0 d1 g1).mono ?_
  rintro e u' w3 ⟨rfl,rfl,rfl⟩
  simp[Leaves,settle,results,Tryz.results33,go_sem,q0,q1]
  exact⟨by rw[HX.out];exact⟨rfl,rfl⟩,((bt ae.out HB.out).setCell (Nat.le_refl _) _).setCell (Nat.le_succ _) _⟩
 obtain⟨k,m⟩:=X
 rw[hX] at x2
 have h2:=x2 ac
 have ab:Hid (Calls Tryz.prog 67 #[.slice A n c] W2 fun e w'=>e=okRp k m/\Below W2.heap.size W2 w'):=HQ.out.mono fun _ _ h=>by unfold okR at h;rw[if_neg ac,<-h2] at h;exact h
 have ak:Hid (m=0->k=0):=fun h=>by have:=ng l 0 none (by rw[<-h2];exact h);rw[<-h2] at this;exact this
 clear hX x1 x2 h2 HQ ac
 go_enter_defers Tryz.func33,Tryz.ntmps33
 go_wp2_with fail
 clear ad af
 refine ab.out.mono ?_
 rintro _ z1 ⟨rfl,hb⟩
 have HB:=zh hb
 clear hb
 by_cases hm:m=0
 ·subst hm
  obtain rfl:=ak.out rfl
  rw[abL]
  obtain⟨c0,f0,c1,f1⟩:=Sz.aL (aa.out _ HB.out)
  obtain⟨d0,g0,d1,g1⟩:=Sz.aM (aa.out _ HB.out) (.int .i64 0)
  have ah:=zh (Sz.gR (aa.out _ HB.out))
  have al:Hid (Below w.heap.size w ((z1.setCell ⟨w.heap.size,0,none⟩ (.int .i64 0)).setCell ⟨w.heap.size+1,0,none⟩ (.int .i64 0))):=((bt ae.out HB.out).setCell (Nat.le_refl _) _).setCell (Nat.le_succ _) _
  go_wp2_with fail
  generalize (z1.setCell ⟨w.heap.size,0,none⟩ (.int .i64 0)).setCell ⟨w.heap.size+1,0,none⟩ (.int .i64 0)=V at *
  obtain⟨k0,m0,k1,m1⟩:=Sz.aL ah.out
  obtain⟨l0,o0,l1,o1⟩:=Sz.aM ah.out (.int .i64 0)
  obtain⟨q0,q1⟩:=Sz.bO ah.out (.int .i64 0) (.int .i64 0)
  refine leaves_cons (f:=71) (args:=#[.pointer (some ⟨w.heap.size,0,none⟩),.pointer (some ⟨w.heap.size+1,0,none⟩)]) (by simp) (by simp[go_sem]) ?_
  refine (vk ⟨w.heap.size,0,none⟩ ⟨w.heap.size+1,0,none⟩ 0 0 _ k0 m0 l1 o1).mono ?_
  rintro e u' w3 ⟨rfl,rfl,rfl⟩
  simp[Leaves,settle,results,Tryz.results33,go_sem,q0,q1]
  exact (al.out.setCell (Nat.le_refl _) _).setCell (Nat.le_succ _) _
 ·rw[pW hm]
  clear hm
  go_wp2_with fail
  refine leaves_cons (f:=71) (args:=#[.pointer (some ⟨w.heap.size,0,none⟩),.pointer (some ⟨w.heap.size+1,0,none⟩)]) (by simp) (by simp[go_sem]) ?_
  refine (pX ⟨w.heap.size,0,none⟩ ⟨w.heap.size+1,0,none⟩ 0 0 k m _ (fun u hb=>(Sz.aL (aa.out _ (bt HB.out hb))).1) (fun u hb=>(Sz.aL (aa.out _ (bt HB.out hb))).2.1) (fun u hb=>(Sz.aM (aa.out _ (bt HB.out hb)) _).2.2.1) (fun u hb=>(Sz.aM (aa.out _ (bt HB.out hb)) _).2.2.2)).mono ?_
  rintro e u' w3 ⟨rfl,rfl,u,hb,rfl⟩
  have aj:=zh (bt HB.out hb)
  obtain⟨q0,q1⟩:=Sz.bO (aa.out _ aj.out) (.int .i64 k) (.int .i64 m)
  simp[Leaves,settle,results,Tryz.results33,go_sem,q0,q1]
  exact ((bt ae.out aj.out).setCell (Nat.le_refl _) _).setCell (Nat.le_succ _) _
end
section
open Go.RowKit Rs At Pg Rp
attribute [local go_sem ↓] Go.wp_at_zero Go.wp_at_succ
attribute [local go_sem] Pg.av
namespace Rp
theorem sliceST:Rg.SliceT Tryz.prog encO 1 120 163:=⟨fitsO,by decide,by kernel_rfl,Rg.b8 (z:=.slice none 0 0) (b:=24) (by kernel_rfl) (by rfl) (by decide)⟩
theorem zeroST:∀ i,Tryz.prog.info? 163=some i->∀ z,i.zero=some z->∀ u∈z.cells,IsSl u:=lP (z0:=.slice none 0 0) (by kernel_rfl) (fun u hu=>by simp[Value.cells] at hu;exact⟨_,_,_,hu⟩)
def GOwn (w:World) (B:Nat) (v:Value) (t:List (List Sz.Fld)):Prop:=∃ ds,Rg.Own encO 1 w B 163 v ds/\Pure IsSl w v/\Gr.In Sz.encF 3 w ds t
theorem adL (w:World)(B:Nat):GOwn w B (.slice none 0 0) []:=⟨[],Rg.aB _ _ _,pure_nil _ _,rfl,fun i d l h=>by simp at h⟩
theorem zM {w w':World}{B:Nat}{v:Value}{t:List (List Sz.Fld)}(h:GOwn w B v t)(hb:Below w.heap.size w w'):GOwn w' B v t:=by
 obtain⟨ds,h1,h2,h3⟩:=h
 exact⟨ds,Rg.own_below h1 hb,c8 h2 h1 hb,Gr.jC h3 hb⟩
theorem adM {w:World}{B:Nat}{v:Value}{t:List (List Sz.Fld)}(h:GOwn w B v t):∃ A c,v=.slice A t.length c/\Gr.Row Sz.encF 3 w A t:=by
 obtain⟨ds,h1,_,h3⟩:=h
 obtain⟨A,c,hv,hr,_,_⟩:=Rg.aF fitsO h1
 rw[h3.1] at hv
 exact⟨A,c,hv,ds,hr,h3⟩
theorem adN (f:Sz.Fld):∃ t,(Sz.encF f)[0]?=some (.string t):=⟨_,rfl⟩
theorem afg {w u:World}{v:Value}{ds:List Desc}{t:List (List Sz.Fld)}{A:Option Addr}{n c:Nat}{l:List Sz.Fld}(h:Gr.In Sz.encF 3 w ds t)(hr:Rg.Row Sz.encF 3 w A l)(hn:l.length=n)(hp:Pure IsSl w v)(hg:w.grownBy u v.ownBlock):Gr.In Sz.encF 3 u (ds++[(A,n,c)]) (t++[l]):=by
 have far:∀ {B:Option Addr} {m:List Sz.Fld},Rg.Row Sz.encF 3 w B m->Rg.Row Sz.encF 3 u B m:=fun hm=>by
  refine cq hm (dD hg) fun h0 a ha e=>?_
  cases ho:v.ownBlock with
  | none=>rw[ho] at e;cases e
  | some g=>rw[ho] at e;exact abg hm adN (hp g ho) h0 a ha e
 refine⟨by rw[List.length_append,List.length_append,h.1];rfl,fun i d m e1 e2=>?_⟩
 rcases aU e1 with⟨q1,q2⟩ | ⟨q1,q2⟩
 ·rcases aU e2 with⟨_,p2⟩ | ⟨p1,_⟩
  ·exact⟨(h.2 i d m q2 p2).1,far (h.2 i d m q2 p2).2⟩
  ·have:=h.1;omega
 ·rcases aU e2 with⟨p1,_⟩ | ⟨_,p2⟩
  ·have:=h.1;omega
  ·subst q2 p2;exact⟨hn.symm,far hr⟩
def SofRet (w:World) (t:List (List Sz.Fld)) (e:Ending) (w':World):Prop:=∃ A c,e=.returned (.slice A t.length c)/\Gr.Row Sz.encF 3 w' A t/\Below w.heap.size w w'
def textR (l:List Pk):List UInt8:=Sz.textS (l.map toPk)
def printR (l:List Pk):List UInt8 × Int:=if (chkR l).2≠0 then ([],(chkR l).2) else if 65536<(textR l).length then ([],4) else (textR l,0)
end Rp
theorem r9 (A:Option Addr)(n c:Nat)(l:List Pk)(w:World)(hk:KOk w)(hn:l.length=n)(hr:RRow w A l)(hl:n<=1000)(ht:∀ p∈l,PTxt p) :
  Calls Tryz.prog 69 #[.slice A n c] w (SofRet w (l.map toPk)):=by
 have HK:=zh hk
 have HR:=zh hr
 have HN:=zh hn
 have HT:=zh ht
 clear hk hr hn ht
 go_enter Tryz.func69,Tryz.ntmps69
 go_wp2_with fail
 go_loopw [3,8] (fun v i wr=>∃ k:Nat,k<=n/\i=.int .i64 k/\Hid (GOwn wr w.heap.size v ((l.take k).map toPk))/\Hid (Below w.heap.size w wr/\w.heap.size<=wr.heap.size)) (fun _ i _=>n-(intOf i).toNat)
 case atStart=>exact⟨0,Nat.zero_le _,rfl,adL _ _,Below.refl _ _,Nat.le_refl _⟩
 case round =>
  obtain⟨k,hk,rfl,HO,HB⟩:=hrel
  by_cases aR:k<n
  ·have ag:k<l.length:=by rw[HN.out];exact aR
   obtain⟨ad,D,dc,C,cc,G,gc,rfl,pd,pc,pg,hc⟩:=aY HR.out k ag
   obtain⟨c0,c1,c2,c3,c4,c5⟩:=hc _ HB.out.1
   have ab:=HT.out _ (List.getElem_mem ag)
   have ac:(l.take (k+1)).map toPk=(l.take k).map toPk++[toPk l[k]]:=by rw[List.take_succ_eq_append_getElem ag,List.map_append];rfl
   obtain⟨a,ha⟩:=ex (l[k])
   rw[ha] at c0 c1 c2 c3 c4 c5 ab ac pd pc pg
   obtain⟨aX,aq⟩:=ex a.name
   obtain⟨aZ,ar⟩:=ex a.ver
   obtain⟨aG,au⟩:=ex a.deps.length
   obtain⟨aI,av⟩:=ex a.confl.length
   obtain⟨aK,ax⟩:=ex a.prov.length
   obtain⟨a0,aA⟩:=ex a.wt
   rw[aq] at c0
   rw[ar] at c1
   rw[au] at c2
   rw[av] at c3
   rw[ax] at c4
   rw[aA] at c5
   obtain⟨t0,aB⟩:=ex ((l.take k).map toPk)
   have aE:t0.length=k:=by rw[<-aB,List.length_map,List.length_take];omega
   rw[aB] at HO ac
   obtain⟨V,hV⟩:=ex (wr.alloc (.cells #[.string ⟨aX.toArray⟩,.string ⟨aZ.toArray⟩,.slice D aG dc,.slice C aI cc,.slice G aK gc,.float .f64 a0] 68))
   have HV:Hid (Below wr.heap.size wr V):=ai hV
   have ae:Hid (Below w.heap.size w V):=HB.out.1.trans (HV.out.mono HB.out.2)
   obtain⟨ts,aC⟩:=ex (toPk a)
   have ah:=zh (af9 (aH HK.out ae.out) a D C G aG dc aI cc aK gc (aJ pd ae.out) au (ay pc ae.out) av (Rg.aj pg ae.out) ax ab aq ar aA (n:=ts.length) (by rw[aC]))
   rw[aC] at ah ac
   obtain⟨m,hm⟩:=ex ts.length
   rw[hm] at ah
   have HM:=zh hm
   obtain⟨g0,g1,g2,g3,g4,g5⟩:=aw hV (Below.refl _ _)
   have aS:=zh ac
   have aT:=zh aE
   clear hc ag ha aq ar au av ax aA ab pd pc pg ac aB aE aC hm
   go_wp2_with fail
   clear hV
   refine ah.out.mono ?_
   rintro _ w1 ⟨F,fc,rfl,aa,aL⟩
   have ak:Hid (Below wr.heap.size wr w1):=bt HV.out aL
   have al:Hid (Below w.heap.size w w1/\w.heap.size<=w1.heap.size):=⟨HB.out.1.trans (ak.out.mono HB.out.2),Nat.le_trans HB.out.2 ak.out.size⟩
   have aF:=zh (zM HO.out ak.out)
   have am:=zh aa
   clear aL aa c0 c1 c2 c3 c4 c5 g0 g1 g2 g3 g4 g5 HB HO HV ah ae
   obtain⟨ds,aM,aN,aO⟩:=aF.out
   have af:=zh aM
   have an:=zh aN
   have ao:=zh aO
   have aU:Hid (ds.length+1<=1000000):=by show _<=_;have h1:=ao.out.1;have h2:=aT.out;omega
   clear aM aN aO
   go_wp2_with (at_builtin;refine dq sliceST zeroST pO rfl (.tmp 12) (.tmp 15) rfl w.heap.size _ ds [(F,m,fc)] rfl (Rg.own_below af.out ((Below.refl _ _).alloc (Nat.le_refl _) _)) (c8 an.out af.out ((Below.refl _ _).alloc (Nat.le_refl _) _)) _ _ rfl (Rg.az w1 _ _ _ (by rfl)) (Nat.zero_lt_succ _) aU.out ?b1 ?_)
   case b1=>have:=al.out.2;simp;omega
   intro v5 W5 aP aQ aD a1
   have aV:=cF al af aD
   have aW:Hid (GOwn W5 w.heap.size v5 ((l.take (k+1)).map toPk)):=by
    show GOwn _ _ _ _
    rw[aS.out]
    exact⟨_,aP,aQ,afg (Gr.jC ao.out ((Below.refl _ _).alloc (Nat.le_refl _) _)) (Rg.aj am.out ((Below.refl _ _).alloc (Nat.le_refl _) _)) HM.out (c8 an.out af.out ((Below.refl _ _).alloc (Nat.le_refl _) _)) aD⟩
   clear aP aQ aD a1 aF al af an ao
   go_wp2_with fail
   go_roundw
   case rel=>exact⟨k+1,by omega,by go_num,aW.out,aV.out⟩
   case measure=>simp[intOf];omega
  ·obtain rfl:k=n:=by omega
   have hO:=HO.out
   rw[List.take_of_length_le (by rw[HN.out];exact Nat.le_refl _)] at hO
   obtain⟨A',c',hv,aa⟩:=adM hO
   have ap:Hid (SofRet w (l.map toPk) (.returned (.slice A' (l.map toPk).length c')) _):=⟨A',c',rfl,aa,HB.out.1⟩
   clear hO HO aa
   subst hv
   go_wp2_with fail
   go_ret
   exact ap.out
theorem pY (k n:Int){o:Int}(w:World) :
  Calls Tryz.prog 66 #[.iface 158 (.agg #[.int .i64 k,.int .i64 n]),.int .i64 o] w fun e w'=>e=.returned (.int .i64 n)/\Below w.heap.size w w':=by
 go_enter Tryz.func66,Tryz.ntmps66
 go_wp2_with fail
 refine (bN k n _).mono ?_
 rintro _ w' ⟨rfl,hb⟩
 have HB:=zh hb
 clear hb
 go_wp2_with fail
 go_ret
 exact⟨rfl,HB.out⟩
theorem ly (p:Addr)(x:Int)(n:Int)(w:World)(hc:w.cell? p=some (.int .i64 x))(hz:w.frozen? p=false) :
  CallsD Tryz.prog 65 #[.pointer (some p)] (.panicking [{ v:=.iface 77 (.int .i64 n),recovered:=false }]) w fun e u' w' =>
   e=.returned (.tuple #[])/\u'=.panicking [{ v:=.iface 77 (.int .i64 n),recovered:=true }]/\w'=w.setCell p (.int .i64 n):=by
 refine callsD_of_wpS Tryz.func65 rfl fun c₀ cs hu=>?_
 apply wpS_region
 simp[wpOpsS,go_sem,recoverD,hu,Tryz.ntmps65]
 refine (bU n _).mono ?_
 rintro e w' ⟨rfl,rfl⟩
 simp[go_sem,hc,hz,bodyPostS,results,Tryz.results65]
theorem sa (p:Addr)(x:Int)(k n:Int)(w:World)(hc:∀ u,Below w.heap.size w u->u.cell? p=some (.int .i64 x))(hz:∀ u,Below w.heap.size w u->u.frozen? p=false) :
  CallsD Tryz.prog 65 #[.pointer (some p)] (.panicking [{ v:=.iface 158 (.agg #[.int .i64 k,.int .i64 n]),recovered:=false }]) w fun e u' w' =>
   e=.returned (.tuple #[])/\u'=.panicking [{ v:=.iface 158 (.agg #[.int .i64 k,.int .i64 n]),recovered:=true }]/\∃ u,Below w.heap.size w u/\w'=u.setCell p (.int .i64 n):=by
 refine callsD_of_wpS Tryz.func65 rfl fun c₀ cs hu=>?_
 apply wpS_region
 simp[wpOpsS,go_sem,recoverD,hu,Tryz.ntmps65]
 refine (pY k n _).mono ?_
 rintro e w' ⟨rfl,hb⟩
 simp[go_sem,hc _ hb,hz _ hb,bodyPostS,results,Tryz.results65]
 exact⟨w',hb,rfl⟩
theorem wX (p:Addr)(x:Int)(w:World)(hc:w.cell? p=some (.int .i64 x))(hz:w.frozen? p=false) :
  CallsD Tryz.prog 65 #[.pointer (some p)] .returning w fun e u' w'=>e=.returned (.tuple #[])/\u'=.returning/\w'=w.setCell p (.int .i64 0):=by
 refine callsD_of_wpS Tryz.func65 rfl fun c₀ cs hu=>?_
 apply wpS_region
 simp[wpOpsS,go_sem,recoverD,hu,Tryz.ntmps65]
 refine (bT _).mono ?_
 rintro e w' ⟨rfl,rfl⟩
 cases c₀
 simp_all [go_sem,bodyPostS,results,Tryz.results65]
theorem Rp.wY (l:List Pk)(n:Nat)(hn:l.length=n):((chkR l).2=0/\okR n (chkF 0 none l)=.returned (.tuple #[]))\/(∃ k,k≠0/\(chkR l).2=k/\okR n (chkF 0 none l)=pan k)\/(∃ (i k:Int),k≠0/\(chkR l).2=k/\okR n (chkF 0 none l)=panAt i k):=by
 obtain⟨x1,x2⟩:=vl hn
 unfold okR
 by_cases aa:64<n
 ·rw[if_pos aa,x1 aa]
  exact Or.inr (Or.inl ⟨4,by decide,rfl,rfl⟩)
 ·rw[if_neg aa,x2 aa]
  by_cases h0:(chkF 0 none l).2=0
  ·exact Or.inl ⟨h0,by rw[h0];rfl⟩
  ·exact Or.inr (Or.inr ⟨_,_,h0,rfl,pW h0⟩)
theorem sb (A:Option Addr)(n c:Nat)(l:List Pk)(w:World)(hk:KOk w)(hn:l.length=n)(hr:RRow w A l)(hf:RFew l)(ht:(chkR l).2=0->(∀ p∈l,PTxt p)/\(textR l).length<=1000000) :
  Calls Tryz.prog 32 #[.slice A n c] w fun e w'=>e=.returned (.tuple #[.string ⟨(printR l).1.toArray⟩,.int .i64 (printR l).2])/\Below w.heap.size w w':=by
 have aB:∀ (fn:Fn) (first cap:Array Value) (w:World),(Instr.makeFunc fn first cap).run Tryz.prog w=.ok (.func fn first cap) w:=fun _ _ _ _=>rfl
 obtain⟨W1,am⟩:=ex (w.alloc (.cells #[.int .i64 0] 77))
 have ac:Hid (Below w.heap.size w W1):=ai am
 have ae:Hid (∀ u,Below W1.heap.size W1 u->u.cell? ⟨w.heap.size,0,none⟩=some (.int .i64 0)/\u.frozen? ⟨w.heap.size,0,none⟩=false):=fun u hb=>by
  have hs:W1.heap.size=w.heap.size+1:=by rw[<-am];simp
  rw[hs,<-am] at hb
  exact bj w u _ _ hb
 have HQ:=zh (iK A n c l W1 (ag hk.1 ac.out) hn (bb hr ac.out) hf)
 have af:=zh (wY l n hn)
 have aa:Hid ((chkR l).2=0->n<=64):=fun h=>by
  rcases Nat.lt_or_ge 64 n with h1 | h1
  ·rw[(vl hn).1 h1] at h;exact absurd h (by decide)
  ·exact h1
 have ad:Hid ((chkR l).2=0->printR l=if 65536<(textR l).length then ([],4) else (textR l,0)):=fun h=>by unfold printR;rw[if_neg (fun e=>e h)]
 have ab:Hid ((chkR l).2≠0->printR l=([],(chkR l).2)):=fun h=>by unfold printR;rw[if_pos h]
 obtain⟨O,hO⟩:=ex (printR l)
 rw[hO] at ad ab ⊢
 obtain⟨X,hX⟩:=ex ((chkR l).2)
 rw[hX] at af aa ad ab ht
 have HK:=zh hk
 have HR:=zh hr
 have HN:=zh hn
 have HT:=zh ht
 clear hk hr hf hX hn hO ht
 go_enter_defers Tryz.func32,Tryz.ntmps32
 go_wp2_with fail
 clear am
 refine HQ.out.mono ?_
 rintro _ z1 ⟨rfl,hb⟩
 have HB:=zh hb
 clear hb HQ
 rcases af.out with⟨k0,e0⟩ | ⟨k,k0,k1,e0⟩ | ⟨i,k,k0,k1,e0⟩
 ·rw[e0]
  obtain⟨t1,t2⟩:=HT.out k0
  have an:=aa.out k0
  have al:=ad.out k0
  have ar:=zh (bt ac.out HB.out)
  have ao:=zh (r9 A n c l z1 (aH HK.out ar.out) HN.out (bb HR.out ar.out) (by omega) t1)
  obtain⟨G,hG⟩:=ex (l.map toPk)
  have av:G.length<=1000000:=by rw[<-hG,List.length_map,HN.out];omega
  have aw:∀ s∈G,s.length<=1000000:=fun s hs=>by
   rw[<-hG] at hs
   obtain⟨p,_,rfl⟩:=List.mem_map.1 hs
   have:=aeX p
   omega
  rw[show textR l=Sz.textS (l.map toPk) from rfl,hG] at t2 al
  rw[hG] at ao
  have ap:Hid (∀ (A':Option Addr) (c':Nat) (u:World),Gr.Row Sz.encF 3 u A' G->Calls Tryz.prog 68 #[.slice A' G.length c'] u fun e w'=>e=.returned (.string ⟨(Sz.textS G).toArray⟩)/\Below u.heap.size u w'):=fun A' c' u h=>oN A' G.length c' G u rfl h av aw t2
  obtain⟨T,hT⟩:=ex (Sz.textS G)
  rw[hT] at ap al
  subst k0
  have ax:=zh al
  clear e0 t1 t2 hG av aw hT af an ad ab aa HT al
  go_wp2_with fail
  refine ao.out.mono ?_
  rintro _ z2 ⟨A',c',rfl,aj,hb⟩
  have aq:=zh aj
  have aA:=zh (bt HB.out hb)
  clear hb aj ao
  go_wp2_with fail
  refine (ap.out _ _ _ aq.out).mono ?_
  rintro _ z3 ⟨rfl,hb⟩
  have ay:=zh (bt aA.out hb)
  have ah:Hid (Below w.heap.size w z3):=bt ac.out ay.out
  obtain⟨c0,f0⟩:=ae.out _ ay.out
  clear hb ap
  by_cases hlen:65536<T.length
  ·have d:decide ((T.length:Int)<=65536)=false:=decide_eq_false (by omega)
   have HE:Hid (O=([],4)):=by show _=_;rw[ax.out,if_pos hlen]
   clear hlen
   go_wp2_with fail
   refine (au _).mono ?_
   rintro _ u ⟨rfl,rfl⟩
   go_wp2_with fail
   refine leaves_cons (f:=65) (args:=#[.pointer (some ⟨w.heap.size,0,none⟩)]) (by simp) (by simp[go_sem]) ?_
   refine (ly ⟨w.heap.size,0,none⟩ 0 _ _ ?_ ?_).mono ?_
   ·simp[go_sem,c0]
   ·simp[go_sem,f0]
   rintro e u' w2 ⟨rfl,rfl,rfl⟩
   simp[Leaves,settle,results,Tryz.results32,go_sem,c0]
   rw[HE.out]
   exact⟨⟨rfl,rfl⟩,ah.out.setCell (Nat.le_refl _) _⟩
  ·have d:decide ((T.length:Int)<=65536)=true:=decide_eq_true (by omega)
   have HE:Hid (O=(T,0)):=by show _=_;rw[ax.out,if_neg hlen]
   clear hlen
   go_wp2_with fail
   refine (ak _).mono ?_
   rintro _ u ⟨rfl,rfl⟩
   go_wp2_with fail
   refine leaves_cons (f:=65) (args:=#[.pointer (some ⟨w.heap.size,0,none⟩)]) (by simp) (by simp[go_sem]) ?_
   refine (wX ⟨w.heap.size,0,none⟩ 0 _ ?_ ?_).mono ?_
   ·simp[go_sem,c0]
   ·simp[go_sem,f0]
   rintro e u' w3 ⟨rfl,rfl,rfl⟩
   simp[Leaves,settle,results,Tryz.results32,go_sem,c0]
   rw[HE.out]
   exact⟨⟨rfl,rfl⟩,(ah.out.setCell (Nat.le_refl _) _).setCell (Nat.le_refl _) _⟩
 ·rw[e0]
  have HE:Hid (O=([],k)):=by show _=_;rw[ab.out (by rw[k1];exact k0),k1]
  obtain⟨c0,f0⟩:=ae.out _ HB.out
  clear e0 k0 k1 af ad ab
  go_wp2_with fail
  refine leaves_cons (f:=65) (args:=#[.pointer (some ⟨w.heap.size,0,none⟩)]) (by simp) (by simp[go_sem]) ?_
  refine (ly ⟨w.heap.size,0,none⟩ 0 _ _ ?_ ?_).mono ?_
  ·simp[go_sem,c0]
  ·simp[go_sem,f0]
  rintro e u' w2 ⟨rfl,rfl,rfl⟩
  simp[Leaves,settle,results,Tryz.results32,go_sem,c0]
  rw[HE.out]
  exact⟨⟨rfl,rfl⟩,(bt ac.out HB.out).setCell (Nat.le_refl _) _⟩
 ·rw[e0]
  have HE:Hid (O=([],k)):=by show _=_;rw[ab.out (by rw[k1];exact k0),k1]
  clear e0 k0 k1 af ad ab
  go_wp2_with fail
  refine leaves_cons (f:=65) (args:=#[.pointer (some ⟨w.heap.size,0,none⟩)]) (by simp) (by simp[go_sem]) ?_
  refine (sa ⟨w.heap.size,0,none⟩ 0 i _ _ (fun u hb=>(ae.out _ (bt HB.out hb)).1) (fun u hb=>(ae.out _ (bt HB.out hb)).2)).mono ?_
  rintro e u' w2 ⟨rfl,rfl,u,hb,rfl⟩
  have az:=zh (bt HB.out hb)
  obtain⟨c0,f0⟩:=ae.out _ az.out
  simp[Leaves,settle,results,Tryz.results32,go_sem,c0]
  rw[HE.out]
  exact⟨⟨rfl,rfl⟩,(bt ac.out az.out).setCell (Nat.le_refl _) _⟩
end
section
open Go.RowKit Rs At Pg Rp
attribute [local go_sem ↓] Go.wp_at_zero Go.wp_at_succ
attribute [local go_sem] Pg.av
def Rp.SeaRet (w:World) (p:Pk) (l:List Pk) (e:Ending) (w':World):Prop:=∃ (i:Nat) (b:Bool),e=.returned (.tuple #[.int .i64 i,.bool b])/\Rp.Place p l i/\(b=true↔∃ h:i<l.length,cmpP l[i] p=0)/\Below w.heap.size w w'
theorem Rp.afh {p:Pk}{l:List Pk}{n i:Nat}(hn:l.length=n)(h1:∀ (t:Nat) (h:t<l.length),t+1=i->cmpP l[t] p<0)(h2:∀ h:i<l.length,0<=cmpP l[i] p)(hi:i<=n):Rp.Place p l i:=⟨by omega,h1,fun h=>by have:=h2 h;omega⟩
theorem zN (A:Option Addr)(n c:Nat)(l:List Pk)(p:Pk)(yD yC yG:Option Addr)(ydn ydc ycn ycc ygn ygc:Nat)(ynm yvr:List UInt8)(ywt:Nat)(w:World)(hw:MaxOk w)(hn:l.length=n)(hr:RRow w A l)(hl:n<=100000)(ho:∀ q∈l,Vm.check q.ver=0)(hpv:Vm.check p.ver=0)(e0:p.name=ynm)(e1:p.ver=yvr) :
  Calls Tryz.prog 106 #[.slice A n c,.agg #[.string ⟨ynm.toArray⟩,.string ⟨yvr.toArray⟩,.slice yD ydn ydc,.slice yC ycn ycc,.slice yG ygn ygc,.float .f64 ywt],.func (.func 107) #[] #[]] w (SeaRet w p l):=by
 obtain⟨bx,aL⟩:=ex w.heap.size
 obtain⟨V,hV⟩:=ex (w.alloc (.cells #[.string ⟨ynm.toArray⟩,.string ⟨yvr.toArray⟩,.slice yD ydn ydc,.slice yC ycn ycc,.slice yG ygn ygc,.float .f64 ywt] 68))
 have aN:Hid (Below w.heap.size w V):=ai hV
 have az:Hid (∀ u,Below V.heap.size V u->Below w.heap.size w u):=fun u h=>bt aN.out h
 have HX:Hid (∀ u,Below V.heap.size V u->u.cell? ⟨bx,0,none⟩=some (.string ⟨ynm.toArray⟩)/\u.cell? ⟨bx,1,none⟩=some (.string ⟨yvr.toArray⟩)/\u.cell? ⟨bx,2,none⟩=some (.slice yD ydn ydc)/\u.cell? ⟨bx,3,none⟩=some (.slice yC ycn ycc)/\u.cell? ⟨bx,4,none⟩=some (.slice yG ygn ygc)/\u.cell? ⟨bx,5,none⟩=some (.float .f64 ywt)):=fun u h=>by
  rw[<-aL]
  exact aw hV h
 have HM:=zh (fun u (h:Below w.heap.size w u)=>ag hw h)
 have HN:=zh hn
 have HR:=zh hr
 have HO:=zh ho
 have HC:Hid (∀ (q:Pk) (D C G:Option Addr) (dn dc cn cc gn gc:Nat) (nm vr:List UInt8) (wt:Nat),Vm.check q.ver=0->q.name=nm->q.ver=vr->∀ y,cmpP q p=y->∀ u,Below V.heap.size V u->Calls Tryz.prog 107 #[.agg #[.string ⟨nm.toArray⟩,.string ⟨vr.toArray⟩,.slice D dn dc,.slice C cn cc,.slice G gn gc,.float .f64 wt],.agg #[.string ⟨ynm.toArray⟩,.string ⟨yvr.toArray⟩,.slice yD ydn ydc,.slice yC ycn ycc,.slice yG ygn ygc,.float .f64 ywt]] u fun e w'=>e=.returned (.int .i64 y)/\Below u.heap.size u w'):=fun q D C G dn dc cn cc gn gc nm vr wt hq a0 a1 y hy u hu=>by
  subst hy a0 a1 e0 e1
  exact iI _ _ _ _ D C G yD yC yG dn dc cn cc gn gc ydn ydc ycn ycc ygn ygc wt ywt u (HM.out u (az.out u hu)) hq hpv
 have aQ:=zh (fun u (h:Below V.heap.size V u)=>(HX.out u h))
 clear hw hn hr ho hpv e0 e1
 go_enter Tryz.func106,Tryz.ntmps106
 go_wp2_with fail
 clear hV aL
 go_loopw [9,10] (fun a b wr=>∃ i j:Nat,i<=j/\j<=n/\a=.int .i64 i/\b=.int .i64 j/\Hid (∀ (t:Nat) (h:t<l.length),t+1=i->cmpP l[t] p<0)/\Hid (∀ h:j<l.length,0<=cmpP l[j] p)/\Hid (Below V.heap.size V wr)) (fun a b _=>(intOf b).toNat-(intOf a).toNat)
 case atStart=>exact⟨0,n,Nat.zero_le _,Nat.le_refl _,rfl,rfl,fun t h e=>by omega,fun h=>by have:=HN.out;omega,Below.refl _ _⟩
 case round =>
  obtain⟨i,j,aM,aA,rfl,rfl,H1,H2,HB⟩:=hrel
  by_cases ax:i<j
  ·have aH:=zh ax
   obtain⟨s,hs⟩:=ex (i+j)
   obtain⟨k,hk⟩:=ex (s / 2)
   have ac:k<l.length:=by rw[HN.out];omega
   have aI:i<=k:=by omega
   have aJ:k<j:=by omega
   have w1:IntKind.i64.wrap ((i:Int)+(j:Int))=(s:Int):=by rw[IntKind.wrap_i64];omega
   have w2:IntKind.u64.wrap (s:Int)=(s:Int):=by rw[IntKind.wrap_u64];omega
   have w3:(s:Int) / 2=(k:Int):=by omega
   have w4:IntKind.i64.wrap (k:Int)=(k:Int):=by rw[IntKind.wrap_i64];omega
   have w5:IntKind.i64.wrap ((k:Int)+1)=((k+1:Nat):Int):=by rw[IntKind.wrap_i64];omega
   have aO:(k:Int)<(n:Int):=by have:=HN.out;omega
   have aP:(0:Int)<=(k:Int):=by omega
   have aD:=zh aI
   have aB:=zh aJ
   have aK:=zh aA
   obtain⟨ad,xD,af,xC,ah,xG,aj,rfl,-,-,-,aa⟩:=aY HR.out k ac
   have aq:=HO.out _ (List.getElem_mem ac)
   have aE:∀ (t:Nat) (h:t<l.length),t+1=k+1->cmpP l[t] p=cmpP l[k] p:=fun t h e=>by
    have:t=k:=by omega
    subst this;rfl
   obtain⟨q,hq⟩:=ex (l[k])
   rw[hq] at aa aq aE
   obtain⟨ak,h0⟩:=ex q.name
   obtain⟨al,h1⟩:=ex q.ver
   obtain⟨am,h2⟩:=ex q.deps.length
   obtain⟨an,h3⟩:=ex q.confl.length
   obtain⟨ao,h4⟩:=ex q.prov.length
   obtain⟨ap,h5⟩:=ex q.wt
   rw[h0,h1,h2,h3,h4,h5] at aa
   obtain⟨y,hy⟩:=ex (cmpP q p)
   have HF:=zh (HC.out q xD xC xG am af an ah ao aj ak al ap aq h0 h1 y hy)
   have ar:Hid (∀ u,Below V.heap.size V u->(u.cell? ⟨bx,0,none⟩=some (.string ⟨ynm.toArray⟩)/\u.cell? ⟨bx,1,none⟩=some (.string ⟨yvr.toArray⟩)/\u.cell? ⟨bx,2,none⟩=some (.slice yD ydn ydc)/\u.cell? ⟨bx,3,none⟩=some (.slice yC ycn ycc)/\u.cell? ⟨bx,4,none⟩=some (.slice yG ygn ygc)/\u.cell? ⟨bx,5,none⟩=some (.float .f64 ywt))/\(u.cell? (ad.add (k*6))=some (.string ⟨ak.toArray⟩)/\u.cell? ⟨(ad.add (k*6)).block,(ad.add (k*6)).off+1,none⟩=some (.string ⟨al.toArray⟩)/\u.cell? ⟨(ad.add (k*6)).block,(ad.add (k*6)).off+2,none⟩=some (.slice xD am af)/\u.cell? ⟨(ad.add (k*6)).block,(ad.add (k*6)).off+3,none⟩=some (.slice xC an ah)/\u.cell? ⟨(ad.add (k*6)).block,(ad.add (k*6)).off+4,none⟩=some (.slice xG ao aj)/\u.cell? ⟨(ad.add (k*6)).block,(ad.add (k*6)).off+5,none⟩=some (.float .f64 ap))):=fun u h=>⟨HX.out u h,aa u (az.out u h)⟩
   have aF:Hid (y<0->∀ (t:Nat) (h:t<l.length),t+1=k+1->cmpP l[t] p<0):=fun ax t h e=>by rw[aE t h e,hy];exact ax
   have aG:Hid (¬ y<0->∀ h:k<l.length,0<=cmpP l[k] p):=fun ax h=>by rw[hq,hy];omega
   have ab:Hid (Below V.heap.size V wr.drew):=HB.out.drew
   clear aa aq aE hq h0 h1 h2 h3 h4 h5 hy ac aI aJ hs hk ax aM aA
   by_cases ay:y<0
   ·have d1:decide (y<0)=true:=decide_eq_true ay
    have HQ:=zh (aF.out ay)
    have d0:decide (i<j)=true:=decide_eq_true aH.out
    clear aF aG ay
    go_wp2_with fail
    go_region_held3 (fun u=>(u.cell? ⟨bx,0,none⟩=some (.string ⟨ynm.toArray⟩)/\u.cell? ⟨bx,1,none⟩=some (.string ⟨yvr.toArray⟩)/\u.cell? ⟨bx,2,none⟩=some (.slice yD ydn ydc)/\u.cell? ⟨bx,3,none⟩=some (.slice yC ycn ycc)/\u.cell? ⟨bx,4,none⟩=some (.slice yG ygn ygc)/\u.cell? ⟨bx,5,none⟩=some (.float .f64 ywt))/\(u.cell? (ad.add (k*6))=some (.string ⟨ak.toArray⟩)/\u.cell? ⟨(ad.add (k*6)).block,(ad.add (k*6)).off+1,none⟩=some (.string ⟨al.toArray⟩)/\u.cell? ⟨(ad.add (k*6)).block,(ad.add (k*6)).off+2,none⟩=some (.slice xD am af)/\u.cell? ⟨(ad.add (k*6)).block,(ad.add (k*6)).off+3,none⟩=some (.slice xC an ah)/\u.cell? ⟨(ad.add (k*6)).block,(ad.add (k*6)).off+4,none⟩=some (.slice xG ao aj)/\u.cell? ⟨(ad.add (k*6)).block,(ad.add (k*6)).off+5,none⟩=some (.float .f64 ap)))
     (first
      | with_reducible exact ar.out _ ab.out
      | with_reducible exact ar.out _ ae.out)
     ((go_at_call 107;refine (HF.out _ ab.out).mono ?_;rintro _ u2 ⟨rfl,hb⟩;have ae:=zh (bt ab.out hb);clear hb))
    have HE:=ae
    clear d1
    go_wp2_with fail
    go_roundw
    case rel=>exact⟨k+1,j,(by have:=aB.out;omega),aK.out,rfl,rfl,HQ.out,H2.out,HE.out⟩
    case measure=>have:=aD.out;have:=aB.out;simp[intOf];omega
   ·have d1:decide (y<0)=false:=decide_eq_false ay
    have HQ:=zh (aG.out ay)
    have d0:decide (i<j)=true:=decide_eq_true aH.out
    clear aF aG ay
    go_wp2_with fail
    go_region_held3 (fun u=>(u.cell? ⟨bx,0,none⟩=some (.string ⟨ynm.toArray⟩)/\u.cell? ⟨bx,1,none⟩=some (.string ⟨yvr.toArray⟩)/\u.cell? ⟨bx,2,none⟩=some (.slice yD ydn ydc)/\u.cell? ⟨bx,3,none⟩=some (.slice yC ycn ycc)/\u.cell? ⟨bx,4,none⟩=some (.slice yG ygn ygc)/\u.cell? ⟨bx,5,none⟩=some (.float .f64 ywt))/\(u.cell? (ad.add (k*6))=some (.string ⟨ak.toArray⟩)/\u.cell? ⟨(ad.add (k*6)).block,(ad.add (k*6)).off+1,none⟩=some (.string ⟨al.toArray⟩)/\u.cell? ⟨(ad.add (k*6)).block,(ad.add (k*6)).off+2,none⟩=some (.slice xD am af)/\u.cell? ⟨(ad.add (k*6)).block,(ad.add (k*6)).off+3,none⟩=some (.slice xC an ah)/\u.cell? ⟨(ad.add (k*6)).block,(ad.add (k*6)).off+4,none⟩=some (.slice xG ao aj)/\u.cell? ⟨(ad.add (k*6)).block,(ad.add (k*6)).off+5,none⟩=some (.float .f64 ap)))
     (first
      | with_reducible exact ar.out _ ab.out
      | with_reducible exact ar.out _ ae.out)
     ((go_at_call 107;refine (HF.out _ ab.out).mono ?_;rintro _ u2 ⟨rfl,hb⟩;have ae:=zh (bt ab.out hb);clear hb))
    have HE:=ae
    clear d1
    go_wp2_with fail
    go_roundw
    case rel=>exact⟨i,k,aD.out,(by have:=aB.out;have:=aK.out;omega),rfl,rfl,H1.out,HQ.out,HE.out⟩
    case measure=>have:=aD.out;have:=aB.out;simp[intOf];omega
  ·obtain rfl:i=j:=by omega
   have aC:Hid (Rp.Place p l i):=afh HN.out H1.out H2.out aA
   clear H1 H2 ax aM
   by_cases au:i<n
   ·have aR:=zh au
    have ac:i<l.length:=by rw[HN.out];exact au
    have aO:(i:Int)<(n:Int):=by omega
    have aP:(0:Int)<=(i:Int):=by omega
    have w4:IntKind.i64.wrap (i:Int)=(i:Int):=by rw[IntKind.wrap_i64];omega
    obtain⟨ad,xD,af,xC,ah,xG,aj,rfl,-,-,-,aa⟩:=aY HR.out i ac
    have aq:=HO.out _ (List.getElem_mem ac)
    obtain⟨q,hq⟩:=ex (l[i])
    rw[hq] at aa aq
    obtain⟨ak,h0⟩:=ex q.name
    obtain⟨al,h1⟩:=ex q.ver
    obtain⟨am,h2⟩:=ex q.deps.length
    obtain⟨an,h3⟩:=ex q.confl.length
    obtain⟨ao,h4⟩:=ex q.prov.length
    obtain⟨ap,h5⟩:=ex q.wt
    rw[h0,h1,h2,h3,h4,h5] at aa
    obtain⟨y,hy⟩:=ex (cmpP q p)
    have HF:=zh (HC.out q xD xC xG am af an ah ao aj ak al ap aq h0 h1 y hy)
    have ar:Hid (∀ u,Below V.heap.size V u->(u.cell? ⟨bx,0,none⟩=some (.string ⟨ynm.toArray⟩)/\u.cell? ⟨bx,1,none⟩=some (.string ⟨yvr.toArray⟩)/\u.cell? ⟨bx,2,none⟩=some (.slice yD ydn ydc)/\u.cell? ⟨bx,3,none⟩=some (.slice yC ycn ycc)/\u.cell? ⟨bx,4,none⟩=some (.slice yG ygn ygc)/\u.cell? ⟨bx,5,none⟩=some (.float .f64 ywt))/\(u.cell? (ad.add (i*6))=some (.string ⟨ak.toArray⟩)/\u.cell? ⟨(ad.add (i*6)).block,(ad.add (i*6)).off+1,none⟩=some (.string ⟨al.toArray⟩)/\u.cell? ⟨(ad.add (i*6)).block,(ad.add (i*6)).off+2,none⟩=some (.slice xD am af)/\u.cell? ⟨(ad.add (i*6)).block,(ad.add (i*6)).off+3,none⟩=some (.slice xC an ah)/\u.cell? ⟨(ad.add (i*6)).block,(ad.add (i*6)).off+4,none⟩=some (.slice xG ao aj)/\u.cell? ⟨(ad.add (i*6)).block,(ad.add (i*6)).off+5,none⟩=some (.float .f64 ap))):=fun u h=>⟨HX.out u h,aa u (az.out u h)⟩
    obtain⟨z,hz⟩:=ex (y==0)
    have av:Hid (∀ u,Below V.heap.size V u->SeaRet w p l (.returned (.tuple #[.int .i64 i,.bool z])) u):=fun u h=>⟨i,z,rfl,aC.out,by
     rw[<-hz,beq_iff_eq]
     exact⟨fun e=>⟨ac,by rw[hq,hy];exact e⟩,fun⟨_,e⟩=>by rw[hq,hy] at e;exact e⟩,az.out u h⟩
    have ab:Hid (Below V.heap.size V wr.drew):=HB.out.drew
    have d0:decide (i<n)=true:=decide_eq_true au
    have d2:decide (i<i)=false:=decide_eq_false (Nat.lt_irrefl _)
    clear aa aq hq h0 h1 h2 h3 h4 h5 hy ac au aA aC
    go_wp2_with fail
    go_region_held3 (fun u=>(u.cell? ⟨bx,0,none⟩=some (.string ⟨ynm.toArray⟩)/\u.cell? ⟨bx,1,none⟩=some (.string ⟨yvr.toArray⟩)/\u.cell? ⟨bx,2,none⟩=some (.slice yD ydn ydc)/\u.cell? ⟨bx,3,none⟩=some (.slice yC ycn ycc)/\u.cell? ⟨bx,4,none⟩=some (.slice yG ygn ygc)/\u.cell? ⟨bx,5,none⟩=some (.float .f64 ywt))/\(u.cell? (ad.add (i*6))=some (.string ⟨ak.toArray⟩)/\u.cell? ⟨(ad.add (i*6)).block,(ad.add (i*6)).off+1,none⟩=some (.string ⟨al.toArray⟩)/\u.cell? ⟨(ad.add (i*6)).block,(ad.add (i*6)).off+2,none⟩=some (.slice xD am af)/\u.cell? ⟨(ad.add (i*6)).block,(ad.add (i*6)).off+3,none⟩=some (.slice xC an ah)/\u.cell? ⟨(ad.add (i*6)).block,(ad.add (i*6)).off+4,none⟩=some (.slice xG ao aj)/\u.cell? ⟨(ad.add (i*6)).block,(ad.add (i*6)).off+5,none⟩=some (.float .f64 ap)))
     (first
      | with_reducible exact ar.out _ ab.out
      | with_reducible exact ar.out _ ae.out)
     ((go_at_call 107;refine (HF.out _ ab.out).mono ?_;rintro _ u2 ⟨rfl,hb⟩;have ae:=zh (bt ab.out hb);clear hb))
    go_wp2_with fail
    go_ret2
    exact av.out _ ae.out
   ·have av:Hid (∀ u,Below V.heap.size V u->SeaRet w p l (.returned (.tuple #[.int .i64 i,.bool false])) u):=fun u h=>⟨i,false,rfl,aC.out,⟨fun e=>(by cases e),fun⟨h,_⟩=>absurd (by rw[HN.out] at h;exact h) au⟩,az.out u h⟩
    have d0:decide (i<n)=false:=decide_eq_false au
    have d2:decide (i<i)=false:=decide_eq_false (Nat.lt_irrefl _)
    clear au aA aC
    go_wp2_with fail
    go_quiet (fail)
    go_wp2_with fail
    go_ret2
    exact av.out _ (Sz.abx HB.out _)
end
end Go.Proofs.YtgnaiidgjmicaaaGreatDoor
