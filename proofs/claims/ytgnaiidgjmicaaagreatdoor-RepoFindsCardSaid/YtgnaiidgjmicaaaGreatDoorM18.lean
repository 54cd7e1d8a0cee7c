/- Part 18 of what the laws lean on. -/
import Derived.Test.YtgnaiidgjmicaaaGreatDoorM17
set_option maxRecDepth 100000
set_option maxHeartbeats 3200000
namespace Go.Proofs.YtgnaiidgjmicaaaGreatDoor
section
open Go.RowKit Rs At Pg
def GiveT (T:TypeId):Prop := (Tryz.prog.fieldsOf T).toList.map (fun f => (f.name == "_", f.type, f.offset))=[(false, 9, 0), (false, 9, 1)]/\Tryz.prog.underlying T=some (.struct (Tryz.prog.fieldsOf T))/\Tryz.prog.stoodInHeld T=false/\Tryz.prog.eqGuardType Tryz.prog.depth T=false
theorem giveT:GiveT 135:=⟨by kernel_rfl,by kernel_rfl,by kernel_rfl,by kernel_rfl⟩
theorem zu {T:TypeId}(h:GiveT T)(a b:Gv)(w:World) :
  (Op.equalIn 10000 T (.agg #[.string ⟨a.name.toArray⟩,.string ⟨a.ver.toArray⟩]) (.agg #[.string ⟨b.name.toArray⟩,.string ⟨b.ver.toArray⟩])).run Tryz.prog w=.ok (decide (a=b)) w:=by
 obtain⟨nm,v⟩:=a
 obtain⟨aa,v'⟩:=b
 obtain⟨h1,h2,h3,h4⟩:=h
 rw[run_equalIn_struct w 9999 T _ _ h2 h3]
 generalize (Tryz.prog.fieldsOf T).toList=fs at *
 have hl:fs.length=2:=by have:=congrArg List.length h1;simpa using this
 match fs,hl with
 | [f0,f1],_ =>
  simp at h1
  obtain⟨⟨n0,t0,o0⟩,⟨n1,t1,o1⟩⟩:=h1
  simp only[Op.eqFields,n0,n1,t0,t1,o0,o1,ne_eq,not_false_eq_true,if_true]
  simp[go_sem]
  by_cases e0:nm=aa <;> by_cases e1:v=v' <;> simp[e0,e1]
theorem ac7 {T:TypeId}(h:GiveT T)(a b:Gv)(w:World) :
  (binOp .neq T (.agg #[.string ⟨a.name.toArray⟩,.string ⟨a.ver.toArray⟩]) (.agg #[.string ⟨b.name.toArray⟩,.string ⟨b.ver.toArray⟩])).run Tryz.prog w=.ok (.bool (!decide (a=b))) w:=by
 rw[run_neq_struct,zu h];rfl
theorem ac8 {T:TypeId}(h:GiveT T)(op:BinOp)(x y:Operand)(xs ys:Array Value)(w:World):(eqGuard op T x y (.agg xs) (.agg ys)).run Tryz.prog w=.ok () w:=run_eqGuard_agg w op T x y xs ys h.2.2.2
attribute [local go_sem ↓] Go.wp_at_zero Go.wp_at_succ
theorem wF (A B:Option Addr)(n m c d:Nat)(l k:List Gv)(w:World)(hn:l.length=n)(hm:k.length=m)(hr:GRow w A l)(hq:GRow w B k)(hl:n<=1000000) :
  Calls Tryz.prog 117 #[.slice A n c,.slice B m d] w fun e w'=>e=.returned (.bool (decide (l=k)))/\Below w.heap.size w w':=by
 obtain⟨X,hX⟩:=ex (decide (l=k))
 rw[hX]
 have HX:=zh hX
 have HR:=zh hr
 have HQ:=zh hq
 have HN:=zh hn
 have HM:=zh hm
 clear hX hr hq hn hm
 by_cases hlen:n=m
 ·have hd:((n:Int) != m)=false:=by rw[hlen];simp
  have HL:=zh hlen
  clear hlen
  go_enter Tryz.func117,Tryz.ntmps117
  go_wp2_with fail
  clear hd
  go_loopw [13] (fun i wr=>∃ j:Nat,j<=n/\i=.int .i64 j/\Hid (l.take j=k.take j)/\∃ x,wr=w.drewN x) (fun i _=>n-(intOf i).toNat)
  case atStart=>exact⟨0,Nat.zero_le _,rfl,rfl,0,rfl⟩
  case round =>
   obtain⟨j,hj,rfl,HT,x,rfl⟩:=hrel
   by_cases ai:j<n
   ·have af:j<m:=by have:=HL.out;omega
    have h1:j<l.length:=by rw[HN.out];exact ai
    have h2:j<k.length:=by rw[HM.out];exact af
    obtain⟨ad,rfl,hc⟩:=dJ HR.out j h1
    obtain⟨ae,rfl,he⟩:=dJ HQ.out j h2
    have aa:Hid (l[j]=k[j]->l.take (j+1)=k.take (j+1)):=fun q=>by
     rw[List.take_succ_eq_append_getElem h1,List.take_succ_eq_append_getElem h2,HT.out,q]
    have ab:Hid (l[j]≠k[j]->X=false):=fun q=>by
     rw[<-HX.out];exact decide_eq_false fun h=>q (by subst h;rfl)
    obtain⟨c0,c1⟩:=hc _ (Below.refl _ _)
    obtain⟨e0,e1⟩:=he _ (Below.refl _ _)
    generalize l[j]=a at c0 c1 aa ab
    generalize k[j]=b at e0 e1 aa ab
    have ac:=ac7 giveT a b
    have ah:∀ (x y:Operand) (W:World),(eqGuard .neq 135 x y (.agg #[.string ⟨a.name.toArray⟩,.string ⟨a.ver.toArray⟩]) (.agg #[.string ⟨b.name.toArray⟩,.string ⟨b.ver.toArray⟩])).run Tryz.prog W=.ok () W:=fun x y W=>ac8 giveT .neq x y _ _ W
    clear hc he h1 h2
    by_cases hq:a=b
    ·rw[decide_eq_true hq] at ac
     have aj:=zh (aa.out hq)
     clear aa ab hq HT
     go_wp2_with fail
     go_quiet (fail)
     clear ac ah c0 c1 e0 e1
     go_wp2_with fail
     go_roundw
     case rel=>exact⟨j+1,by omega,by go_num,aj.out,_,rfl⟩
     case measure=>simp[intOf];omega
    ·rw[decide_eq_false hq] at ac
     have ag:=zh (ab.out hq)
     clear aa ab hq HT
     go_wp2_with fail
     go_quiet (fail)
     clear ac ah c0 c1 e0 e1
     go_wp2_with fail
     go_ret
     exact⟨by rw[ag.out];rfl,below_drewN (below_drewN (Below.refl _ _) _) _⟩
   ·obtain rfl:j=n:=by omega
    have ak:Hid (X=true):=by
     show _=_
     have:=HT.out
     rw[List.take_of_length_le (by rw[HN.out];exact Nat.le_refl _),List.take_of_length_le (by rw[HM.out,HL.out];exact Nat.le_refl _)] at this
     rw[<-HX.out];exact decide_eq_true this
    clear HT
    go_wp2_with fail
    go_ret
    exact⟨by rw[ak.out];rfl,below_drewN (Below.refl _ _) _⟩
 ·have hd:((n:Int) != m)=true:=by simp;omega
  have ag:Hid (X=false):=by show _=_;rw[<-HX.out];exact decide_eq_false fun h=>hlen (by rw[<-HN.out,<-HM.out,h])
  go_enter Tryz.func117,Tryz.ntmps117
  go_wp2_with fail
  go_ret
  exact⟨by rw[ag.out];rfl,Below.refl _ _⟩
def Pg.samP (p q:Pk):Bool:=decide (p.name=q.name)&&(decide (p.ver=q.ver)&&(decide (p.deps=q.deps)&&(decide (p.confl=q.confl)&&(decide (p.prov=q.prov)&&(Vm.sgn (Wm.placeN p.wt) (Wm.placeN q.wt)==0)))))
theorem wG (p q:Pk)(D C G D' C' G':Option Addr)(dn dc cn cc gn gc dn' dc' cn' cc' gn' gc':Nat)(w:World)(hd:Pg.DRow w D p.deps)(hdn:p.deps.length=dn)(hc:ARow w C p.confl)(hcn:p.confl.length=cn)(hg:GRow w G p.prov)(hgn:p.prov.length=gn)(hf:PFew p)(hd':Pg.DRow w D' q.deps)(hdn':q.deps.length=dn')(hc':ARow w C' q.confl)(hcn':q.confl.length=cn')(hg':GRow w G' q.prov)(hgn':q.prov.length=gn')(hf':PFew q) :
  Calls Tryz.prog 73 #[.agg #[.string ⟨p.name.toArray⟩,.string ⟨p.ver.toArray⟩,.slice D dn dc,.slice C cn cc,.slice G gn gc,.float .f64 p.wt],.agg #[.string ⟨q.name.toArray⟩,.string ⟨q.ver.toArray⟩,.slice D' dn' dc',.slice C' cn' cc',.slice G' gn' gc',.float .f64 q.wt]] w fun e w'=>e=.returned (.bool (samP p q))/\Below w.heap.size w w':=by
 obtain⟨nm,v,deps,confl,prov,wt⟩:=p
 obtain⟨ak,v',ab,aa,ac,an⟩:=q
 obtain⟨R,hR⟩:=ex (samP ⟨nm,v,deps,confl,prov,wt⟩ ⟨ak,v',ab,aa,ac,an⟩)
 rw[hR]
 unfold samP at hR
 dsimp only at hd hdn hc hcn hg hgn hd' hdn' hc' hcn' hg' hgn' hR ⊢
 obtain⟨-,f2,f3,f4,f5,f6,-,f8⟩:=hf
 obtain⟨-,-,au,-,av,-,-,ax⟩:=hf'
 dsimp only at f2 f3 f4 f5 f6 f8 au av ax
 have az:dn<=1000000:=by omega
 have aA:cn<=1000000:=by omega
 have aB:gn<=1000000:=by omega
 obtain⟨V,hV⟩:=ex (w.alloc (.cells #[.string ⟨nm.toArray⟩,.string ⟨v.toArray⟩,.slice D dn dc,.slice C cn cc,.slice G gn gc,.float .f64 wt] 68))
 obtain⟨U,hU⟩:=ex (V.alloc (.cells #[.string ⟨ak.toArray⟩,.string ⟨v'.toArray⟩,.slice D' dn' dc',.slice C' cn' cc',.slice G' gn' gc',.float .f64 an] 68))
 have HV:=zh hV
 have HU:=zh hU
 have ag:Hid (Below V.heap.size V U):=ai hU
 have HB:Hid (Below w.heap.size w U):=(ai hV).trans (ag.out.mono (ai hV).size)
 have HD:=zh (fun W (hb:Below w.heap.size w W)=>zt D D' dn dn' dc dc' deps ab W hdn hdn' (aJ hd hb) (aJ hd' hb) az f3 au)
 have HC:=zh (fun W (hb:Below w.heap.size w W)=>wC C C' cn cn' cc cc' confl aa W hcn hcn' (ay hc hb) (ay hc' hb) aA f5 av)
 have HG:=zh (fun W (hb:Below w.heap.size w W)=>wF G G' gn gn' gc gc' prov ac W hgn hgn' (Rg.aj hg hb) (Rg.aj hg' hb) aB)
 have HW:=zh (fun W=>afJ wt an f8 ax W)
 obtain⟨x3,aC⟩:=ex (decide (deps=ab))
 obtain⟨x4,aD⟩:=ex (decide (confl=aa))
 obtain⟨x5,aE⟩:=ex (decide (prov=ac))
 obtain⟨x6,aF⟩:=ex (Vm.sgn (Wm.placeN wt) (Wm.placeN an)==0)
 rw[aC] at HD hR
 rw[aD] at HC hR
 rw[aE] at HG hR
 rw[aF] at HW hR
 have HR:=zh hR
 clear hd hdn hc hcn hg hgn hd' hdn' hc' hcn' hg' hgn' f2 f3 f4 f5 f6 f8 au av ax az aA aB aC aD aE aF hR
 by_cases e1:nm=ak
 case neg =>
  have d1:(nm==ak)=false:=beq_eq_false_iff_ne.2 e1
  have HF:Hid (R=false):=by show _=_;rw[<-HR.out,decide_eq_false e1];rfl
  obtain⟨c0,-,-,-,-,-⟩:=aw hV ag.out
  obtain⟨e0,-,-,-,-,-⟩:=aw hU (Below.refl _ _)
  clear e1 HD HC HG HW HR
  go_enter Tryz.func73,Tryz.ntmps73
  go_wp2_with fail
  go_ret
  exact⟨by rw[HF.out];rfl,HB.out⟩
 have d1:(nm==ak)=true:=beq_iff_eq.2 e1
 by_cases e2:v=v'
 case neg =>
  have d2:(v==v')=false:=beq_eq_false_iff_ne.2 e2
  have HF:Hid (R=false):=by show _=_;rw[<-HR.out,decide_eq_false e2,Bool.false_and,Bool.and_false]
  obtain⟨c0,c1,-,-,-,-⟩:=aw hV ag.out
  obtain⟨k0,k1,-,-,-,-⟩:=aw hU (Below.refl _ _)
  clear e1 e2 HD HC HG HW HR
  go_enter Tryz.func73,Tryz.ntmps73
  go_wp2_with fail
  go_ret
  exact⟨by rw[HF.out];rfl,HB.out⟩
 have d2:(v==v')=true:=beq_iff_eq.2 e2
 have al:Hid ((x3&&(x4&&(x5&&x6)))=R):=by show _=_;rw[<-HR.out,decide_eq_true e1,decide_eq_true e2,Bool.true_and,Bool.true_and]
 obtain⟨c0,c1,c2,-,-,-⟩:=aw hV ag.out
 obtain⟨k0,k1,k2,-,-,-⟩:=aw hU (Below.refl _ _)
 clear e1 e2 HR
 go_enter Tryz.func73,Tryz.ntmps73
 go_wp2_with fail
 clear hV hU c0 c1 c2 k0 k1 k2 d1 d2
 refine (HD.out _ HB.out).mono ?_
 rintro _ u ⟨rfl,hb⟩
 have ao:=zh hb
 have am:Hid (Below w.heap.size w u):=bt HB.out hb
 have ap:Hid (Below V.heap.size V u):=bt ag.out hb
 clear hb HD
 cases x3
 case false =>
  have HF:Hid (R=false):=al.out.symm
  go_wp2_with fail
  go_ret
  exact⟨by rw[HF.out];rfl,am.out⟩
 obtain⟨-,-,-,c3,-,-⟩:=aw HV.out ap.out
 obtain⟨-,-,-,k3,-,-⟩:=aw HU.out ao.out
 go_wp2_with fail
 clear c3 k3
 refine (HC.out _ am.out).mono ?_
 rintro _ u2 ⟨rfl,hb⟩
 have ae:Hid (Below U.heap.size U u2):=bt ao.out hb
 have ad:Hid (Below w.heap.size w u2):=bt am.out hb
 have af:Hid (Below V.heap.size V u2):=bt ap.out hb
 clear hb HC ao am ap
 cases x4
 case false =>
  have HF:Hid (R=false):=al.out.symm
  go_wp2_with fail
  go_ret
  exact⟨by rw[HF.out];rfl,ad.out⟩
 obtain⟨-,-,-,-,c4,-⟩:=aw HV.out af.out
 obtain⟨-,-,-,-,k4,-⟩:=aw HU.out ae.out
 go_wp2_with fail
 clear c4 k4
 refine (HG.out _ ad.out).mono ?_
 rintro _ u3 ⟨rfl,hb⟩
 have aq:Hid (Below U.heap.size U u3):=bt ae.out hb
 have ah:Hid (Below w.heap.size w u3):=bt ad.out hb
 have ar:Hid (Below V.heap.size V u3):=bt af.out hb
 clear hb HG ae ad af
 cases x5
 case false =>
  have HF:Hid (R=false):=al.out.symm
  go_wp2_with fail
  go_ret
  exact⟨by rw[HF.out];rfl,ah.out⟩
 obtain⟨-,-,-,-,-,c5⟩:=aw HV.out ar.out
 obtain⟨-,-,-,-,-,k5⟩:=aw HU.out aq.out
 have HF:Hid (x6=R):=al.out
 go_wp2_with fail
 clear c5 k5
 refine (HW.out _).mono ?_
 rintro _ u4 ⟨rfl,rfl⟩
 go_wp2_with fail
 go_ret
 exact⟨by rw[HF.out];rfl,ah.out⟩
end
section
open Go.RowKit Rs At Pg
def Pg.hasL (l:List Sp) (v:List UInt8):Bool:=hasR (l.map Sp.piece) v
def Pg.givM (g:Gv) (a:Atm):Bool:=decide (g.name=a.name)&&(if g.ver=[] then decide (a.rng=allR.map spOf) else hasL a.rng g.ver)
def Pg.metP (p:Pk) (a:Atm):Bool:=(decide (p.name=a.name)&&hasL a.rng p.ver)||p.prov.any (fun g=>givM g a)
attribute [local go_sem ↓] Go.wp_at_zero Go.wp_at_succ
theorem rO (g:Gv)(nm:List UInt8)(A:Option Addr)(n c:Nat)(l:List Sp)(w:World)(hw:MaxOk w)(hn:l.length=n)(hr:SRow w A l)(hl:n<=64)(hk:checkR l=0)(hv:g.ver=[]\/Vm.check g.ver=0) :
  Calls Tryz.prog 94 #[.agg #[.string ⟨g.name.toArray⟩,.string ⟨g.ver.toArray⟩],.agg #[.string ⟨nm.toArray⟩,.slice A n c]] w fun e w'=>e=.returned (.bool (givM g ⟨nm,l⟩))/\Below w.heap.size w w':=by
 obtain⟨gn,gv⟩:=g
 dsimp only at hv ⊢
 obtain⟨R,hR⟩:=ex (givM ⟨gn,gv⟩ ⟨nm,l⟩)
 rw[hR]
 unfold givM at hR
 dsimp only at hR
 obtain⟨V,hV⟩:=ex (w.alloc (.cells #[.string ⟨gn.toArray⟩,.string ⟨gv.toArray⟩] 135))
 obtain⟨b,hb⟩:=ex V.heap.size
 obtain⟨U,hU⟩:=ex (V.alloc (.cells #[.string ⟨nm.toArray⟩,.slice A n c] 51))
 have aa:Hid (Bx2 b nm A n c U):=by rw[<-hU,<-hb];exact dk V nm A n c _
 have ae:Hid (Below V.heap.size V U):=ai hU
 have ac:b<U.heap.size:=by rw[<-hU,<-hb];simp
 have HB:Hid (Below w.heap.size w U):=(ai hV).trans (ae.out.mono (ai hV).size)
 have af:Hid (MaxOk U):=ag hw HB.out
 have ah:Hid (SRow U A l):=ao hr HB.out
 have HN:=zh hn
 have HK:=zh hk
 have HR:=zh hR
 obtain⟨c0,c1⟩:=aD hV ae.out
 obtain⟨k0,k1⟩:=aa.out
 clear hw hn hr hk hR
 by_cases e1:gn=nm
 case neg =>
  have d1:(gn != nm)=true:=by simp[e1]
  have d0:(gn==nm)=false:=beq_eq_false_iff_ne.2 e1
  have HF:Hid (R=false):=by show _=_;rw[<-HR.out,decide_eq_false e1,Bool.false_and]
  clear e1
  go_enter Tryz.func94,Tryz.ntmps94
  go_wp2_with fail
  go_ret
  exact⟨by rw[HF.out];rfl,HB.out⟩
 have d1:(gn != nm)=false:=by simp[e1]
 have d0:(gn==nm)=true:=beq_iff_eq.2 e1
 by_cases e2:gv=[]
 ·have e:(gv==[])=true:=by rw[e2];rfl
  obtain⟨sm,ad⟩:=ex (decide (l=allR.map spOf))
  have an:=zh ad
  have HF:Hid (sm=R):=by show _=_;rw[<-HR.out,decide_eq_true e1,if_pos e2,Bool.true_and];exact ad.symm
  clear e1 e2 ad hv
  go_enter Tryz.func94,Tryz.ntmps94
  go_wp2_with fail
  clear hb hV hU c0 c1
  have aj:Hid (St U U.drew [⟨A,n,l⟩]):=⟨af.out,(Below.refl _ _).drew,fun x hx=>by rw[List.mem_singleton.1 hx];exact⟨ao ah.out (Below.refl _ _).drew,HN.out⟩⟩
  go_region_held3 (fun w'=>w'.cell? ⟨b,0,none⟩=some (.string ⟨nm.toArray⟩)/\w'.cell? ⟨b,1,none⟩=some (.slice A n c))
   (first
    | exact aR aa.out ac aj.out.2.1
    | exact aR aa.out ac ab.out.2.1
    | exact aR aa.out ac al.out.2.1)
   (first
    | (go_at_call 136;refine (zd aj.out allR rfl).mono ?_;rintro _ u2 ⟨C,m2,d,rfl,hs⟩;have ab:=zh hs;have ak:m2=1:=(aI hs 0 rfl).2.symm;have ap:=zh ak;clear hs ak)
    | (go_at_call 135;refine (aaD ab.out 1 0 rfl rfl (by omega) (by rw[ap.out];decide) _ _ sm an.out).mono ?_;rintro _ u3 ⟨rfl,hs⟩;have al:=zh hs;clear hs))
  go_wp2_with fail
  go_ret
  exact⟨by rw[<-HF.out];rfl,HB.out.trans (al.out.2.1.mono HB.out.size)⟩
 ·have e:(gv==[])=false:=beq_eq_false_iff_ne.2 e2
  have am:Vm.check gv=0:=hv.resolve_left e2
  have HF:Hid (hasR (l.map Sp.piece) gv=R):=by show _=_;rw[<-HR.out,decide_eq_true e1,if_neg e2,Bool.true_and];rfl
  have HS:Hid (St U U [⟨A,n,l⟩]):=⟨af.out,Below.refl _ _,fun x hx=>by rw[List.mem_singleton.1 hx];exact⟨ah.out,HN.out⟩⟩
  have HH:=zh (aaN HS.out 0 rfl HK.out c gv am R HF.out)
  clear e1 e2 hv am
  go_enter Tryz.func94,Tryz.ntmps94
  go_wp2_with fail
  clear hb hV hU c0 c1
  refine HH.out.mono ?_
  rintro _ u2 ⟨rfl,hs⟩
  have ab:=zh hs.2.1
  clear hs
  go_wp2_with fail
  go_ret
  exact⟨rfl,bt HB.out ab.out⟩
theorem zv (g:Gv)(b:Nat)(nm:List UInt8)(A:Option Addr)(n c:Nat)(l:List Sp)(w:World)(hw:MaxOk w)(hn:l.length=n)(hr:SRow w A l)(hl:n<=64)(hk:checkR l=0)(hv:g.ver=[]\/Vm.check g.ver=0)(hx:Bx2 b nm A n c w)(hb:b<w.heap.size) :
  Calls Tryz.prog 93 #[.agg #[.string ⟨g.name.toArray⟩,.string ⟨g.ver.toArray⟩],.pointer (some ⟨b,0,none⟩)] w fun e w'=>e=.returned (.bool (givM g ⟨nm,l⟩))/\Below w.heap.size w w':=by
 obtain⟨V,hV⟩:=ex (w.alloc (.cells #[.string ⟨g.name.toArray⟩,.string ⟨g.ver.toArray⟩] 135))
 have HB:Hid (Below w.heap.size w V):=ai hV
 have HG:=zh (rO g nm A n c l V (ag hw HB.out) hn (ao hr HB.out) hl hk hv)
 obtain⟨c0,c1⟩:=aD hV (Below.refl _ _)
 obtain⟨k0,k1⟩:=aR hx hb HB.out
 clear hw hn hr hl hk hv hx hb
 go_enter Tryz.func93,Tryz.ntmps93
 go_wp2_with fail
 refine HG.out.mono ?_
 rintro _ u ⟨rfl,hb⟩
 have HU:Hid (Below w.heap.size w u):=bt HB.out hb
 clear hb
 go_wp2_with fail
 go_ret
 exact⟨rfl,HU.out⟩
theorem wH (A:Option Addr)(n c:Nat)(l:List Gv)(b:Nat)(nm:List UInt8)(B:Option Addr)(m d:Nat)(r:List Sp)(w:World)(hw:MaxOk w)(hn:l.length=n)(hr:GRow w A l)(hl:n<=1000000)(ho:∀ g∈l,g.ver=[]\/Vm.check g.ver=0)(hm:r.length=m)(hq:SRow w B r)(hm2:m<=64)(hk:checkR r=0)(hx:Bx2 b nm B m d w)(hb:b<w.heap.size) :
  Calls Tryz.prog 134 #[.slice A n c,.func (.func 93) #[] #[.pointer (some ⟨b,0,none⟩)]] w (IdxRet w (l.any fun g=>givM g ⟨nm,r⟩)):=by
 have HR:=zh hr
 have HN:=zh hn
 have HO:=zh ho
 have HC:=zh (fun (g:Gv) (hv:g.ver=[]\/Vm.check g.ver=0) (W:World) (h:Below w.heap.size w W)=>zv g b nm B m d r W (ag hw h) hm (ao hq h) hm2 hk hv (aR hx hb h) (Nat.lt_of_lt_of_le hb h.size))
 obtain⟨X,hX⟩:=ex (l.any fun g=>givM g ⟨nm,r⟩)
 rw[hX]
 obtain⟨f,hf⟩:∃ f:Gv->Bool,(fun g=>givM g ⟨nm,r⟩)=f:=⟨_,rfl⟩
 rw[hf] at hX
 have HF:Hid (∀ g,givM g ⟨nm,r⟩=f g):=fun g=>by rw[<-hf]
 have HX:Hid (X=l.any f):=hX.symm
 clear hw hr hn ho hm hq hm2 hk hx hb hX hf
 go_enter Tryz.func134,Tryz.ntmps134
 go_wp2_with fail
 go_loopw [8] (fun i wr=>∃ k:Nat,k<=n/\i=.int .i64 k/\Hid ((l.take k).any f=false)/\Hid (Below w.heap.size w wr)) (fun i _=>n-(intOf i).toNat)
 case atStart=>exact⟨0,Nat.zero_le _,rfl,rfl,Below.refl _ _⟩
 case round =>
  obtain⟨k,hk,rfl,HA,HB⟩:=hrel
  by_cases ah:k<n
  ·have aa:k<l.length:=by rw[HN.out];exact ah
   obtain⟨ad,rfl,hc⟩:=dJ HR.out k aa
   obtain⟨c0,c1⟩:=hc _ HB.out
   have HS:Hid ((l.take (k+1)).any f=((l.take k).any f||f l[k])):=by show _=_;rw[List.take_succ_eq_append_getElem aa,List.any_append];simp
   have HY:Hid (f l[k]=true->X=true):=fun h=>by rw[HX.out];exact List.any_eq_true.2 ⟨_,List.getElem_mem aa,h⟩
   have ab:=HO.out _ (List.getElem_mem aa)
   generalize l[k]=g at c0 c1 HS HY ab
   have HG:=HC.out g ab wr HB.out
   rw[HF.out] at HG
   have ac:=zh HG
   clear HG hc aa ab
   go_wp2_with fail
   refine ac.out.mono ?_
   rintro _ w1 ⟨rfl,af⟩
   have ae:Hid (Below w.heap.size w w1):=bt HB.out af
   clear af c0 c1 ac
   cases hp:f g
   ·have ai:Hid ((l.take (k+1)).any f=false):=by show _=_;rw[HS.out,HA.out];exact hp
    clear hp
    go_wp2_with fail
    go_roundw
    case rel=>exact⟨k+1,by omega,by go_num,ai.out,ae.out⟩
    case measure=>simp[intOf];omega
   ·have aj:Hid (X=true):=HY.out hp
    clear hp
    go_wp2_with fail
    go_ret
    exact⟨⟨k,rfl,by rw[aj.out];exact decide_eq_true (by omega)⟩,ae.out⟩
  ·have ak:Hid (X=false):=by
    show _=_
    have:=HA.out
    rw[List.take_of_length_le (by rw[HN.out];omega)] at this
    rw[HX.out];exact this
   go_wp2_with fail
   go_ret
   exact⟨⟨-1,rfl,by rw[ak.out];rfl⟩,HB.out⟩
theorem wI (A:Option Addr)(n c:Nat)(l:List Gv)(b:Nat)(nm:List UInt8)(B:Option Addr)(m d:Nat)(r:List Sp)(w:World)(hw:MaxOk w)(hn:l.length=n)(hr:GRow w A l)(hl:n<=1000000)(ho:∀ g∈l,g.ver=[]\/Vm.check g.ver=0)(hm:r.length=m)(hq:SRow w B r)(hm2:m<=64)(hk:checkR r=0)(hx:Bx2 b nm B m d w)(hb:b<w.heap.size) :
  Calls Tryz.prog 92 #[.slice A n c,.func (.func 93) #[] #[.pointer (some ⟨b,0,none⟩)]] w fun e w'=>e=.returned (.bool (l.any fun g=>givM g ⟨nm,r⟩))/\Below w.heap.size w w':=by
 have HC:=zh (wH A n c l b nm B m d r w hw hn hr hl ho hm hq hm2 hk hx hb)
 obtain⟨X,hX⟩:=ex (l.any fun g=>givM g ⟨nm,r⟩)
 rw[hX] at HC ⊢
 clear hw hn hr hl ho hm hq hm2 hk hx hb hX
 go_enter Tryz.func92,Tryz.ntmps92
 go_wp2_with fail
 refine HC.out.mono ?_
 rintro _ w1 ⟨⟨m,rfl,hm⟩,hb⟩
 have HB:=zh hb
 clear hb
 cases X
 all_goals
  go_wp2_with fail
  go_ret
  exact⟨rfl,HB.out⟩
theorem ud (p:Pk)(D C G:Option Addr)(dn dc cn cc gn gc:Nat)(nm:List UInt8)(B:Option Addr)(m d:Nat)(r:List Sp)(w:World)(hw:MaxOk w)(hg:GRow w G p.prov)(hgn:p.prov.length=gn)(hgl:gn<=1000000)(ho:∀ g∈p.prov,g.ver=[]\/Vm.check g.ver=0)(hv:Vm.check p.ver=0)(hm:r.length=m)(hq:SRow w B r)(hm2:m<=64)(hk:checkR r=0) :
  Calls Tryz.prog 54 #[.agg #[.string ⟨p.name.toArray⟩,.string ⟨p.ver.toArray⟩,.slice D dn dc,.slice C cn cc,.slice G gn gc,.float .f64 p.wt],.agg #[.string ⟨nm.toArray⟩,.slice B m d]] w fun e w'=>e=.returned (.bool (metP p ⟨nm,r⟩))/\Below w.heap.size w w':=by
 have am:∀ (fn:Fn) (first cap:Array Value) (w:World),(Instr.makeFunc fn first cap).run Tryz.prog w=.ok (.func fn first cap) w:=fun _ _ _ _=>rfl
 obtain⟨pn,pv,ae,aa,prov,wt⟩:=p
 dsimp only at hg hgn ho hv ⊢
 obtain⟨R,hR⟩:=ex (metP ⟨pn,pv,ae,aa,prov,wt⟩ ⟨nm,r⟩)
 rw[hR]
 unfold metP at hR
 dsimp only at hR
 obtain⟨V,hV⟩:=ex (w.alloc (.cells #[.string ⟨pn.toArray⟩,.string ⟨pv.toArray⟩,.slice D dn dc,.slice C cn cc,.slice G gn gc,.float .f64 wt] 68))
 obtain⟨b,hb⟩:=ex V.heap.size
 obtain⟨U,hU⟩:=ex (V.alloc (.cells #[.string ⟨nm.toArray⟩,.slice B m d] 51))
 have HV:=zh hV
 have ad:Hid (Bx2 b nm B m d U):=by rw[<-hU,<-hb];exact dk V nm B m d _
 have ac:Hid (Below V.heap.size V U):=ai hU
 have af:b<U.heap.size:=by rw[<-hU,<-hb];simp
 have HB:Hid (Below w.heap.size w U):=(ai hV).trans (ac.out.mono (ai hV).size)
 have HC:=zh (fun (W:World) (h:Below U.heap.size U W)=>wI G gn gc prov b nm B m d r W (ag hw (bt HB.out h)) hgn (Rg.aj hg (bt HB.out h)) hgl ho hm (ao hq (bt HB.out h)) hm2 hk (aR ad.out af h) (Nat.lt_of_lt_of_le af h.size))
 obtain⟨y,hy⟩:=ex (prov.any fun g=>givM g ⟨nm,r⟩)
 rw[hy] at HC hR
 obtain⟨x,hx⟩:=ex (hasL r pv)
 rw[hx] at hR
 have HS:Hid (St U U [⟨B,m,r⟩]):=⟨ag hw HB.out,Below.refl _ _,fun x hx=>by rw[List.mem_singleton.1 hx];exact⟨ao hq HB.out,hm⟩⟩
 have HH:=zh (aaN HS.out 0 rfl hk d pv hv x hx)
 have HR:=zh hR
 clear hw hg hgn hgl ho hv hm hq hm2 hk hR hy hx
 by_cases e1:pn=nm
 case neg =>
  have d0:(pn==nm)=false:=beq_eq_false_iff_ne.2 e1
  have HF:Hid (y=R):=by show _=_;rw[<-HR.out,decide_eq_false e1,Bool.false_and,Bool.false_or]
  obtain⟨c0,-,-,-,c4,-⟩:=aw HV.out ac.out
  obtain⟨k0,k1⟩:=ad.out
  clear e1
  go_enter Tryz.func54,Tryz.ntmps54
  go_wp2_with fail
  refine (HC.out _ (Below.refl _ _)).mono ?_
  rintro _ u ⟨rfl,ab⟩
  have HU:Hid (Below w.heap.size w u):=bt HB.out ab
  clear ab
  go_wp2_with fail
  go_ret
  exact⟨by rw[<-HF.out];rfl,HU.out⟩
 have d0:(pn==nm)=true:=beq_iff_eq.2 e1
 have ah:Hid ((x||y)=R):=by show _=_;rw[<-HR.out,decide_eq_true e1,Bool.true_and]
 obtain⟨c0,c1,-,-,-,-⟩:=aw HV.out ac.out
 obtain⟨k0,k1⟩:=ad.out
 clear e1 HR
 go_enter Tryz.func54,Tryz.ntmps54
 go_wp2_with fail
 clear hV hU c0 c1 k0 k1
 refine HH.out.mono ?_
 rintro _ u ⟨rfl,hs⟩
 have HU:=zh hs.2.1
 have ak:Hid (Below w.heap.size w u):=bt HB.out HU.out
 clear hs
 cases x
 case true =>
  have HF:Hid (true=R):=ah.out
  go_wp2_with fail
  go_ret
  exact⟨by rw[<-HF.out];rfl,ak.out⟩
 have HF:Hid (y=R):=ah.out
 obtain⟨-,-,-,-,c4,-⟩:=aw HV.out (bt ac.out HU.out)
 go_wp2_with fail
 refine (HC.out _ HU.out).mono ?_
 rintro _ u2 ⟨rfl,ab⟩
 have al:Hid (Below w.heap.size w u2):=bt ak.out ab
 clear ab
 go_wp2_with fail
 go_ret
 exact⟨by rw[<-HF.out];rfl,al.out⟩
end
namespace Sz
structure Fld where
 key:List UInt8
 val:List UInt8
 line:Int
 deriving DecidableEq
def valC (c:UInt8):Bool:=decide (32<=c.toNat)&&decide (c.toNat<=126)
def keyB (s:List UInt8):Bool:=s.all Vm.ltr&&(!s.isEmpty&&decide (s.length<=16))
def valB (s:List UInt8):Bool:=s.all valC
def mark:List UInt8:=[58,32]
def fieldP (s:List UInt8) (n:Int):Option Fld :=
 if 0<=Lib.index s mark/\keyB (s.take (Lib.index s mark).toNat)=true/\valB (s.drop ((Lib.index s mark).toNat+2))=true then
  some ⟨s.take (Lib.index s mark).toNat,s.drop ((Lib.index s mark).toNat+2),n⟩ else none
def hasK (l:List Fld) (k:List UInt8):Bool:=l.any (fun f=>f.key==k)
def readL:Nat->List (List UInt8)->List (List Fld)->List Fld->Int × Int × List (List Fld)
 | _,[],acc,last=>(0,0,if last.isEmpty then acc else acc++[last])
 | n,s :: ls,acc,last =>
  if s.isEmpty then (if last.isEmpty||ls.isEmpty then (2,n,[]) else readL (n+1) ls (acc++[last]) [])
  else match fieldP s n with
   | none=>(2,n,[])
   | some f=>if hasK last f.key then (6,n,[]) else readL (n+1) ls acc (last++[f])
def linesL (s:List UInt8):List (List UInt8):=(Lib.split s [10]).dropLast
def endB (s:List UInt8):Bool:=s.isEmpty||s.getLast? == some 10
def parseS (s:List UInt8):Int × Int × List (List Fld) :=
 if 65536<s.length then (4,0,[]) else if endB s then readL 0 (linesL s) [] [] else (2,0,[])
def fieldT (f:Fld):List UInt8:=f.key++mark++f.val++[10]
def stanzaT (l:List Fld):List UInt8:=l.flatMap fieldT
def textS:List (List Fld)->List UInt8
 | []=>[]
 | [l]=>stanzaT l
 | l :: m :: r=>stanzaT l++[10]++textS (m :: r)
def joinL (ls:List (List UInt8)):List UInt8:=ls.flatMap (fun s=>s++[10])
theorem jQ {s:List UInt8}{n:Int}{f:Fld}(h:fieldP s n=some f):f.key++mark++f.val=s/\f.line=n/\keyB f.key=true/\valB f.val=true:=by
 unfold fieldP at h
 split at h
 ·rename_i hc
  obtain⟨h0,h1,h2⟩:=hc
  cases h
  refine⟨?_,rfl,h1,h2⟩
  dsimp only
  obtain⟨i,hi⟩:∃ i:Nat,Lib.index s mark=i:=⟨(Lib.index s mark).toNat,by omega⟩
  rw[hi]
  have ho:Lib.occAt s mark i=true:=by
   rcases Lib.index_spec s mark with⟨h1,_⟩ | ⟨j,h1,_,h3,_⟩
   ·omega
   ·have:j=i:=by omega
    exact this ▸ h3
  unfold Lib.occAt at ho
  obtain⟨t,ht⟩:=List.isPrefixOf_iff_prefix.1 ho
  show s.take i++mark++s.drop (i+2)=s
  have e:s.drop (i+2)=t:=by rw[<-List.drop_drop,<-ht];rfl
  rw[e,List.append_assoc,ht,List.take_append_drop]
 ·cases h
theorem kT (l:List Fld)(f:Fld):stanzaT (l++[f])=stanzaT l++fieldT f:=by
 unfold stanzaT;rw[List.flatMap_append];simp
theorem dK:∀ (acc:List (List Fld)) (l:List Fld),textS (acc++[l])=(if acc.isEmpty then [] else textS acc++[10])++stanzaT l
 | [],l=>rfl
 | [a],l=>by show stanzaT a++[10]++stanzaT l=_;rfl
 | a :: b :: r,l=>by
  have ih:=dK (b :: r) l
  show stanzaT a++[10]++textS (b :: r++[l])=_
  rw[ih]
  show _=(stanzaT a++[10]++textS (b :: r)++[10])++stanzaT l
  simp
theorem jR (s:List UInt8)(ls:List (List UInt8)):joinL (s :: ls)=s++[10]++joinL ls:=by unfold joinL;rw[List.flatMap_cons]
theorem kU:∀ (ls:List (List UInt8)) (n:Nat) (acc:List (List Fld)) (last:List Fld) (r:List (List Fld)) (k:Int),readL n ls acc last=(0,k,r) ->
  k=0/\textS r=textS (acc++[last])++joinL ls\/(k=0/\ls=[]/\last=[]/\r=acc)
 | [],n,acc,last,r,k,h=>by
  unfold readL at h
  cases last with
  | nil=>right;injection h with _ h;injection h with h1 h2;exact⟨h1.symm,rfl,rfl,h2.symm⟩
  | cons f l=>left;injection h with _ h;injection h with h1 h2;subst h2;exact⟨h1.symm,by simp[joinL]⟩
 | s :: ls,n,acc,last,r,k,h=>by
  unfold readL at h
  split at h
  ·rename_i hs
   have hs0:s=[]:=by simpa using hs
   subst hs0
   split at h
   ·injection h with h _;cases h
   ·rename_i hl
    have ab:last≠[]:=fun e=>hl (by simp[e])
    have aa:ls≠[]:=fun e=>hl (by simp[e])
    rcases kU ls (n+1) (acc++[last]) [] r k h with⟨hk,ht⟩ | ⟨_,h2,_,_⟩
    ·left
     refine⟨hk,?_⟩
     rw[ht,dK (acc++[last]) [],jR]
     simp[stanzaT]
    ·exact absurd h2 aa
  ·rename_i hs
   cases hf:fieldP s n with
   | none=>rw[hf] at h;injection h with h _;cases h
   | some f =>
    rw[hf] at h
    dsimp only at h
    split at h
    ·injection h with h _;cases h
    ·obtain⟨h1,_,_,_⟩:=jQ hf
     rcases kU ls (n+1) acc (last++[f]) r k h with⟨hk,ht⟩ | ⟨_,_,h3,_⟩
     ·left
      refine⟨hk,?_⟩
      rw[ht,dK,dK,kT,jR]
      unfold fieldT
      rw[h1]
      simp
     ·exact absurd h3 (by simp)
theorem aeK (a r:List UInt8)(h:(10:UInt8) ∉ a):Lib.split (a++10 :: r) [10]=a :: Lib.split r [10]:=by
 have hi:Lib.index (a++10 :: r) [10]=a.length:=by
  refine Lib.index_first (by simp) ?_ fun j hj=>?_
  ·unfold Lib.occAt;rw[List.drop_left];rfl
  ·cases ho:Lib.occAt (a++10 :: r) [10] j with
   | false=>rfl
   | true =>
    have h2:=Lib.occAt_head (c:=10) (t:=[]) rfl ho
    rw[List.getElem?_append_left hj] at h2
    exact absurd (List.mem_of_getElem? h2) h
 rw[At.aaE (by simp) hi,List.take_left]
 have e:(a++10 :: r).drop (a.length+([10]:List UInt8).length)=r:=by
  rw[<-List.drop_drop,List.drop_left];rfl
 rw[e]
theorem oo (s:List UInt8):Lib.split s [10]≠[]:=by
 unfold Lib.split
 cases Lib.count s [10] with
 | zero=>unfold Lib.splitK;simp
 | succ k=>unfold Lib.splitK;split <;> simp
theorem aa0 (a r:List UInt8)(h:(10:UInt8) ∉ a):linesL (a++10 :: r)=a :: linesL r:=by
 unfold linesL
 rw[aeK a r h,List.dropLast_cons_of_ne_nil (oo r)]
theorem aeL (s:List UInt8):((10:UInt8) ∉ s)\/∃ a r,s=a++10 :: r/\(10:UInt8) ∉ a:=by
 induction s with
 | nil=>left;simp
 | cons b l ih =>
  by_cases hb:b=10
  ·right;exact⟨[],l,by rw[hb];rfl,by simp⟩
  ·rcases ih with h | ⟨a,r,e,h⟩
   ·left;intro hm;rcases List.mem_cons.1 hm with e | e
    ·exact hb e.symm
    ·exact h e
   ·right
    refine⟨b :: a,r,by rw[e];rfl,fun hm=>?_⟩
    rcases List.mem_cons.1 hm with e | e
    ·exact hb e.symm
    ·exact h e
theorem jS:∀ (k:Nat) (s:List UInt8),s.length<=k->endB s=true->joinL (linesL s)=s
 | 0,s,hk,_=>by
  have:s=[]:=List.length_eq_zero_iff.1 (by omega)
  subst this;rfl
 | k+1,s,hk,he=>by
  rcases aeL s with h | ⟨a,r,e,h⟩
  ·unfold endB at he
   rw[Bool.or_eq_true] at he
   rcases he with he | he
   ·have:s=[]:=by simpa using he
    subst this;rfl
   ·exact absurd (List.mem_of_getLast? (by simpa using he)) h
  ·subst e
   rw[aa0 a r h,jR]
   have hr:endB r=true:=by
    unfold endB at he ⊢
    cases r with
    | nil=>rfl
    | cons b l =>
     rw[Bool.or_eq_true] at he ⊢
     rcases he with he | he
     ·simp at he
     ·right
      rw[List.getLast?_append] at he
      have e2:(10 :: b :: l).getLast? = (b :: l).getLast?:=by rw[List.getLast?_cons_cons]
      rw[e2] at he
      obtain⟨x,hx⟩:∃ x,(b :: l).getLast? = some x:=⟨_,List.getLast?_eq_some_getLast (by simp)⟩
      rw[hx] at he ⊢
      exact he
   rw[jS k r (by simp at hk;omega) hr]
   simp
theorem zw {s:List UInt8}{k:Int}{r:List (List Fld)}(h:parseS s=(0,k,r)):k=0/\textS r=s:=by
 unfold parseS at h
 split at h
 ·injection h with h _;cases h
 ·split at h
  ·rename_i he
   rcases kU _ _ _ _ _ _ h with⟨h1,h2⟩ | ⟨h1,h2,_,h4⟩
   ·refine⟨h1,?_⟩
    rw[h2,jS s.length s (Nat.le_refl _) he];rfl
   ·refine⟨h1,?_⟩
    rw[h4,<-jS s.length s (Nat.le_refl _) he,h2];rfl
  ·injection h with h _;cases h
end Sz
section
open Go.RowKit
abbrev panAt (k n:Int):Ending:=.panicked [{ v:=.iface 158 (.agg #[.int .i64 k,.int .i64 n]),recovered:=false }]
theorem aG {k n:Int}(w:World):Calls Tryz.prog 104 #[.bool true,.int .i64 k,.int .i64 n] w fun e w'=>e=.returned (.tuple #[])/\w=w':=by
 go_enter Tryz.func104,Tryz.ntmps104
 go_wp2_with fail
 go_end0
 exact⟨rfl,rfl⟩
theorem aE {k n:Int}(w:World):Calls Tryz.prog 104 #[.bool false,.int .i64 k,.int .i64 n] w fun e w'=>e=panAt k n/\w=w':=by
 go_enter Tryz.func104,Tryz.ntmps104
 go_wp2_with fail
 exact⟨rfl,rfl,rfl⟩
theorem bN (k n:Int){o:Int}(w:World) :
  Calls Tryz.prog 63 #[.iface 158 (.agg #[.int .i64 k,.int .i64 n]),.int .i64 o] w fun e w'=>e=.returned (.tuple #[.int .i64 k,.int .i64 n])/\Below w.heap.size w w':=by
 have aa:∀ W:World,(Instr.typeAssert (.iface 158 (.agg #[.int .i64 k,.int .i64 n])) 20 77 true).run Tryz.prog W=.ok (.tuple #[.int .i64 0,.bool false]) W:=fun _=>by kernel_rfl
 have ab:∀ W:World,(Instr.typeAssert (.iface 158 (.agg #[.int .i64 k,.int .i64 n])) 20 158 true).run Tryz.prog W=.ok (.tuple #[.agg #[.int .i64 k,.int .i64 n],.bool true]) W:=fun _=>by kernel_rfl
 go_enter Tryz.func63,Tryz.ntmps63
 go_wp2_with fail
 go_quiet (fail)
 go_wp2_with fail
 go_ret2
 refine⟨rfl,below_drewN ?_ _⟩
 first
  | exact (Below.refl _ _).alloc (Nat.le_refl _) _
  | exact ((Below.refl _ _).alloc (Nat.le_refl _) _).setCell (Nat.le_refl _) _
  | exact Below.setCell (Below.setCell ((Below.refl _ _).alloc (Nat.le_refl _) _) (by simp) _) (by simp) _
  | trace_state
theorem qM (l:List UInt8)(p:UInt8->Bool)(k:Nat)(h:k<l.length):(l.take (k+1)).all p=((l.take k).all p&&p l[k]):=by
 rw[List.take_succ_eq_append_getElem h,List.all_append];simp only[List.all_cons,List.all_nil,Bool.and_true]
theorem oq (l:List UInt8)(p:UInt8->Bool)(k:Nat)(h:k<l.length)(hp:p l[k]=false):l.all p=false:=by
 rw[Bool.eq_false_iff];intro ha;rw[List.all_eq_true] at ha;have:=ha _ (List.getElem_mem h);simp[hp] at this
theorem mm (c:UInt8)(w:World) :
  Calls Tryz.prog 237 #[.int .u8 c.toNat] w fun e w'=>e=.returned (.bool (Vm.ltr c))/\w=w':=by
 unfold Vm.ltr
 by_cases h1:97<=c.toNat <;> by_cases h2:c.toNat<=122 <;> by_cases h3:65<=c.toNat <;> by_cases h4:c.toNat<=90
 all_goals
  go_enter Tryz.func237,Tryz.ntmps237
  go_wp2
 all_goals
  go_ret
  exact⟨by first | (simp[h1,h2,h3,h4];done) | (simp[h1,h2,h3,h4];omega),rfl⟩
theorem kV (l:List UInt8)(w:World)(hm:l.length<=1000000) :
  Calls Tryz.prog 205 #[.string ⟨l.toArray⟩] w fun e w'=>e=.returned (.bool (Sz.keyB l))/\w=w':=by
 obtain⟨R,hR⟩:=ex (Sz.keyB l)
 rw[hR]
 have HF:Hid (l.all Vm.ltr=false->R=false):=fun h=>by rw[<-hR];unfold Sz.keyB;rw[h];rfl
 have HT:Hid (l.all Vm.ltr=true->R=(!l.isEmpty&&decide (l.length<=16))):=fun h=>by rw[<-hR];unfold Sz.keyB;rw[h];rfl
 clear hR
 go_enter Tryz.func205,Tryz.ntmps205
 go_wp2_with fail
 go_loop [6] (fun i=>∃ k:Nat,k<=l.length/\i=.int .i64 k/\Hid ((l.take k).all Vm.ltr=true)) (fun i=>l.length-(intOf i).toNat)
 case atStart=>exact⟨0,Nat.zero_le _,rfl,rfl⟩
 case round =>
  obtain⟨k,hk,rfl,HK⟩:=hrel
  by_cases ad:k<l.length
  ·obtain⟨c,hc,ac⟩:=byte_at l k ad
   have HS:=zh (qM l Vm.ltr k ad)
   rw[ac] at HS
   cases h1:Vm.ltr c
   ·have HR:Hid (R=false):=HF.out (oq l Vm.ltr k ad (by rw[ac];exact h1))
    have HL:=zh h1
    clear h1 ac HS
    go_wp2_with fail
    refine (mm c _).mono ?_
    rintro _ z ⟨rfl,rfl⟩
    rw[HL.out]
    go_wp2_with fail
    go_ret
    exact⟨by rw[HR.out];rfl,rfl⟩
   ·have HY:Hid ((l.take (k+1)).all Vm.ltr=true):=by show _=_;rw[HS.out,HK.out,h1];rfl
    have HL:=zh h1
    clear h1 ac HS
    go_wp2_with fail
    refine (mm c _).mono ?_
    rintro _ z ⟨rfl,rfl⟩
    rw[HL.out]
    go_wp2_with fail
    go_round
    case rel=>exact⟨k+1,by omega,by go_num,HY⟩
    case measure=>simp[intOf];omega
  ·obtain rfl:k=l.length:=by omega
   have HR:Hid (R=(!l.isEmpty&&decide (l.length<=16))):=HT.out (by have:=HK.out;rwa [List.take_length] at this)
   cases he:l.isEmpty
   ·by_cases ab:l.length<=16
    ·have d0:decide ((l.length:Int)<=16)=true:=decide_eq_true (by omega)
     have aa:Hid (R=true):=by show _=_;rw[HR.out,he,decide_eq_true ab];rfl
     clear ab HF HT HR
     go_wp2_with fail
     go_ret
     exact⟨by rw[aa.out];rfl,rfl⟩
    ·have d0:decide ((l.length:Int)<=16)=false:=decide_eq_false (by omega)
     have aa:Hid (R=false):=by show _=_;rw[HR.out,decide_eq_false ab,Bool.and_false]
     clear ab HF HT HR
     go_wp2_with fail
     go_ret
     exact⟨by rw[aa.out];rfl,rfl⟩
   ·have aa:Hid (R=false):=by show _=_;rw[HR.out,he];rfl
    clear HF HT HR
    go_wp2_with fail
    go_ret
    exact⟨by rw[aa.out];rfl,rfl⟩
theorem aa1 (c:UInt8):(Sz.valC c=true/\decide ((c.toNat:Int)<32)=false/\decide ((126:Int)<(c.toNat:Int))=false)\/(Sz.valC c=false/\decide ((c.toNat:Int)<32)=true)\/(Sz.valC c=false/\decide ((c.toNat:Int)<32)=false/\decide ((126:Int)<(c.toNat:Int))=true):=by
 unfold Sz.valC
 by_cases h1:32<=c.toNat
 ·by_cases h2:c.toNat<=126
  ·left;exact⟨by rw[decide_eq_true h1,decide_eq_true h2];rfl,decide_eq_false (by omega),decide_eq_false (by omega)⟩
  ·right;right;exact⟨by rw[decide_eq_false h2,Bool.and_false],decide_eq_false (by omega),decide_eq_true (by omega)⟩
 ·right;left;exact⟨by rw[decide_eq_false h1];rfl,decide_eq_true (by omega)⟩
theorem mn (l:List UInt8)(w:World)(hm:l.length<=1000000) :
  Calls Tryz.prog 206 #[.string ⟨l.toArray⟩] w fun e w'=>e=.returned (.bool (Sz.valB l))/\w=w':=by
 obtain⟨R,hR⟩:=ex (Sz.valB l)
 rw[hR]
 have HF:Hid (l.all Sz.valC=false->R=false):=fun h=>by rw[<-hR];exact h
 have HT:Hid (l.all Sz.valC=true->R=true):=fun h=>by rw[<-hR];exact h
 clear hR
 go_enter Tryz.func206,Tryz.ntmps206
 go_wp2_with fail
 go_loop [6] (fun i=>∃ k:Nat,k<=l.length/\i=.int .i64 k/\Hid ((l.take k).all Sz.valC=true)) (fun i=>l.length-(intOf i).toNat)
 case atStart=>exact⟨0,Nat.zero_le _,rfl,rfl⟩
 case round =>
  obtain⟨k,hk,rfl,HK⟩:=hrel
  by_cases ab:k<l.length
  ·obtain⟨c,hc,aa⟩:=byte_at l k ab
   have HS:=zh (qM l Sz.valC k ab)
   rw[aa] at HS
   rcases aa1 c with⟨h1,d1,d2⟩ | ⟨h1,d1⟩ | ⟨h1,d1,d2⟩
   ·have HY:Hid ((l.take (k+1)).all Sz.valC=true):=by show _=_;rw[HS.out,HK.out,h1];rfl
    clear h1 aa HS
    go_wp2_with fail
    go_round
    case rel=>exact⟨k+1,by omega,by go_num,HY⟩
    case measure=>simp[intOf];omega
   all_goals
    have HR:Hid (R=false):=HF.out (oq l Sz.valC k ab (by rw[aa];exact h1))
    clear h1 aa HS
    go_wp2_with fail
    go_ret
    exact⟨by rw[HR.out];rfl,rfl⟩
  ·obtain rfl:k=l.length:=by omega
   have HR:Hid (R=true):=HT.out (by have:=HK.out;rwa [List.take_length] at this)
   clear HF HT
   go_wp2_with fail
   go_ret
   exact⟨by rw[HR.out];rfl,rfl⟩
theorem pE:Wm.sk 0=0:=rfl
theorem mW:Wm.nan 0=false:=rfl
theorem aeM (b:Nat)(hb:b<Wm.W):(FloatKind.f64.format.order b 0==some .lt)=(!Wm.nan b&&decide (Wm.sk b<0)):=by
 rw[Wm.tX b 0 hb (by decide),mW,pE];simp
def Fin (r:Nat):Prop:=0<r/\r<9218868437227405312
theorem bI {r:Nat}(h:Fin r)(n:Bool):Wm.word n r<Wm.W/\Wm.nan (Wm.word n r)=false/\Wm.sk (Wm.word n r)≠0/\Wm.sk (Wm.word n r)<9218868437227405312/\-9218868437227405312<Wm.sk (Wm.word n r):=by
 obtain⟨h1,h2⟩:=h
 obtain⟨a1,a2,a3⟩:=Wm.bA n (r:=r) (by omega)
 refine⟨a3,?_,?_⟩
 ·unfold Wm.nan;rw[a1];exact decide_eq_false (by omega)
 ·unfold Wm.sk;rw[a1,a2];cases n <;> simp <;> omega
theorem ot (b:Nat)(hb:b<Wm.W)(w:World) :
  Calls Tryz.prog 282 #[.float .f64 b] w fun e w'=>e=.returned (.bool (Wm.nan b))/\w=w':=by
 have H:=Wm.mV b hb
 go_enter Tryz.func282,Tryz.ntmps282
 go_wp2_with fail
 go_ret
 exact⟨rfl,rfl⟩
theorem fin_pos {r:Nat}(h:Fin r):r<Wm.W/\Wm.nan r=false/\Wm.sk r=r:=by
 obtain⟨h1,h2⟩:=h
 obtain⟨a1,a2,a3⟩:=Wm.bA false (r:=r) (by omega)
 refine⟨a3,?_,?_⟩
 ·unfold Wm.nan;rw[show Wm.rung r=r from a1];exact decide_eq_false (by omega)
 ·unfold Wm.sk;rw[show Wm.neg r=false from a2,show Wm.rung r=r from a1];rfl
theorem mX (n:Bool){r:Nat}(h:Fin r)(w:World) :
  Calls Tryz.prog 302 #[.float .f64 (Wm.word n r)] w fun e w'=>e=.returned (.float .f64 r)/\w=w':=by
 have h2:=h.2
 obtain⟨a1,a2,a3⟩:=Wm.bA n (r:=r) (by omega)
 have:=aeJ (Wm.word n r) a3 w
 rwa [a1] at this
theorem uh (n:Bool)(r:Nat)(h:Fin r)(w:World) :
  Calls Tryz.prog 281 #[.float .f64 (Wm.word n r),.int .i64 0] w fun e w'=>e=.returned (.bool false)/\w=w':=by
 obtain⟨g1,g2,g3⟩:=fin_pos h
 have h2:=h.2
 have o1:=Wm.aaW r 9218868437227405311 g1 (by decide)
 rw[g2,g3,show Wm.sk 9218868437227405311=9218868437227405311 from rfl,decide_eq_false (by omega)] at o1
 simp only[Bool.and_false] at o1
 clear g1 g2 g3 h2
 go_enter Tryz.func281,Tryz.ntmps281
 go_wp2_with fail
 refine (mX n h _).mono ?_
 rintro e w' ⟨rfl,rfl⟩
 go_wp2_with fail
 go_ret
 exact⟨rfl,rfl⟩
theorem pF (x y r:Nat)(h:Ieee.double.mul x y=some r)(W:World):(binOp .mul 58 (.float .f64 x) (.float .f64 y)).run Tryz.prog W=.ok (.float .f64 r) W :=
 run_float_arith W .mul _ .f64 x y r h
def nrmX (r:Nat):Int:=if r<4503599627370496 then -52 else 0
theorem j7 (n:Bool)(r:Nat)(h:Fin r)(w:World) :
  Calls Tryz.prog 283 #[.float .f64 (Wm.word n r)] w fun e w'=>e=.returned (.tuple #[.float .f64 (Wm.word n (Wm.nrm r)),.int .i64 (nrmX r)])/\w=w':=by
 obtain⟨g1,g2,g3⟩:=fin_pos h
 have o1:=Wm.tX r 4503599627370496 g1 (by decide)
 rw[g2,g3,show Wm.nan 4503599627370496=false from rfl,show Wm.sk 4503599627370496=4503599627370496 from rfl] at o1
 clear g1 g2 g3
 by_cases hr:r<4503599627370496
 ·rw[decide_eq_true (by omega)] at o1
  simp only[Bool.not_false,Bool.and_true] at o1
  have hm:=pF _ _ _ (Wm.aeD n h.1 hr)
  have HX:Hid (nrmX r = -52):=by show _=_;rw[nrmX,if_pos hr]
  clear hr
  go_enter Tryz.func283,Tryz.ntmps283
  go_wp2_with fail
  refine (mX n h _).mono ?_
  rintro e w' ⟨rfl,rfl⟩
  go_wp2_with fail
  go_ret2
  exact⟨by rw[HX.out];rfl,rfl⟩
 ·rw[decide_eq_false (by omega)] at o1
  simp only[Bool.not_false,Bool.and_false] at o1
  have HX:Hid (nrmX r=0/\Wm.nrm r=r):=by show _/\_;rw[nrmX,if_neg hr,Wm.nrm,if_neg hr];exact⟨rfl,rfl⟩
  clear hr
  go_enter Tryz.func283,Tryz.ntmps283
  go_wp2_with fail
  refine (mX n h _).mono ?_
  rintro e w' ⟨rfl,rfl⟩
  go_wp2_with fail
  go_ret2
  exact⟨by rw[HX.out.1,HX.out.2];rfl,rfl⟩
theorem xP (n:Bool){r:Nat}(h:Fin r):(FloatKind.f64.format.order (Wm.word n r) 0==some .eq)=false:=by
 obtain⟨g1,g2,g3,_⟩:=bI h n
 rw[Wm.afH _ 0 g1 (by decide),g2,mW,pE,decide_eq_false g3];rfl
theorem ac9 (n:Bool)(r:Nat)(h:Fin r)(w:World) :
  Calls Tryz.prog 257 #[.float .f64 (Wm.word n r)] w fun e w'=>e=.returned (.tuple #[.float .f64 (Wm.word n (4602678819172646912+Wm.fOf r)),.int .i64 (Wm.xOf r)])/\w=w':=by
 have o1:=xP n h
 obtain⟨n1,n2⟩:=Wm.aaU h.1 h.2
 have ab:=dS
 have aa:=jf
 have e1:=Wm.expB n (Wm.nrm r) (by omega)
 have e2:=Wm.clearB n (Wm.nrm r) (by omega)
 have e3:bits .or .u64 (Wm.word n (Wm.nrm r % 4503599627370496):Nat) 4602678819172646912=(Wm.word n (4602678819172646912+Wm.nrm r % 4503599627370496):Nat):=Wm.setB n 1022 (Wm.nrm r % 4503599627370496) (by decide) (by omega)
 have hq:Wm.nrm r / 4503599627370496<2048:=by omega
 have HX:Hid (Wm.xOf r=nrmX r+((Wm.nrm r / 4503599627370496:Nat)-1023+1)):=by
  show _=_
  unfold Wm.xOf nrmX
  split <;> omega
 have HF:Hid (Wm.fOf r=Wm.nrm r % 4503599627370496):=rfl
 have ac:nrmX r = -52\/nrmX r=0:=by unfold nrmX;split <;> simp
 clear n1 n2
 generalize Wm.nrm r / 4503599627370496=q at *
 go_enter Tryz.func257,Tryz.ntmps257
 go_wp2_with fail
 refine (uh n r h _).mono ?_
 rintro e w' ⟨rfl,rfl⟩
 go_wp2_with fail
 refine (ot _ (bI h n).1 _).mono ?_
 rintro e w' ⟨rfl,rfl⟩
 rw[(bI h n).2.1]
 go_wp2_with fail
 refine (j7 n r h _).mono ?_
 rintro e w' ⟨rfl,rfl⟩
 go_wp2_with fail
 go_ret2
 exact⟨by rw[HX.out,HF.out];rfl,rfl⟩
theorem aa2 (n:Bool)(r:Nat)(h:Fin r)(w:World) :
  Calls Tryz.prog 220 #[.float .f64 (Wm.word n r)] w fun e w'=>e=.returned (.tuple #[.float .f64 (Wm.word n (4602678819172646912+Wm.fOf r)),.int .i64 (Wm.xOf r)])/\w=w':=by
 go_enter Tryz.func220,Tryz.ntmps220
 go_wp2_with fail
 refine (ac9 n r h _).mono ?_
 rintro e w' ⟨rfl,rfl⟩
 go_wp2_with fail
 go_ret2
 exact⟨rfl,rfl⟩
theorem kW (b c:Nat)(hb:b<Wm.W)(hc:c<Wm.W)(w:World) :
  Calls Tryz.prog 285 #[.float .f64 b,.float .f64 c] w fun e w'=>e=.returned (.float .f64 (Wm.word (Wm.neg c) (Wm.rung b)))/\w=w':=by
 have ab:=dS
 have aa:=jf
 have e1:=Wm.absB b hb
 have e2:=Wm.sgnB c hc
 have e3:=Wm.signB (Wm.rung b) (Wm.jc b)
 have e4:bits .or .u64 (Wm.rung b:Int) 0=(Wm.rung b:Int):=by
  have h:=u64_or_nat (Wm.rung b) 0 (by have:=Wm.jc b;omega) (by decide)
  rw[Nat.or_zero] at h
  exact h
 have HW:Hid (∀ g r,Wm.word g r=if g then 9223372036854775808+r else r):=fun _ _=>rfl
 cases hg:Wm.neg c
 all_goals
  rw[hg] at e2
  go_enter Tryz.func285,Tryz.ntmps285
  go_wp2_with fail
  go_ret
  exact⟨by rw[HW.out];rfl,rfl⟩
theorem ada (n:Bool)(r:Nat)(e:Int)(h:Fin r)(hr:4503599627370496<=r)(he:-100000<=e/\e<=100000)(w:World) :
  Calls Tryz.prog 259 #[.float .f64 (Wm.word n r),.int .i64 e] w fun e' w'=>e'=.returned (.float .f64 (Wm.ldx n r e))/\w=w':=by
 have o1:=xP n h
 have h2:=h.2
 have ad:=dS
 have ac:=jf
 have e1:=Wm.expI n r (by omega)
 have e2:=Wm.clearB n r (by omega)
 have hq:r / 4503599627370496<2048:=by omega
 have aa:Wm.nrm r=r/\nrmX r=0:=by unfold Wm.nrm nrmX;rw[if_neg (by omega),if_neg (by omega)];exact⟨rfl,rfl⟩
 have HL:Hid (Wm.ldx n r e=if Wm.ldE r e < -1075 then Wm.word n 0 else if 1023<Wm.ldE r e then Wm.word n 9218868437227405312
  else if Wm.ldE r e < -1022 then Wm.deno n ((Wm.ldE r e+1076).toNat*4503599627370496+r % 4503599627370496)
  else Wm.word n ((Wm.ldE r e+1023).toNat*4503599627370496+r % 4503599627370496)):=rfl
 have HE:Hid (Wm.ldE r e=(r / 4503599627370496:Nat)-1023+e):=rfl
 have ab:r % 4503599627370496<4503599627370496:=by omega
 have ae:0<=(Wm.word n r:Int) / 4503599627370496:=by omega
 have af:(Wm.word n r:Int) / 4503599627370496<=4095:=by have:=(bI h n).1;unfold Wm.W at this;omega
 go_enter Tryz.func259,Tryz.ntmps259
 go_wp2_with fail
 refine (uh n r h _).mono ?_
 rintro e' w' ⟨rfl,rfl⟩
 go_wp2_with fail
 refine (ot _ (bI h n).1 _).mono ?_
 rintro e' w' ⟨rfl,rfl⟩
 rw[(bI h n).2.1]
 go_wp2_with fail
 refine (j7 n r h _).mono ?_
 rintro e' w' ⟨rfl,rfl⟩
 rw[aa.1,aa.2]
 clear aa hr h2
 generalize r / 4503599627370496=q at *
 by_cases c1:(q:Int)-1023+e < -1075
 ·have HV:Hid (Wm.ldx n r e=Wm.word n 0):=by show _=_;rw[HL.out,if_pos (by rw[HE.out];exact c1)]
  clear HL HE
  go_wp2_with fail
  refine (kW 0 (Wm.word n r) (by decide) (bI h n).1 _).mono ?_
  rintro e' w' ⟨rfl,rfl⟩
  rw[(Wm.bA n (r:=r) (by have:=h.2;omega)).2.1]
  go_wp2_with fail
  go_ret
  exact⟨by rw[HV.out];rfl,rfl⟩
 ·by_cases c2:1023<(q:Int)-1023+e
  ·have HV:Hid (Wm.ldx n r e=Wm.word n 9218868437227405312):=by show _=_;rw[HL.out,if_neg (by rw[HE.out];exact c1),if_pos (by rw[HE.out];exact c2)]
   clear HL HE
   have o2:=aeM _ (bI h n).1
   rw[(bI h n).2.1] at o2
   have hs:decide (Wm.sk (Wm.word n r)<0)=n:=by
    obtain⟨a1,a2,a3⟩:=Wm.bA n (r:=r) (by have:=h.2;omega)
    have:=h.1
    unfold Wm.sk;rw[a1,a2];cases n <;> simp <;> omega
   rw[hs] at o2
   clear hs
   cases n
   all_goals
    simp only[Bool.not_false,Bool.true_and] at o2
    go_wp2_with fail
    refine (pB _ _).mono ?_
    rintro e' w' ⟨rfl,rfl⟩
    go_wp2_with fail
    go_ret
    exact⟨by rw[HV.out];rfl,rfl⟩
  ·by_cases c3:(q:Int)-1023+e < -1022
   ·have HV:Hid (Wm.ldx n r e=Wm.deno n ((Wm.ldE r e+1076).toNat*4503599627370496+r % 4503599627370496)):=by show _=_;rw[HL.out,if_neg (by rw[HE.out];exact c1),if_neg (by rw[HE.out];exact c2),if_pos (by rw[HE.out];exact c3)]
    clear HL
    obtain⟨p,hp⟩:∃ p:Nat,(q:Int)-1023+e+1076=p:=⟨((q:Int)-1023+e+1076).toNat,by omega⟩
    have HP:Hid ((Wm.ldE r e+1076).toNat=p):=by show _=_;rw[HE.out];omega
    rw[HP.out] at HV
    have e3:bits .or .u64 (Wm.word n (r % 4503599627370496):Nat) ((e+((q:Int)-1023)+53+1023)*4503599627370496)=(Wm.word n (p*4503599627370496+r % 4503599627370496):Nat):=by
     rw[show (e+((q:Int)-1023)+53+1023)*4503599627370496=((p*4503599627370496:Nat):Int) from by omega]
     exact Wm.setB n p _ (by omega) ab
    have hm:=pF _ _ _ (Wm.ac3 n (r:=p*4503599627370496+r % 4503599627370496) (by omega)).1
    clear HP HE hp
    go_wp2_with fail
    go_ret
    exact⟨by rw[HV.out];rfl,rfl⟩
   ·have HV:Hid (Wm.ldx n r e=Wm.word n ((Wm.ldE r e+1023).toNat*4503599627370496+r % 4503599627370496)):=by show _=_;rw[HL.out,if_neg (by rw[HE.out];exact c1),if_neg (by rw[HE.out];exact c2),if_neg (by rw[HE.out];exact c3)]
    clear HL
    obtain⟨p,hp⟩:∃ p:Nat,(q:Int)-1023+e+1023=p:=⟨((q:Int)-1023+e+1023).toNat,by omega⟩
    have HP:Hid ((Wm.ldE r e+1023).toNat=p):=by show _=_;rw[HE.out];omega
    rw[HP.out] at HV
    have e3:bits .or .u64 (Wm.word n (r % 4503599627370496):Nat) ((e+((q:Int)-1023)+1023)*4503599627370496)=(Wm.word n (p*4503599627370496+r % 4503599627370496):Nat):=by
     rw[show (e+((q:Int)-1023)+1023)*4503599627370496=((p*4503599627370496:Nat):Int) from by omega]
     exact Wm.setB n p _ (by omega) ab
    have hm:=pF _ _ _ (Wm.mul_one n (r:=p*4503599627370496+r % 4503599627370496) (by omega) (by omega))
    clear HP HE hp
    go_wp2_with fail
    go_ret
    exact⟨by rw[HV.out];rfl,rfl⟩
theorem qN (n:Bool)(r:Nat)(e:Int)(h:Fin r)(hr:4503599627370496<=r)(he:-100000<=e/\e<=100000)(w:World) :
  Calls Tryz.prog 221 #[.float .f64 (Wm.word n r),.int .i64 e] w fun e' w'=>e'=.returned (.float .f64 (Wm.ldx n r e))/\w=w':=by
 go_enter Tryz.func221,Tryz.ntmps221
 go_wp2_with fail
 refine (ada n r e h hr he _).mono ?_
 rintro e' w' ⟨rfl,rfl⟩
 go_wp2_with fail
 go_ret
 exact⟨rfl,rfl⟩
end
end Go.Proofs.YtgnaiidgjmicaaaGreatDoor
