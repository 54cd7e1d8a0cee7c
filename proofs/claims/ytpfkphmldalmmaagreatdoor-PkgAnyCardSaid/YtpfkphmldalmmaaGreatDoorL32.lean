/- Part 32 of what the laws lean on. -/
import Derived.Test.YtpfkphmldalmmaaGreatDoorL31
set_option maxRecDepth 100000
set_option maxHeartbeats 3200000
namespace Go.Proofs.YtpfkphmldalmmaaGreatDoor
section
open Go.RowKit Rs At Pg
def Pg.hasL (l:List Sp) (v:List UInt8):Bool:=hasR (l.map Sp.piece) v
def Pg.givM (g:Gv) (a:Atm):Bool:=decide (g.name=a.name)&&(if g.ver=[] then decide (a.rng=allR.map spOf) else hasL a.rng g.ver)
def Pg.metP (p:Pk) (a:Atm):Bool:=(decide (p.name=a.name)&&hasL a.rng p.ver)||p.prov.any (fun g=>givM g a)
attribute [local go_sem ↓] Go.wp_at_zero Go.wp_at_succ
theorem rJ (g:Gv)(nm:List UInt8)(A:Option Addr)(n c:Nat)(l:List Sp)(w:World)(hw:MaxOk w)(hn:l.length=n)(hr:SRow w A l)(hl:n<=64)(hk:checkR l=0)(hv:g.ver=[]\/Vm.check g.ver=0) :
  Calls Tryz.prog 60 #[.agg #[.string ⟨g.name.toArray⟩,.string ⟨g.ver.toArray⟩],.agg #[.string ⟨nm.toArray⟩,.slice A n c]] w fun e w'=>e=.returned (.bool (givM g ⟨nm,l⟩))/\Below w.heap.size w w':=by
 obtain⟨gn,gv⟩:=g
 dsimp only at hv ⊢
 obtain⟨R,hR⟩:=ex (givM ⟨gn,gv⟩ ⟨nm,l⟩)
 rw[hR]
 unfold givM at hR
 dsimp only at hR
 obtain⟨V,hV⟩:=ex (w.alloc (.cells #[.string ⟨gn.toArray⟩,.string ⟨gv.toArray⟩] 58))
 obtain⟨b,hb⟩:=ex V.heap.size
 obtain⟨U,hU⟩:=ex (V.alloc (.cells #[.string ⟨nm.toArray⟩,.slice A n c] 66))
 have aa:Hid (Bx2 b nm A n c U):=by rw[<-hU,<-hb];exact dz V nm A n c _
 have ae:Hid (Below V.heap.size V U):=ai hU
 have ac:b<U.heap.size:=by rw[<-hU,<-hb];simp
 have HB:Hid (Below w.heap.size w U):=(ai hV).trans (ae.out.mono (ai hV).size)
 have af:Hid (MaxOk U):=ah hw HB.out
 have ag:Hid (SRow U A l):=an hr HB.out
 have HN:=zh hn
 have HK:=zh hk
 have HR:=zh hR
 obtain⟨c0,c1⟩:=aB hV ae.out
 obtain⟨k0,k1⟩:=aa.out
 clear hw hn hr hk hR
 by_cases e1:gn=nm
 case neg =>
  have d1:(gn != nm)=true:=by simp[e1]
  have d0:(gn==nm)=false:=beq_eq_false_iff_ne.2 e1
  have HF:Hid (R=false):=by show _=_;rw[<-HR.out,decide_eq_false e1,Bool.false_and]
  clear e1
  go_enter Tryz.func60,Tryz.ntmps60
  go_wp2_with fail
  go_ret
  exact⟨by rw[HF.out];rfl,HB.out⟩
 have d1:(gn != nm)=false:=by simp[e1]
 have d0:(gn==nm)=true:=beq_iff_eq.2 e1
 by_cases e2:gv=[]
 ·have e:(gv==[])=true:=by rw[e2];rfl
  obtain⟨sm,ad⟩:=ex (decide (l=allR.map spOf))
  have ao:=zh ad
  have HF:Hid (sm=R):=by show _=_;rw[<-HR.out,decide_eq_true e1,if_pos e2,Bool.true_and];exact ad.symm
  clear e1 e2 ad hv
  go_enter Tryz.func60,Tryz.ntmps60
  go_wp2_with fail
  clear hb hV hU c0 c1
  have aj:Hid (St U U.drew [⟨A,n,l⟩]):=⟨af.out,(Below.refl _ _).drew,fun x hx=>by rw[List.mem_singleton.1 hx];exact⟨an ag.out (Below.refl _ _).drew,HN.out⟩⟩
  go_region_held3 (fun w'=>w'.cell? ⟨b,0,none⟩=some (.string ⟨nm.toArray⟩)/\w'.cell? ⟨b,1,none⟩=some (.slice A n c))
   (first
    | exact aF aa.out ac aj.out.2.1
    | exact aF aa.out ac ab.out.2.1
    | exact aF aa.out ac al.out.2.1)
   (first
    | (go_at_call 21;refine (xZ aj.out allR rfl).mono ?_;rintro _ u2 ⟨C,m2,d,rfl,hs⟩;have ab:=zh hs;have ak:m2=1:=(aH hs 0 rfl).2.symm;have ap:=zh ak;clear hs ak)
    | (go_at_call 74;refine (zA ab.out 1 0 rfl rfl (by omega) (by rw[ap.out];decide) _ _ sm ao.out).mono ?_;rintro _ u3 ⟨rfl,hs⟩;have al:=zh hs;clear hs))
  go_wp2_with fail
  go_ret
  exact⟨by rw[<-HF.out];rfl,HB.out.trans (al.out.2.1.mono HB.out.size)⟩
 ·have e:(gv==[])=false:=beq_eq_false_iff_ne.2 e2
  have am:Vm.check gv=0:=hv.resolve_left e2
  have HF:Hid (hasR (l.map Sp.piece) gv=R):=by show _=_;rw[<-HR.out,decide_eq_true e1,if_neg e2,Bool.true_and];rfl
  have HS:Hid (St U U [⟨A,n,l⟩]):=⟨af.out,Below.refl _ _,fun x hx=>by rw[List.mem_singleton.1 hx];exact⟨ag.out,HN.out⟩⟩
  have HH:=zh (zQ HS.out 0 rfl HK.out c gv am R HF.out)
  clear e1 e2 hv am
  go_enter Tryz.func60,Tryz.ntmps60
  go_wp2_with fail
  clear hb hV hU c0 c1
  refine HH.out.mono ?_
  rintro _ u2 ⟨rfl,hs⟩
  have ab:=zh hs.2.1
  clear hs
  go_wp2_with fail
  go_ret
  exact⟨rfl,bt HB.out ab.out⟩
theorem yB (g:Gv)(b:Nat)(nm:List UInt8)(A:Option Addr)(n c:Nat)(l:List Sp)(w:World)(hw:MaxOk w)(hn:l.length=n)(hr:SRow w A l)(hl:n<=64)(hk:checkR l=0)(hv:g.ver=[]\/Vm.check g.ver=0)(hx:Bx2 b nm A n c w)(hb:b<w.heap.size) :
  Calls Tryz.prog 59 #[.agg #[.string ⟨g.name.toArray⟩,.string ⟨g.ver.toArray⟩],.pointer (some ⟨b,0,none⟩)] w fun e w'=>e=.returned (.bool (givM g ⟨nm,l⟩))/\Below w.heap.size w w':=by
 obtain⟨V,hV⟩:=ex (w.alloc (.cells #[.string ⟨g.name.toArray⟩,.string ⟨g.ver.toArray⟩] 58))
 have HB:Hid (Below w.heap.size w V):=ai hV
 have HG:=zh (rJ g nm A n c l V (ah hw HB.out) hn (an hr HB.out) hl hk hv)
 obtain⟨c0,c1⟩:=aB hV (Below.refl _ _)
 obtain⟨k0,k1⟩:=aF hx hb HB.out
 clear hw hn hr hl hk hv hx hb
 go_enter Tryz.func59,Tryz.ntmps59
 go_wp2_with fail
 refine HG.out.mono ?_
 rintro _ u ⟨rfl,hb⟩
 have HU:Hid (Below w.heap.size w u):=bt HB.out hb
 clear hb
 go_wp2_with fail
 go_ret
 exact⟨rfl,HU.out⟩
theorem vY (A:Option Addr)(n c:Nat)(l:List Gv)(b:Nat)(nm:List UInt8)(B:Option Addr)(m d:Nat)(r:List Sp)(w:World)(hw:MaxOk w)(hn:l.length=n)(hr:GRow w A l)(hl:n<=1000000)(ho:∀ g∈l,g.ver=[]\/Vm.check g.ver=0)(hm:r.length=m)(hq:SRow w B r)(hm2:m<=64)(hk:checkR r=0)(hx:Bx2 b nm B m d w)(hb:b<w.heap.size) :
  Calls Tryz.prog 103 #[.slice A n c,.func (.func 59) #[] #[.pointer (some ⟨b,0,none⟩)]] w (IdxRet w (l.any fun g=>givM g ⟨nm,r⟩)):=by
 have HR:=zh hr
 have HN:=zh hn
 have HO:=zh ho
 have HC:=zh (fun (g:Gv) (hv:g.ver=[]\/Vm.check g.ver=0) (W:World) (h:Below w.heap.size w W)=>yB g b nm B m d r W (ah hw h) hm (an hq h) hm2 hk hv (aF hx hb h) (Nat.lt_of_lt_of_le hb h.size))
 obtain⟨X,hX⟩:=ex (l.any fun g=>givM g ⟨nm,r⟩)
 rw[hX]
 obtain⟨f,hf⟩:∃ f:Gv->Bool,(fun g=>givM g ⟨nm,r⟩)=f:=⟨_,rfl⟩
 rw[hf] at hX
 have HF:Hid (∀ g,givM g ⟨nm,r⟩=f g):=fun g=>by rw[<-hf]
 have HX:Hid (X=l.any f):=hX.symm
 clear hw hr hn ho hm hq hm2 hk hx hb hX hf
 go_enter Tryz.func103,Tryz.ntmps103
 go_wp2_with fail
 go_loopw [8] (fun i wr=>∃ k:Nat,k<=n/\i=.int .i64 k/\Hid ((l.take k).any f=false)/\Hid (Below w.heap.size w wr)) (fun i _=>n-(intOf i).toNat)
 case atStart=>exact⟨0,Nat.zero_le _,rfl,rfl,Below.refl _ _⟩
 case round =>
  obtain⟨k,hk,rfl,HA,HB⟩:=hrel
  by_cases ag:k<n
  ·have aa:k<l.length:=by rw[HN.out];exact ag
   obtain⟨ad,rfl,hc⟩:=b8 HR.out k aa
   obtain⟨c0,c1⟩:=hc _ HB.out
   have HS:Hid ((l.take (k+1)).any f=((l.take k).any f||f l[k])):=by show _=_;rw[List.take_succ_eq_append_getElem aa,List.any_append];simp
   have HY:Hid (f l[k]=true->X=true):=fun h=>by rw[HX.out];exact List.any_eq_true.2 ⟨_,List.getElem_mem aa,h⟩
   have ab:=HO.out _ (List.getElem_mem aa)
   generalize l[k]=g at c0 c1 HS HY ab
   have HG:=HC.out g ab wr HB.out
   rw[HF.out] at HG
   have ac:=zh HG
   clear HG hc aa ab
   go_wp2_with fail
   refine ac.out.mono ?_
   rintro _ w1 ⟨rfl,af⟩
   have ae:Hid (Below w.heap.size w w1):=bt HB.out af
   clear af c0 c1 ac
   cases hp:f g
   ·have ai:Hid ((l.take (k+1)).any f=false):=by show _=_;rw[HS.out,HA.out];exact hp
    clear hp
    go_wp2_with fail
    go_roundw
    case rel=>exact⟨k+1,by omega,by go_num,ai.out,ae.out⟩
    case measure=>simp[intOf];omega
   ·have aj:Hid (X=true):=HY.out hp
    clear hp
    go_wp2_with fail
    go_ret
    exact⟨⟨k,rfl,by rw[aj.out];exact decide_eq_true (by omega)⟩,ae.out⟩
  ·have ak:Hid (X=false):=by
    show _=_
    have:=HA.out
    rw[List.take_of_length_le (by rw[HN.out];omega)] at this
    rw[HX.out];exact this
   go_wp2_with fail
   go_ret
   exact⟨⟨-1,rfl,by rw[ak.out];rfl⟩,HB.out⟩
theorem vZ (A:Option Addr)(n c:Nat)(l:List Gv)(b:Nat)(nm:List UInt8)(B:Option Addr)(m d:Nat)(r:List Sp)(w:World)(hw:MaxOk w)(hn:l.length=n)(hr:GRow w A l)(hl:n<=1000000)(ho:∀ g∈l,g.ver=[]\/Vm.check g.ver=0)(hm:r.length=m)(hq:SRow w B r)(hm2:m<=64)(hk:checkR r=0)(hx:Bx2 b nm B m d w)(hb:b<w.heap.size) :
  Calls Tryz.prog 58 #[.slice A n c,.func (.func 59) #[] #[.pointer (some ⟨b,0,none⟩)]] w fun e w'=>e=.returned (.bool (l.any fun g=>givM g ⟨nm,r⟩))/\Below w.heap.size w w':=by
 have HC:=zh (vY A n c l b nm B m d r w hw hn hr hl ho hm hq hm2 hk hx hb)
 obtain⟨X,hX⟩:=ex (l.any fun g=>givM g ⟨nm,r⟩)
 rw[hX] at HC ⊢
 clear hw hn hr hl ho hm hq hm2 hk hx hb hX
 go_enter Tryz.func58,Tryz.ntmps58
 go_wp2_with fail
 refine HC.out.mono ?_
 rintro _ w1 ⟨⟨m,rfl,hm⟩,hb⟩
 have HB:=zh hb
 clear hb
 cases X
 all_goals
  go_wp2_with fail
  go_ret
  exact⟨rfl,HB.out⟩
theorem uj (p:Pk)(D C G:Option Addr)(dn dc cn cc gn gc:Nat)(nm:List UInt8)(B:Option Addr)(m d:Nat)(r:List Sp)(w:World)(hw:MaxOk w)(hg:GRow w G p.prov)(hgn:p.prov.length=gn)(hgl:gn<=1000000)(ho:∀ g∈p.prov,g.ver=[]\/Vm.check g.ver=0)(hv:Vm.check p.ver=0)(hm:r.length=m)(hq:SRow w B r)(hm2:m<=64)(hk:checkR r=0) :
  Calls Tryz.prog 20 #[.agg #[.string ⟨p.name.toArray⟩,.string ⟨p.ver.toArray⟩,.slice D dn dc,.slice C cn cc,.slice G gn gc,.float .f64 p.wt],.agg #[.string ⟨nm.toArray⟩,.slice B m d]] w fun e w'=>e=.returned (.bool (metP p ⟨nm,r⟩))/\Below w.heap.size w w':=by
 have am:∀ (fn:Fn) (first cap:Array Value) (w:World),(Instr.makeFunc fn first cap).run Tryz.prog w=.ok (.func fn first cap) w:=fun _ _ _ _=>rfl
 obtain⟨pn,pv,ae,aa,prov,wt⟩:=p
 dsimp only at hg hgn ho hv ⊢
 obtain⟨R,hR⟩:=ex (metP ⟨pn,pv,ae,aa,prov,wt⟩ ⟨nm,r⟩)
 rw[hR]
 unfold metP at hR
 dsimp only at hR
 obtain⟨V,hV⟩:=ex (w.alloc (.cells #[.string ⟨pn.toArray⟩,.string ⟨pv.toArray⟩,.slice D dn dc,.slice C cn cc,.slice G gn gc,.float .f64 wt] 34))
 obtain⟨b,hb⟩:=ex V.heap.size
 obtain⟨U,hU⟩:=ex (V.alloc (.cells #[.string ⟨nm.toArray⟩,.slice B m d] 66))
 have HV:=zh hV
 have ad:Hid (Bx2 b nm B m d U):=by rw[<-hU,<-hb];exact dz V nm B m d _
 have ac:Hid (Below V.heap.size V U):=ai hU
 have af:b<U.heap.size:=by rw[<-hU,<-hb];simp
 have HB:Hid (Below w.heap.size w U):=(ai hV).trans (ac.out.mono (ai hV).size)
 have HC:=zh (fun (W:World) (h:Below U.heap.size U W)=>vZ G gn gc prov b nm B m d r W (ah hw (bt HB.out h)) hgn (Rg.ak hg (bt HB.out h)) hgl ho hm (an hq (bt HB.out h)) hm2 hk (aF ad.out af h) (Nat.lt_of_lt_of_le af h.size))
 obtain⟨y,hy⟩:=ex (prov.any fun g=>givM g ⟨nm,r⟩)
 rw[hy] at HC hR
 obtain⟨x,hx⟩:=ex (hasL r pv)
 rw[hx] at hR
 have HS:Hid (St U U [⟨B,m,r⟩]):=⟨ah hw HB.out,Below.refl _ _,fun x hx=>by rw[List.mem_singleton.1 hx];exact⟨an hq HB.out,hm⟩⟩
 have HH:=zh (zQ HS.out 0 rfl hk d pv hv x hx)
 have HR:=zh hR
 clear hw hg hgn hgl ho hv hm hq hm2 hk hR hy hx
 by_cases e1:pn=nm
 case neg =>
  have d0:(pn==nm)=false:=beq_eq_false_iff_ne.2 e1
  have HF:Hid (y=R):=by show _=_;rw[<-HR.out,decide_eq_false e1,Bool.false_and,Bool.false_or]
  obtain⟨c0,-,-,-,c4,-⟩:=az HV.out ac.out
  obtain⟨k0,k1⟩:=ad.out
  clear e1
  go_enter Tryz.func20,Tryz.ntmps20
  go_wp2_with fail
  refine (HC.out _ (Below.refl _ _)).mono ?_
  rintro _ u ⟨rfl,ab⟩
  have HU:Hid (Below w.heap.size w u):=bt HB.out ab
  clear ab
  go_wp2_with fail
  go_ret
  exact⟨by rw[<-HF.out];rfl,HU.out⟩
 have d0:(pn==nm)=true:=beq_iff_eq.2 e1
 have ag:Hid ((x||y)=R):=by show _=_;rw[<-HR.out,decide_eq_true e1,Bool.true_and]
 obtain⟨c0,c1,-,-,-,-⟩:=az HV.out ac.out
 obtain⟨k0,k1⟩:=ad.out
 clear e1 HR
 go_enter Tryz.func20,Tryz.ntmps20
 go_wp2_with fail
 clear hV hU c0 c1 k0 k1
 refine HH.out.mono ?_
 rintro _ u ⟨rfl,hs⟩
 have HU:=zh hs.2.1
 have aj:Hid (Below w.heap.size w u):=bt HB.out HU.out
 clear hs
 cases x
 case true =>
  have HF:Hid (true=R):=ag.out
  go_wp2_with fail
  go_ret
  exact⟨by rw[<-HF.out];rfl,aj.out⟩
 have HF:Hid (y=R):=ag.out
 obtain⟨-,-,-,-,c4,-⟩:=az HV.out (bt ac.out HU.out)
 go_wp2_with fail
 refine (HC.out _ HU.out).mono ?_
 rintro _ u2 ⟨rfl,ab⟩
 have al:Hid (Below w.heap.size w u2):=bt aj.out ab
 clear ab
 go_wp2_with fail
 go_ret
 exact⟨by rw[<-HF.out];rfl,al.out⟩
end
section
open Go.RowKit Rs At Pg
attribute [local go_sem ↓] Go.wp_at_zero Go.wp_at_succ
theorem v7 (A B:Option Addr)(n m c d:Nat)(l k:List Atm)(w:World)(hn:l.length=n)(hm:k.length=m)(hr:ARow w A l)(hq:ARow w B k)(hl:n<=1000000)(hf:AFew l)(hg:AFew k) :
  Calls Tryz.prog 33 #[.slice A n c,.slice B m d,.func (.func 34) #[] #[]] w fun e w'=>e=.returned (.bool (decide (l=k)))/\Below w.heap.size w w':=by
 obtain⟨X,hX⟩:=ex (decide (l=k))
 rw[hX]
 have HX:=zh hX
 have HR:=zh hr
 have HQ:=zh hq
 have HN:=zh hn
 have HM:=zh hm
 have HF:=zh hf
 have HG:=zh hg
 clear hX hr hq hn hm hf hg
 by_cases hlen:n=m
 ·have hd:((n:Int) != m)=false:=by rw[hlen];simp
  have HL:=zh hlen
  clear hlen
  go_enter Tryz.func33,Tryz.ntmps33
  go_wp2_with fail
  clear hd
  go_loopw [17] (fun i wr=>∃ j:Nat,j<=n/\i=.int .i64 j/\Hid (l.take j=k.take j)/\Hid (Below w.heap.size w wr)) (fun i _=>n-(intOf i).toNat)
  case atStart=>exact⟨0,Nat.zero_le _,rfl,rfl,Below.refl _ _⟩
  case round =>
   obtain⟨j,hj,rfl,HT,HW⟩:=hrel
   by_cases aj:j<n
   ·have ac:j<m:=by have:=HL.out;omega
    have h1:j<l.length:=by rw[HN.out];exact aj
    have h2:j<k.length:=by rw[HM.out];exact ac
    obtain⟨ad,C,x,cx,rfl,hx,hs,hc⟩:=bM HR.out j h1
    obtain⟨ae,C',y,cy,rfl,hy,ht,he⟩:=bM HQ.out j h2
    obtain⟨f1,f2⟩:=ei HF.out j h1
    obtain⟨g1,g2⟩:=ei HG.out j h2
    have aa:Hid (l[j]=k[j]->l.take (j+1)=k.take (j+1)):=fun q=>by
     rw[List.take_succ_eq_append_getElem h1,List.take_succ_eq_append_getElem h2,HT.out,q]
    have ab:Hid (l[j]≠k[j]->X=false):=fun q=>by
     rw[<-HX.out];exact decide_eq_false fun h=>q (by subst h;rfl)
    obtain⟨a,ha⟩:=ex (l[j])
    obtain⟨b,hb⟩:=ex (k[j])
    rw[ha] at hx hs f2
    rw[hb] at hy ht g2
    rw[ha,hb] at aa ab
    obtain⟨c0,c1⟩:=hc _ HW.out
    rw[ha] at c0
    obtain⟨na,ra⟩:=a
    obtain⟨nb,rb⟩:=b
    dsimp only at hx hs f2 hy ht g2 c0
    obtain⟨V,hV⟩:=ex (wr.alloc (.cells #[.string ⟨na.toArray⟩,.slice C x cx] 66))
    have af:Hid (Below w.heap.size w V):=HW.out.trans ((ai hV).mono HW.out.size)
    obtain⟨e0,e1⟩:=he _ af.out
    rw[hb] at e0
    dsimp only at e0
    obtain⟨U,hU⟩:=ex (V.alloc (.cells #[.string ⟨nb.toArray⟩,.slice C' y cy] 66))
    have ag:Hid (Below w.heap.size w U):=af.out.trans ((ai hU).mono af.out.size)
    obtain⟨u0,u1⟩:=aB hV (ai hU)
    obtain⟨u2,u3⟩:=aB hU (Below.refl _ _)
    have HS:=zh (kV na nb C C' x y cx cy ra rb U hx hy (an hs ag.out) (an ht ag.out) (by omega) (by omega))
    clear hc he ha hb hx hs f1 f2 hy ht g1 g2 h1 h2
    go_wp2_with fail
    clear hV hU
    refine HS.out.mono ?_
    rintro _ u ⟨rfl,hb⟩
    have HU:Hid (Below w.heap.size w u):=bt ag.out hb
    clear hb HS c0 c1 e0 e1 u0 u1 u2 u3
    by_cases hq:(⟨na,ra⟩:Atm)=⟨nb,rb⟩
    ·rw[decide_eq_true hq]
     have ak:=zh (aa.out hq)
     clear aa ab hq
     go_wp2_with fail
     go_roundw
     case rel=>exact⟨j+1,by omega,by go_num,ak.out,HU.out⟩
     case measure=>simp[intOf];omega
    ·rw[decide_eq_false hq]
     have ah:=zh (ab.out hq)
     clear aa ab hq
     go_wp2_with fail
     go_ret
     exact⟨by rw[ah.out];rfl,HU.out⟩
   ·obtain rfl:j=n:=by omega
    have al:Hid (X=true):=by
     show _=_
     have:=HT.out
     rw[List.take_of_length_le (by rw[HN.out];exact Nat.le_refl _),List.take_of_length_le (by rw[HM.out,HL.out];exact Nat.le_refl _)] at this
     rw[<-HX.out];exact decide_eq_true this
    clear HT
    go_wp2_with fail
    go_ret
    exact⟨by rw[al.out];rfl,HW.out⟩
 ·have hd:((n:Int) != m)=true:=by simp;omega
  have ah:Hid (X=false):=by show _=_;rw[<-HX.out];exact decide_eq_false fun h=>hlen (by rw[<-HN.out,<-HM.out,h])
  go_enter Tryz.func33,Tryz.ntmps33
  go_wp2_with fail
  go_ret
  exact⟨by rw[ah.out];rfl,Below.refl _ _⟩
theorem aaH (A B:Option Addr)(n m c d:Nat)(l k:List Atm)(w:World)(hn:l.length=n)(hm:k.length=m)(hr:ARow w A l)(hq:ARow w B k)(hl:n<=1000000)(hf:AFew l)(hg:AFew k) :
  Calls Tryz.prog 73 #[.slice A n c,.slice B m d,.func (.func 34) #[] #[]] w fun e w'=>e=.returned (.bool (decide (l=k)))/\Below w.heap.size w w':=by
 obtain⟨X,hX⟩:=ex (decide (l=k))
 rw[hX]
 have HX:=zh hX
 have HR:=zh hr
 have HQ:=zh hq
 have HN:=zh hn
 have HM:=zh hm
 have HF:=zh hf
 have HG:=zh hg
 clear hX hr hq hn hm hf hg
 by_cases hlen:n=m
 ·have hd:((n:Int) != m)=false:=by rw[hlen];simp
  have HL:=zh hlen
  clear hlen
  go_enter Tryz.func73,Tryz.ntmps73
  go_wp2_with fail
  clear hd
  go_loopw [17] (fun i wr=>∃ j:Nat,j<=n/\i=.int .i64 j/\Hid (l.take j=k.take j)/\Hid (Below w.heap.size w wr)) (fun i _=>n-(intOf i).toNat)
  case atStart=>exact⟨0,Nat.zero_le _,rfl,rfl,Below.refl _ _⟩
  case round =>
   obtain⟨j,hj,rfl,HT,HW⟩:=hrel
   by_cases aj:j<n
   ·have ac:j<m:=by have:=HL.out;omega
    have h1:j<l.length:=by rw[HN.out];exact aj
    have h2:j<k.length:=by rw[HM.out];exact ac
    obtain⟨ad,C,x,cx,rfl,hx,hs,hc⟩:=bM HR.out j h1
    obtain⟨ae,C',y,cy,rfl,hy,ht,he⟩:=bM HQ.out j h2
    obtain⟨f1,f2⟩:=ei HF.out j h1
    obtain⟨g1,g2⟩:=ei HG.out j h2
    have aa:Hid (l[j]=k[j]->l.take (j+1)=k.take (j+1)):=fun q=>by
     rw[List.take_succ_eq_append_getElem h1,List.take_succ_eq_append_getElem h2,HT.out,q]
    have ab:Hid (l[j]≠k[j]->X=false):=fun q=>by
     rw[<-HX.out];exact decide_eq_false fun h=>q (by subst h;rfl)
    obtain⟨a,ha⟩:=ex (l[j])
    obtain⟨b,hb⟩:=ex (k[j])
    rw[ha] at hx hs f2
    rw[hb] at hy ht g2
    rw[ha,hb] at aa ab
    obtain⟨c0,c1⟩:=hc _ HW.out
    rw[ha] at c0
    obtain⟨na,ra⟩:=a
    obtain⟨nb,rb⟩:=b
    dsimp only at hx hs f2 hy ht g2 c0
    obtain⟨V,hV⟩:=ex (wr.alloc (.cells #[.string ⟨na.toArray⟩,.slice C x cx] 66))
    have af:Hid (Below w.heap.size w V):=HW.out.trans ((ai hV).mono HW.out.size)
    obtain⟨e0,e1⟩:=he _ af.out
    rw[hb] at e0
    dsimp only at e0
    obtain⟨U,hU⟩:=ex (V.alloc (.cells #[.string ⟨nb.toArray⟩,.slice C' y cy] 66))
    have ag:Hid (Below w.heap.size w U):=af.out.trans ((ai hU).mono af.out.size)
    obtain⟨u0,u1⟩:=aB hV (ai hU)
    obtain⟨u2,u3⟩:=aB hU (Below.refl _ _)
    have HS:=zh (kV na nb C C' x y cx cy ra rb U hx hy (an hs ag.out) (an ht ag.out) (by omega) (by omega))
    clear hc he ha hb hx hs f1 f2 hy ht g1 g2 h1 h2
    go_wp2_with fail
    clear hV hU
    refine HS.out.mono ?_
    rintro _ u ⟨rfl,hb⟩
    have HU:Hid (Below w.heap.size w u):=bt ag.out hb
    clear hb HS c0 c1 e0 e1 u0 u1 u2 u3
    by_cases hq:(⟨na,ra⟩:Atm)=⟨nb,rb⟩
    ·rw[decide_eq_true hq]
     have ak:=zh (aa.out hq)
     clear aa ab hq
     go_wp2_with fail
     go_roundw
     case rel=>exact⟨j+1,by omega,by go_num,ak.out,HU.out⟩
     case measure=>simp[intOf];omega
    ·rw[decide_eq_false hq]
     have ah:=zh (ab.out hq)
     clear aa ab hq
     go_wp2_with fail
     go_ret
     exact⟨by rw[ah.out];rfl,HU.out⟩
   ·obtain rfl:j=n:=by omega
    have al:Hid (X=true):=by
     show _=_
     have:=HT.out
     rw[List.take_of_length_le (by rw[HN.out];exact Nat.le_refl _),List.take_of_length_le (by rw[HM.out,HL.out];exact Nat.le_refl _)] at this
     rw[<-HX.out];exact decide_eq_true this
    clear HT
    go_wp2_with fail
    go_ret
    exact⟨by rw[al.out];rfl,HW.out⟩
 ·have hd:((n:Int) != m)=true:=by simp;omega
  have ah:Hid (X=false):=by show _=_;rw[<-HX.out];exact decide_eq_false fun h=>hlen (by rw[<-HN.out,<-HM.out,h])
  go_enter Tryz.func73,Tryz.ntmps73
  go_wp2_with fail
  go_ret
  exact⟨by rw[ah.out];rfl,Below.refl _ _⟩
theorem v8 (A B:Option Addr)(n m c d:Nat)(l k:List Atm)(w:World)(hn:l.length=n)(hm:k.length=m)(hr:ARow w A l)(hq:ARow w B k)(hl:n<=1000000)(hf:AFew l)(hg:AFew k) :
  Calls Tryz.prog 32 #[.slice A n c,.slice B m d] w fun e w'=>e=.returned (.bool (decide (l=k)))/\Below w.heap.size w w':=by
 have HS:=zh (aaH A B n m c d l k w hn hm hr hq hl hf hg)
 clear hn hm hr hq hl hf hg
 go_enter Tryz.func32,Tryz.ntmps32
 go_wp2_with fail
 refine HS.out.mono ?_
 rintro _ u ⟨rfl,hb⟩
 have HU:=zh hb
 clear hb
 go_wp2_with fail
 go_ret
 exact⟨rfl,HU.out⟩
theorem yC (A B:Option Addr)(n m c d:Nat)(l k:List (List Atm))(w:World)(hn:l.length=n)(hm:k.length=m)(hr:Pg.DRow w A l)(hq:Pg.DRow w B k)(hl:n<=1000000)(hf:DFew l)(hg:DFew k) :
  Calls Tryz.prog 31 #[.slice A n c,.slice B m d,.func (.func 32) #[] #[]] w fun e w'=>e=.returned (.bool (decide (l=k)))/\Below w.heap.size w w':=by
 obtain⟨X,hX⟩:=ex (decide (l=k))
 rw[hX]
 have HX:=zh hX
 have HR:=zh hr
 have HQ:=zh hq
 have HN:=zh hn
 have HM:=zh hm
 have HF:=zh hf
 have HG:=zh hg
 clear hX hr hq hn hm hf hg
 by_cases hlen:n=m
 ·have hd:((n:Int) != m)=false:=by rw[hlen];simp
  have HL:=zh hlen
  clear hlen
  go_enter Tryz.func31,Tryz.ntmps31
  go_wp2_with fail
  clear hd
  go_loopw [17] (fun i wr=>∃ j:Nat,j<=n/\i=.int .i64 j/\Hid (l.take j=k.take j)/\Hid (Below w.heap.size w wr)) (fun i _=>n-(intOf i).toNat)
  case atStart=>exact⟨0,Nat.zero_le _,rfl,rfl,Below.refl _ _⟩
  case round =>
   obtain⟨j,hj,rfl,HT,HW⟩:=hrel
   by_cases ag:j<n
   ·have aa:j<m:=by have:=HL.out;omega
    have h1:j<l.length:=by rw[HN.out];exact ag
    have h2:j<k.length:=by rw[HM.out];exact aa
    obtain⟨ad,C,x,cx,rfl,hx,hs,hc⟩:=bT HR.out j h1
    obtain⟨ae,C',y,cy,rfl,hy,ht,he⟩:=bT HQ.out j h2
    obtain⟨f1,f2⟩:=fT HF.out j h1
    obtain⟨g1,g2⟩:=fT HG.out j h2
    have ab:Hid (l[j]=k[j]->l.take (j+1)=k.take (j+1)):=fun q=>by
     rw[List.take_succ_eq_append_getElem h1,List.take_succ_eq_append_getElem h2,HT.out,q]
    have ac:Hid (l[j]≠k[j]->X=false):=fun q=>by
     rw[<-HX.out];exact decide_eq_false fun h=>q (by subst h;rfl)
    have c0:=hc _ HW.out
    have e0:=he _ HW.out
    have HS:=zh (v8 C C' x y cx cy l[j] k[j] wr hx hy (au hs HW.out) (au ht HW.out) (by omega) f2 g2)
    obtain⟨P,hP⟩:=ex (decide (l[j]=k[j]))
    rw[hP] at HS
    have HP:=zh hP
    clear hc he hx hs f1 f2 hy ht g1 g2 hP
    go_wp2_with fail
    refine HS.out.mono ?_
    rintro _ u ⟨rfl,hb⟩
    have HU:Hid (Below w.heap.size w u):=bt HW.out hb
    clear hb HS c0 e0
    cases P
    ·have af:=zh (ac.out (of_decide_eq_false HP.out))
     clear ab ac HP
     go_wp2_with fail
     go_ret
     exact⟨by rw[af.out];rfl,HU.out⟩
    ·have ah:=zh (ab.out (of_decide_eq_true HP.out))
     clear ab ac HP
     go_wp2_with fail
     go_roundw
     case rel=>exact⟨j+1,by omega,by go_num,ah.out,HU.out⟩
     case measure=>simp[intOf];omega
   ·obtain rfl:j=n:=by omega
    have ai:Hid (X=true):=by
     show _=_
     have:=HT.out
     rw[List.take_of_length_le (by rw[HN.out];exact Nat.le_refl _),List.take_of_length_le (by rw[HM.out,HL.out];exact Nat.le_refl _)] at this
     rw[<-HX.out];exact decide_eq_true this
    clear HT
    go_wp2_with fail
    go_ret
    exact⟨by rw[ai.out];rfl,HW.out⟩
 ·have hd:((n:Int) != m)=true:=by simp;omega
  have af:Hid (X=false):=by show _=_;rw[<-HX.out];exact decide_eq_false fun h=>hlen (by rw[<-HN.out,<-HM.out,h])
  go_enter Tryz.func31,Tryz.ntmps31
  go_wp2_with fail
  go_ret
  exact⟨by rw[af.out];rfl,Below.refl _ _⟩
end
section
open Go.RowKit Rs At Pg
def GiveT (T:TypeId):Prop := (Tryz.prog.fieldsOf T).toList.map (fun f => (f.name == "_", f.type, f.offset))=[(false, 9, 0), (false, 9, 1)]/\Tryz.prog.underlying T=some (.struct (Tryz.prog.fieldsOf T))/\Tryz.prog.stoodInHeld T=false/\Tryz.prog.eqGuardType Tryz.prog.depth T=false
theorem giveT:GiveT 58:=⟨by kernel_rfl,by kernel_rfl,by kernel_rfl,by kernel_rfl⟩
theorem yD {T:TypeId}(h:GiveT T)(a b:Gv)(w:World) :
  (Op.equalIn 10000 T (.agg #[.string ⟨a.name.toArray⟩,.string ⟨a.ver.toArray⟩]) (.agg #[.string ⟨b.name.toArray⟩,.string ⟨b.ver.toArray⟩])).run Tryz.prog w=.ok (decide (a=b)) w:=by
 obtain⟨nm,v⟩:=a
 obtain⟨aa,v'⟩:=b
 obtain⟨h1,h2,h3,h4⟩:=h
 rw[run_equalIn_struct w 9999 T _ _ h2 h3]
 generalize (Tryz.prog.fieldsOf T).toList=fs at *
 have hl:fs.length=2:=by have:=congrArg List.length h1;simpa using this
 match fs,hl with
 | [f0,f1],_ =>
  simp at h1
  obtain⟨⟨n0,t0,o0⟩,⟨n1,t1,o1⟩⟩:=h1
  simp only[Op.eqFields,n0,n1,t0,t1,o0,o1,ne_eq,not_false_eq_true,if_true]
  simp[go_sem]
  by_cases e0:nm=aa <;> by_cases e1:v=v' <;> simp[e0,e1]
theorem uk {T:TypeId}(h:GiveT T)(a b:Gv)(w:World) :
  (binOp .neq T (.agg #[.string ⟨a.name.toArray⟩,.string ⟨a.ver.toArray⟩]) (.agg #[.string ⟨b.name.toArray⟩,.string ⟨b.ver.toArray⟩])).run Tryz.prog w=.ok (.bool (!decide (a=b))) w:=by
 rw[run_neq_struct,yD h];rfl
theorem um {T:TypeId}(h:GiveT T)(op:BinOp)(x y:Operand)(xs ys:Array Value)(w:World):(eqGuard op T x y (.agg xs) (.agg ys)).run Tryz.prog w=.ok () w:=run_eqGuard_agg w op T x y xs ys h.2.2.2
attribute [local go_sem ↓] Go.wp_at_zero Go.wp_at_succ
theorem v9 (A B:Option Addr)(n m c d:Nat)(l k:List Gv)(w:World)(hn:l.length=n)(hm:k.length=m)(hr:GRow w A l)(hq:GRow w B k)(hl:n<=1000000) :
  Calls Tryz.prog 35 #[.slice A n c,.slice B m d] w fun e w'=>e=.returned (.bool (decide (l=k)))/\Below w.heap.size w w':=by
 obtain⟨X,hX⟩:=ex (decide (l=k))
 rw[hX]
 have HX:=zh hX
 have HR:=zh hr
 have HQ:=zh hq
 have HN:=zh hn
 have HM:=zh hm
 clear hX hr hq hn hm
 by_cases hlen:n=m
 ·have hd:((n:Int) != m)=false:=by rw[hlen];simp
  have HL:=zh hlen
  clear hlen
  go_enter Tryz.func35,Tryz.ntmps35
  go_wp2_with fail
  clear hd
  go_loopw [13] (fun i wr=>∃ j:Nat,j<=n/\i=.int .i64 j/\Hid (l.take j=k.take j)/\∃ x,wr=w.drewN x) (fun i _=>n-(intOf i).toNat)
  case atStart=>exact⟨0,Nat.zero_le _,rfl,rfl,0,rfl⟩
  case round =>
   obtain⟨j,hj,rfl,HT,x,rfl⟩:=hrel
   by_cases ai:j<n
   ·have af:j<m:=by have:=HL.out;omega
    have h1:j<l.length:=by rw[HN.out];exact ai
    have h2:j<k.length:=by rw[HM.out];exact af
    obtain⟨ad,rfl,hc⟩:=b8 HR.out j h1
    obtain⟨ae,rfl,he⟩:=b8 HQ.out j h2
    have aa:Hid (l[j]=k[j]->l.take (j+1)=k.take (j+1)):=fun q=>by
     rw[List.take_succ_eq_append_getElem h1,List.take_succ_eq_append_getElem h2,HT.out,q]
    have ab:Hid (l[j]≠k[j]->X=false):=fun q=>by
     rw[<-HX.out];exact decide_eq_false fun h=>q (by subst h;rfl)
    obtain⟨c0,c1⟩:=hc _ (Below.refl _ _)
    obtain⟨e0,e1⟩:=he _ (Below.refl _ _)
    generalize l[j]=a at c0 c1 aa ab
    generalize k[j]=b at e0 e1 aa ab
    have ac:=uk giveT a b
    have ah:∀ (x y:Operand) (W:World),(eqGuard .neq 58 x y (.agg #[.string ⟨a.name.toArray⟩,.string ⟨a.ver.toArray⟩]) (.agg #[.string ⟨b.name.toArray⟩,.string ⟨b.ver.toArray⟩])).run Tryz.prog W=.ok () W:=fun x y W=>um giveT .neq x y _ _ W
    clear hc he h1 h2
    by_cases hq:a=b
    ·rw[decide_eq_true hq] at ac
     have aj:=zh (aa.out hq)
     clear aa ab hq HT
     go_wp2_with fail
     go_quiet (fail)
     clear ac ah c0 c1 e0 e1
     go_wp2_with fail
     go_roundw
     case rel=>exact⟨j+1,by omega,by go_num,aj.out,_,rfl⟩
     case measure=>simp[intOf];omega
    ·rw[decide_eq_false hq] at ac
     have ag:=zh (ab.out hq)
     clear aa ab hq HT
     go_wp2_with fail
     go_quiet (fail)
     clear ac ah c0 c1 e0 e1
     go_wp2_with fail
     go_ret
     exact⟨by rw[ag.out];rfl,below_drewN (below_drewN (Below.refl _ _) _) _⟩
   ·obtain rfl:j=n:=by omega
    have ak:Hid (X=true):=by
     show _=_
     have:=HT.out
     rw[List.take_of_length_le (by rw[HN.out];exact Nat.le_refl _),List.take_of_length_le (by rw[HM.out,HL.out];exact Nat.le_refl _)] at this
     rw[<-HX.out];exact decide_eq_true this
    clear HT
    go_wp2_with fail
    go_ret
    exact⟨by rw[ak.out];rfl,below_drewN (Below.refl _ _) _⟩
 ·have hd:((n:Int) != m)=true:=by simp;omega
  have ag:Hid (X=false):=by show _=_;rw[<-HX.out];exact decide_eq_false fun h=>hlen (by rw[<-HN.out,<-HM.out,h])
  go_enter Tryz.func35,Tryz.ntmps35
  go_wp2_with fail
  go_ret
  exact⟨by rw[ag.out];rfl,Below.refl _ _⟩
def Pg.samP (p q:Pk):Bool:=decide (p.name=q.name)&&(decide (p.ver=q.ver)&&(decide (p.deps=q.deps)&&(decide (p.confl=q.confl)&&(decide (p.prov=q.prov)&&(Vm.sgn (Wm.placeN p.wt) (Wm.placeN q.wt)==0)))))
theorem wa (p q:Pk)(D C G D' C' G':Option Addr)(dn dc cn cc gn gc dn' dc' cn' cc' gn' gc':Nat)(w:World)(hd:Pg.DRow w D p.deps)(hdn:p.deps.length=dn)(hc:ARow w C p.confl)(hcn:p.confl.length=cn)(hg:GRow w G p.prov)(hgn:p.prov.length=gn)(hf:PFew p)(hd':Pg.DRow w D' q.deps)(hdn':q.deps.length=dn')(hc':ARow w C' q.confl)(hcn':q.confl.length=cn')(hg':GRow w G' q.prov)(hgn':q.prov.length=gn')(hf':PFew q) :
  Calls Tryz.prog 9 #[.agg #[.string ⟨p.name.toArray⟩,.string ⟨p.ver.toArray⟩,.slice D dn dc,.slice C cn cc,.slice G gn gc,.float .f64 p.wt],.agg #[.string ⟨q.name.toArray⟩,.string ⟨q.ver.toArray⟩,.slice D' dn' dc',.slice C' cn' cc',.slice G' gn' gc',.float .f64 q.wt]] w fun e w'=>e=.returned (.bool (samP p q))/\Below w.heap.size w w':=by
 obtain⟨nm,v,deps,confl,prov,wt⟩:=p
 obtain⟨aj,v',ab,aa,ac,an⟩:=q
 obtain⟨R,hR⟩:=ex (samP ⟨nm,v,deps,confl,prov,wt⟩ ⟨aj,v',ab,aa,ac,an⟩)
 rw[hR]
 unfold samP at hR
 dsimp only at hd hdn hc hcn hg hgn hd' hdn' hc' hcn' hg' hgn' hR ⊢
 obtain⟨-,f2,f3,f4,f5,f6,-,f8⟩:=hf
 obtain⟨-,-,av,-,aw,-,-,ax⟩:=hf'
 dsimp only at f2 f3 f4 f5 f6 f8 av aw ax
 have ay:dn<=1000000:=by omega
 have aA:cn<=1000000:=by omega
 have aB:gn<=1000000:=by omega
 obtain⟨V,hV⟩:=ex (w.alloc (.cells #[.string ⟨nm.toArray⟩,.string ⟨v.toArray⟩,.slice D dn dc,.slice C cn cc,.slice G gn gc,.float .f64 wt] 34))
 obtain⟨U,hU⟩:=ex (V.alloc (.cells #[.string ⟨aj.toArray⟩,.string ⟨v'.toArray⟩,.slice D' dn' dc',.slice C' cn' cc',.slice G' gn' gc',.float .f64 an] 34))
 have HV:=zh hV
 have HU:=zh hU
 have ag:Hid (Below V.heap.size V U):=ai hU
 have HB:Hid (Below w.heap.size w U):=(ai hV).trans (ag.out.mono (ai hV).size)
 have HD:=zh (fun W (hb:Below w.heap.size w W)=>yC D D' dn dn' dc dc' deps ab W hdn hdn' (drowD_below hd hb) (drowD_below hd' hb) ay f3 av)
 have HC:=zh (fun W (hb:Below w.heap.size w W)=>v7 C C' cn cn' cc cc' confl aa W hcn hcn' (au hc hb) (au hc' hb) aA f5 aw)
 have HG:=zh (fun W (hb:Below w.heap.size w W)=>v9 G G' gn gn' gc gc' prov ac W hgn hgn' (Rg.ak hg hb) (Rg.ak hg' hb) aB)
 have HW:=zh (fun W=>aev wt an f8 ax W)
 obtain⟨x3,aC⟩:=ex (decide (deps=ab))
 obtain⟨x4,aD⟩:=ex (decide (confl=aa))
 obtain⟨x5,aE⟩:=ex (decide (prov=ac))
 obtain⟨x6,aF⟩:=ex (Vm.sgn (Wm.placeN wt) (Wm.placeN an)==0)
 rw[aC] at HD hR
 rw[aD] at HC hR
 rw[aE] at HG hR
 rw[aF] at HW hR
 have HR:=zh hR
 clear hd hdn hc hcn hg hgn hd' hdn' hc' hcn' hg' hgn' f2 f3 f4 f5 f6 f8 av aw ax ay aA aB aC aD aE aF hR
 by_cases e1:nm=aj
 case neg =>
  have d1:(nm==aj)=false:=beq_eq_false_iff_ne.2 e1
  have HF:Hid (R=false):=by show _=_;rw[<-HR.out,decide_eq_false e1];rfl
  obtain⟨c0,-,-,-,-,-⟩:=az hV ag.out
  obtain⟨e0,-,-,-,-,-⟩:=az hU (Below.refl _ _)
  clear e1 HD HC HG HW HR
  go_enter Tryz.func9,Tryz.ntmps9
  go_wp2_with fail
  go_ret
  exact⟨by rw[HF.out];rfl,HB.out⟩
 have d1:(nm==aj)=true:=beq_iff_eq.2 e1
 by_cases e2:v=v'
 case neg =>
  have d2:(v==v')=false:=beq_eq_false_iff_ne.2 e2
  have HF:Hid (R=false):=by show _=_;rw[<-HR.out,decide_eq_false e2,Bool.false_and,Bool.and_false]
  obtain⟨c0,c1,-,-,-,-⟩:=az hV ag.out
  obtain⟨k0,k1,-,-,-,-⟩:=az hU (Below.refl _ _)
  clear e1 e2 HD HC HG HW HR
  go_enter Tryz.func9,Tryz.ntmps9
  go_wp2_with fail
  go_ret
  exact⟨by rw[HF.out];rfl,HB.out⟩
 have d2:(v==v')=true:=beq_iff_eq.2 e2
 have al:Hid ((x3&&(x4&&(x5&&x6)))=R):=by show _=_;rw[<-HR.out,decide_eq_true e1,decide_eq_true e2,Bool.true_and,Bool.true_and]
 obtain⟨c0,c1,c2,-,-,-⟩:=az hV ag.out
 obtain⟨k0,k1,k2,-,-,-⟩:=az hU (Below.refl _ _)
 clear e1 e2 HR
 go_enter Tryz.func9,Tryz.ntmps9
 go_wp2_with fail
 clear hV hU c0 c1 c2 k0 k1 k2 d1 d2
 refine (HD.out _ HB.out).mono ?_
 rintro _ u ⟨rfl,hb⟩
 have ao:=zh hb
 have am:Hid (Below w.heap.size w u):=bt HB.out hb
 have ap:Hid (Below V.heap.size V u):=bt ag.out hb
 clear hb HD
 cases x3
 case false =>
  have HF:Hid (R=false):=al.out.symm
  go_wp2_with fail
  go_ret
  exact⟨by rw[HF.out];rfl,am.out⟩
 obtain⟨-,-,-,c3,-,-⟩:=az HV.out ap.out
 obtain⟨-,-,-,k3,-,-⟩:=az HU.out ao.out
 go_wp2_with fail
 clear c3 k3
 refine (HC.out _ am.out).mono ?_
 rintro _ u2 ⟨rfl,hb⟩
 have ae:Hid (Below U.heap.size U u2):=bt ao.out hb
 have ad:Hid (Below w.heap.size w u2):=bt am.out hb
 have af:Hid (Below V.heap.size V u2):=bt ap.out hb
 clear hb HC ao am ap
 cases x4
 case false =>
  have HF:Hid (R=false):=al.out.symm
  go_wp2_with fail
  go_ret
  exact⟨by rw[HF.out];rfl,ad.out⟩
 obtain⟨-,-,-,-,c4,-⟩:=az HV.out af.out
 obtain⟨-,-,-,-,k4,-⟩:=az HU.out ae.out
 go_wp2_with fail
 clear c4 k4
 refine (HG.out _ ad.out).mono ?_
 rintro _ u3 ⟨rfl,hb⟩
 have aq:Hid (Below U.heap.size U u3):=bt ae.out hb
 have ah:Hid (Below w.heap.size w u3):=bt ad.out hb
 have ar:Hid (Below V.heap.size V u3):=bt af.out hb
 clear hb HG ae ad af
 cases x5
 case false =>
  have HF:Hid (R=false):=al.out.symm
  go_wp2_with fail
  go_ret
  exact⟨by rw[HF.out];rfl,ah.out⟩
 obtain⟨-,-,-,-,-,c5⟩:=az HV.out ar.out
 obtain⟨-,-,-,-,-,k5⟩:=az HU.out aq.out
 have HF:Hid (x6=R):=al.out
 go_wp2_with fail
 clear c5 k5
 refine (HW.out _).mono ?_
 rintro _ u4 ⟨rfl,rfl⟩
 go_wp2_with fail
 go_ret
 exact⟨by rw[HF.out];rfl,ah.out⟩
end
section
open Go.RowKit Rs At Pg
namespace Pg
def to0 (p:Pk):List Sz.Fld:=[⟨kPkg,p.name,0⟩,⟨kVer,p.ver,0⟩]
def depsT (p:Pk):List UInt8:=Lib.join (p.deps.map depT) semi
def conflT (p:Pk):List UInt8:=Lib.join (p.confl.map textA) semi
def provT (p:Pk):List UInt8:=Lib.join (p.prov.map gvT) semi
def to1 (p:Pk):List Sz.Fld:=if p.deps=[] then to0 p else to0 p++[⟨kDep,depsT p,0⟩]
def to2 (p:Pk):List Sz.Fld:=if p.confl=[] then to1 p else to1 p++[⟨kCon,conflT p,0⟩]
def to3 (p:Pk):List Sz.Fld:=if p.prov=[] then to2 p else to2 p++[⟨kPro,provT p,0⟩]
def toPk (p:Pk):List Sz.Fld:=if Wm.textW p.wt=[48] then to3 p else to3 p++[⟨kWei,Wm.textW p.wt,0⟩]
def PTxt (p:Pk):Prop:=p.name.length<=1000/\p.ver.length<=1000/\p.deps.length<=1000/\DTxt p.deps/\(depsT p).length<=1000000/\p.confl.length<=1000/\ATxt p.confl/\(conflT p).length<=1000000/\p.prov.length<=1000/\GTxt p.prov/\(provT p).length<=1000000/\p.wt<Wm.W
theorem xl (p:Pk):(to0 p).length=2:=rfl
theorem pR (p:Pk):(to1 p).length<=3:=by unfold to1;split <;> simp[to0]
theorem pS (p:Pk):(to2 p).length<=4:=by unfold to2;have:=pR p;split <;> simp <;> omega
theorem pT (p:Pk):(to3 p).length<=5:=by unfold to3;have:=pS p;split <;> simp <;> omega
theorem ad1 (p:Pk):(toPk p).length<=6:=by unfold toPk;have:=pT p;split <;> simp <;> omega
def d60:List Atm:=[⟨[108,105,98],[⟨[50],[],true,false⟩]⟩,⟨[97,108,116],allS⟩]
def d61:List Atm:=[⟨[120],allS⟩]
def p6:Pk:=⟨[97,112,112],[49,46,48],[d60,d61],[],[⟨[116,111,111,108],[]⟩,⟨[111,108,100],[49]⟩],4609434218613702656⟩
def f6:List Sz.Fld:=[⟨kPkg,[97,112,112],0⟩,⟨kVer,[49,46,48,48],1⟩,⟨kDep,[108,105,98,32,40,62,61,32,50,41,32,111,114,32,97,108,116,59,32,120],2⟩,⟨kPro,[116,111,111,108,59,32,111,108,100,32,61,32,48,49],3⟩,⟨kWei,[51,112,45,49],4⟩]
theorem k6a:Sz.parseS [80,97,99,107,97,103,101,58,32,97,112,112,10,86,101,114,115,105,111,110,58,32,49,46,48,48,10,68,101,112,101,110,100,115,58,32,108,105,98,32,40,62,61,32,50,41,32,111,114,32,97,108,116,59,32,120,10,80,114,111,118,105,100,101,115,58,32,116,111,111,108,59,32,111,108,100,32,61,32,48,49,10,87,101,105,103,104,116,58,32,51,112,45,49,10]=(0,0,[f6]):=by decide +kernel
theorem k6b:fromP f6=(0,0,p6):=by decide +kernel
theorem k6c:fromP [⟨kPkg,[97,112,112],0⟩]=(10,0,zeroP):=by decide +kernel
theorem k6d:fromP [⟨kPkg,[97],0⟩,⟨kVer,[49],0⟩,⟨kWei,[110,97,110],0⟩]=(8,2,zeroP):=by decide +kernel
theorem k6e:depT d60=[108,105,98,32,40,62,61,32,50,41,32,111,114,32,97,108,116]:=by decide +kernel
theorem k6f:Sz.textS [toPk p6]=[80,97,99,107,97,103,101,58,32,97,112,112,10,86,101,114,115,105,111,110,58,32,49,46,48,10,68,101,112,101,110,100,115,58,32,108,105,98,32,40,62,61,32,50,41,32,111,114,32,97,108,116,59,32,120,10,80,114,111,118,105,100,101,115,58,32,116,111,111,108,59,32,111,108,100,32,61,32,49,10,87,101,105,103,104,116,58,32,51,112,45,49,10]:=by decide +kernel
theorem k6g:metP p6 ⟨[111,108,100],allS⟩=true/\metP p6 ⟨[116,111,111,108],allS⟩=true/\metP p6 ⟨[116,111,111,108],[]⟩=false/\metP p6 ⟨[108,105,98],[⟨[50],[],true,false⟩]⟩=false:=by decide +kernel
theorem k6h:checkP p6=0/\samP p6 p6=true:=by decide +kernel
end Pg
end
end Go.Proofs.YtpfkphmldalmmaaGreatDoor
