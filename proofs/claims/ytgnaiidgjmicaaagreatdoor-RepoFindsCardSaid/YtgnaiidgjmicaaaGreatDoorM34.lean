/- Part 34 of what the laws lean on. -/
import Derived.Test.YtgnaiidgjmicaaaGreatDoorM33
set_option maxRecDepth 100000
set_option maxHeartbeats 25600000
namespace Go.Proofs.YtgnaiidgjmicaaaGreatDoor
section
open Go.RowKit Rs At Pg Rp
attribute [local go_sem ↓] Go.wp_at_zero Go.wp_at_succ
attribute [local go_sem] Pg.av
def Rp.namF:List Pk->List (List UInt8)->List (List UInt8)
 | [],out=>out
 | p :: l,out=>namF l (if out.getLast? = some p.name then out else out++[p.name])
theorem Rp.af0 {l:List Pk}{k:Nat}{out X:List (List UInt8)}(hk:k<l.length)(h:namF (l.drop k) out=X):(out.getLast? = some l[k].name->namF (l.drop (k+1)) out=X)/\(out.getLast?≠some l[k].name->namF (l.drop (k+1)) (out++[l[k].name])=X):=by
 rw[List.drop_eq_getElem_cons hk,namF] at h
 exact⟨fun e=>by rw[if_pos e] at h;exact h,fun e=>by rw[if_neg e] at h;exact h⟩
theorem vy (A:Option Addr)(n c:Nat)(l:List Pk)(w:World)(hn:l.length=n)(hr:RRow w A l)(hl:n<=100000) :
  Calls Tryz.prog 18 #[.slice A n c] w (NamesRet w (namF l [])):=by
 obtain⟨X,hX⟩:=ex (namF l [])
 rw[hX]
 have HX:=zh hX
 have HR:=zh hr
 have HN:=zh hn
 clear hr hn hX
 go_enter Tryz.func18,Tryz.ntmps18
 go_wp2_with fail
 go_loopw [3,4] (fun v i wr=>∃ (k:Nat) (out:List (List UInt8)),k<=n/\i=.int .i64 k/\Hid (namF (l.drop k) out=X)/\Hid (out.length<=k)/\Hid (Rg.Own encT 1 wr w.heap.size 9 v out)/\Hid (Below w.heap.size w wr/\w.heap.size<=wr.heap.size)) (fun _ i _=>n-(intOf i).toNat)
 case atStart=>exact⟨0,[],Nat.zero_le _,rfl,HX.out,Nat.le_refl _,Rg.aB _ _ _,Below.refl _ _,Nat.le_refl _⟩
 case round =>
  obtain⟨k,out,hk,rfl,HA,ah,HO,HB⟩:=hrel
  by_cases aE:k<n
  ·have ar:k<l.length:=by rw[HN.out];exact aE
   obtain⟨ad,D,dc,C,cc,G,gc,rfl,-,-,-,hc⟩:=aY HR.out k ar
   have ao:Hid (∀ u,Below w.heap.size w u->u.cell? (ad.add (k*6))=some (.string ⟨l[k].name.toArray⟩)):=fun u h=>(hc u h).1
   obtain⟨hy,aw⟩:=af0 ar HA.out
   obtain⟨nm,aC⟩:=ex (l[k].name)
   rw[aC] at hy aw ao
   have ai:=zh hy
   have ag:=zh aw
   obtain⟨V,vc,rfl,ax,-,-⟩:=Rg.aF fitsT HO.out
   obtain⟨vn,aq⟩:=ex out.length
   rw[aq] at HO ⊢
   have k0:(0:Int)<=(k:Int):=by omega
   have k1:(k:Int)<(n:Int):=by omega
   have c0:=ao.out wr HB.out.1
   clear hc hy aw ar aC
   rcases List.eq_nil_or_concat out with hon | ⟨o',x,hox⟩
   ·have aG:vn=0:=by rw[<-aq,hon];rfl
    subst aG
    have aj:=zh (ag.out (by rw[hon];exact fun e=>by cases e))
    clear ax hon ai ag
    go_wp2_with fail
    first | (go_quiet (fail)) | fail
    have aa:Hid (Below w.heap.size w (wr.drewN nq)/\w.heap.size<=(wr.drewN nq).heap.size):=⟨below_drewN HB.out.1 nq,HB.out.2⟩
    have ab:=zh (Rg.own_below HO.out (below_drewN (Below.refl _ _) nq))
    generalize wr.drewN nq=w2 at *
    clear HB HO c0
    have ak:Hid (out.length+1<=1000000):=by show _<=_;have:=ah.out;omega
    have ac:Hid ((out++[nm]).length<=k+1):=by show _<=_;rw[List.length_append];exact Nat.succ_le_succ ah.out
    have c0:=ao.out w2 aa.out.1
    go_wp2_with (at_builtin;refine Rg.aN sliceTx rfl (.tmp 28) (.tmp 34) rfl w.heap.size _ out [nm] rfl (Rg.own_below ab.out ((Below.refl _ _).alloc (Nat.le_refl _) _)) _ _ rfl (Rg.az w2 _ _ _ (by rfl)) (Nat.zero_lt_succ _) ak.out ?b1 ?_)
    case b1=>have:=aa.out.2;simp;omega
    intro v5 W5 am an ay
    have au:=cF aa ab an
    have av:=zh am
    clear am an ay ab aa ak c0
    go_wp2_with fail
    go_roundw
    case rel=>exact⟨k+1,out++[nm],by omega,by go_num,aj.out,ac.out,av.out,au.out⟩
    case measure=>simp[intOf];omega
   ·obtain⟨m,hm⟩:=ex o'.length
    have aH:vn=m+1:=by rw[<-aq,hox,List.concat_eq_append,List.length_append,hm];rfl
    have ap:m<out.length:=by omega
    have af:out[m]'ap=x:=by
     have e:out[m]?=some x:=by rw[hox,List.concat_eq_append,List.getElem?_append_right (by omega),hm,Nat.sub_self];rfl
     rw[List.getElem?_eq_getElem ap] at e
     exact Option.some.inj e
    have aA:out.getLast? = some x:=by rw[hox,List.concat_eq_append,List.getLast?_append];rfl
    obtain⟨ae,y,rfl,hy,-,aD⟩:=jq ax m ap
    rw[af] at hy
    subst hy
    have d0:((vn:Int)==0)=false:=beq_eq_false_iff_ne.2 (by omega)
    have d1:(vn:Int)-1=(m:Int):=by omega
    have d2:IntKind.i64.wrap (m:Int)=(m:Int):=IntWalk.i64_in _ (by have:=ah.out;omega)
    have d3:(0:Int)<=(m:Int):=by omega
    have d4:(m:Int)<(vn:Int):=by omega
    rw[aA] at ai ag
    clear ax hox aq aH hm af aA ap
    cases al:x==nm
    ·have aI:(x != nm)=true:=by show (!(x==nm))=true;rw[al];rfl
     have aj:=zh (ag.out fun e=>by rw[Option.some.inj e] at al;simp at al)
     clear ai ag
     go_wp2_with fail
     first | (go_quiet (fail)) | fail
     have aa:Hid (Below w.heap.size w (wr.drewN nq)/\w.heap.size<=(wr.drewN nq).heap.size):=⟨below_drewN HB.out.1 nq,HB.out.2⟩
     have ab:=zh (Rg.own_below HO.out (below_drewN (Below.refl _ _) nq))
     generalize wr.drewN nq=w2 at *
     clear HB HO c0 aD
     have ak:Hid (out.length+1<=1000000):=by show _<=_;have:=ah.out;omega
     have ac:Hid ((out++[nm]).length<=k+1):=by show _<=_;rw[List.length_append];exact Nat.succ_le_succ ah.out
     have c0:=ao.out w2 aa.out.1
     go_wp2_with (at_builtin;refine Rg.aN sliceTx rfl (.tmp 28) (.tmp 34) rfl w.heap.size _ out [nm] rfl (Rg.own_below ab.out ((Below.refl _ _).alloc (Nat.le_refl _) _)) _ _ rfl (Rg.az w2 _ _ _ (by rfl)) (Nat.zero_lt_succ _) ak.out ?b1 ?_)
     case b1=>have:=aa.out.2;simp;omega
     intro v5 W5 am an ay
     have au:=cF aa ab an
     have av:=zh am
     clear am an ay ab aa ak c0
     go_wp2_with fail
     go_roundw
     case rel=>exact⟨k+1,out++[nm],by omega,by go_num,aj.out,ac.out,av.out,au.out⟩
     case measure=>simp[intOf];omega
    ·have aI:(x != nm)=false:=by show (!(x==nm))=false;rw[al];rfl
     have aj:=zh (ai.out (by rw[beq_iff_eq.1 al]))
     clear ai ag
     go_wp2_with fail
     first | (go_quiet (fail)) | fail
     have aa:Hid (Below w.heap.size w (wr.drewN nq)/\w.heap.size<=(wr.drewN nq).heap.size):=⟨below_drewN HB.out.1 nq,HB.out.2⟩
     have ab:=zh (Rg.own_below HO.out (below_drewN (Below.refl _ _) nq))
     generalize wr.drewN nq=w2 at *
     clear HB HO c0 aD
     have ac:Hid (out.length<=k+1):=Nat.le_succ_of_le ah.out
     go_wp2_with fail
     go_roundw
     case rel=>exact⟨k+1,out,by omega,by go_num,aj.out,ac.out,ab.out,aa.out⟩
     case measure=>simp[intOf];omega
  ·obtain rfl:k=n:=by omega
   have aJ:Hid (out=X):=by
    show _=_
    have:=HA.out
    rw[List.drop_eq_nil_of_le (by rw[HN.out];exact Nat.le_refl _)] at this
    exact this
   have ab:=zh (aJ.out ▸ HO.out)
   obtain⟨V,vc,rfl,hr,_,_⟩:=Rg.aF fitsT ab.out
   have aK:=zh hr
   clear hr
   go_wp2_with fail
   go_ret
   exact⟨V,vc,rfl,aK.out,HB.out.1⟩
end
section
open Go.RowKit Rs At Pg Rp
attribute [local go_sem ↓] Go.wp_at_zero Go.wp_at_succ
attribute [local go_sem] Pg.av
namespace Rp
theorem p8 (f:Pk->Bool):∀ (l:List Pk) (k:Nat),(numF f k l).length<=l.length
 | [],_=>Nat.le_refl _
 | p :: l,k=>by
  have:=p8 f l (k+1)
  rw[numF]
  split
  ·rw[List.length_cons,List.length_cons];omega
  ·rw[List.length_cons];omega
theorem yy:∀ (l:List Pk) (out:List (List UInt8)),namF l out=out++dd out.getLast? (l.map Pk.name)
 | [],out=>by rw[namF];exact (List.append_nil _).symm
 | p :: l,out=>by
  rw[namF,List.map_cons,dd,yy l]
  by_cases h:out.getLast? = some p.name
  ·rw[if_pos h,if_pos h]
  ·rw[if_neg h,if_neg h,List.getLast?_append,List.append_assoc];rfl
theorem zU (l:List Pk):namF l []=namesR l:=by
 rw[yy]
 show []++dd none _=Lib.compact _
 rw[oU];rfl
end Rp
theorem nj (A:Option Addr)(n c:Nat)(l:List Pk)(rn v anm:List UInt8)(B:Option Addr)(m d:Nat)(r:List Sp)(w:World)(hk:KOk w)(hn:l.length=n)(hr:RRow w A l)(hf:∀ p∈l,PWide p)(hq:anm.length<=maxLen)(hm:r.length=m)(hs:SRow w B r)(hml:m<=maxLen)(hwd:Wide r) :
  Calls Tryz.prog 3 #[.slice A n c,.string ⟨rn.toArray⟩,.string ⟨v.toArray⟩,.agg #[.string ⟨anm.toArray⟩,.slice B m d]] w fun e w'=>e=.returned (.bool true)/\Below w.heap.size w w':=by
 obtain⟨W1,a3⟩:=ex (w.alloc (.cells #[.string ⟨anm.toArray⟩,.slice B m d] 25))
 have ay:Hid (Below w.heap.size w W1):=ai a3
 obtain⟨b,hb⟩:=ex w.heap.size
 have aG:Hid (∀ u,Below W1.heap.size W1 u->u.cell? ⟨b,0,none⟩=some (.string ⟨anm.toArray⟩)/\u.cell? ⟨b,1,none⟩=some (.slice B m d)):=fun u h=>by
  rw[<-hb];exact aD a3 h
 have ap:Hid (∀ u,Below W1.heap.size W1 u->KOk u):=fun u h=>aH (aH hk ay.out) h
 have ak:Hid (∀ u,Below W1.heap.size W1 u->RRow u A l/\SRow u B r):=fun u h=>⟨bb hr (bt ay.out h),ao hs (bt ay.out h)⟩
 have au:Hid (∀ u,Below W1.heap.size W1 u->Below w.heap.size w u):=fun u h=>bt ay.out h
 have HN:=zh hn
 have HF:=zh hf
 have a9:=zh hq
 have HM:=zh hm
 have bv:=zh hml
 have bw:=zh hwd
 have ba:=zh (oV W1 (ap.out _ (Below.refl _ _)))
 clear hk hn hr hf hq hm hs hml hwd ay
 go_enter Tryz.func3,Tryz.ntmps3
 go_wp2_with fail
 clear a3 hb
 refine ba.out.mono ?_
 rintro _ z ⟨rfl,hb⟩
 have HZ:=zh hb
 clear hb ba
 go_wp2_with fail
 refine (fR A n c l z (ap.out _ HZ.out).1 HN.out (ak.out _ HZ.out).1 (fun p hp=>vu (HF.out p hp))).mono ?_
 rintro _ u1 ⟨rfl,hb⟩
 have aI:Hid (Below W1.heap.size W1 u1):=bt HZ.out hb
 clear hb
 dsimp only
 have aq:Hid ((chkR l).2=0->l.length<=64/\(∀ p∈l,checkP p=0)/\Ord l):=vj
 obtain⟨ei,bs⟩:=ex ((chkR l).1)
 obtain⟨e,he⟩:=ex ((chkR l).2)
 rw[bs,he]
 rw[he] at aq
 clear bs he
 go_wp2_with fail
 refine (mC A n c l u1 (ap.out _ aI.out).1 HN.out (ak.out _ aI.out).1 HF.out).mono ?_
 rintro _ u2 ⟨rfl,hb⟩
 have ar:Hid (Below W1.heap.size W1 u2):=bt aI.out hb
 clear hb
 obtain⟨f,a4⟩:=ex (fewR l)
 rw[a4]
 have bc:=zh a4
 clear a4
 cases f
 ·go_wp2_with fail
  go_ret
  exact⟨rfl,au.out _ ar.out⟩
 by_cases e0:e=0
 case neg =>
  have bd:(e != 0)=true:=bne_iff_ne.2 e0
  go_wp2_with fail
  go_ret
  exact⟨rfl,au.out _ ar.out⟩
 subst e0
 have aJ:=zh (vi bc.out fun p hp=>(HF.out p hp).2.2.2.2.2.2.2.2).2
 have am:Hid (n<=64):=by show n<=64;rw[<-HN.out];exact (aq.out rfl).1
 have aK:=zh (aq.out rfl).2.1
 clear aq bc
 obtain⟨k0,k1⟩:=aG.out _ ar.out
 go_wp2_with fail
 refine (gF v u2).mono ?_
 rintro _ u3 ⟨rfl,rfl⟩
 obtain⟨kv,a5⟩:=ex (Vm.check v)
 rw[a5]
 have aP:=zh a5
 clear a5
 by_cases v0:kv=0
 case neg =>
  have bd:(kv != 0)=true:=bne_iff_ne.2 v0
  go_wp2_with fail
  go_ret
  exact⟨rfl,au.out _ ar.out⟩
 subst v0
 have bx:Hid (∀ u,Below W1.heap.size W1 u->St u u [⟨B,m,r⟩]):=fun u h=>⟨(ap.out u h).1,Below.refl _ _,fun x hx=>by rw[List.mem_singleton.1 hx];exact⟨(ak.out u h).2,HM.out⟩⟩
 obtain⟨fa,bu⟩:=ex (fewA ⟨anm,r⟩)
 have aQ:=zh bu
 clear bu
 go_wp2_with fail
 refine (tR (bx.out _ ar.out) anm B m d r 0 rfl a9.out bv.out bw.out).mono ?_
 rintro _ u4 ⟨rfl,hb⟩
 rw[aQ.out]
 have aw:Hid (Below W1.heap.size W1 u4):=ar.out.trans (hb.2.1.mono ar.out.size)
 clear hb k0 k1
 obtain⟨k0,k1⟩:=aG.out _ aw.out
 cases fa
 ·go_wp2_with fail
  go_ret
  exact⟨rfl,au.out _ aw.out⟩
 have aR:Hid (m<=80):=by show m<=80;rw[<-HM.out];exact (adW aQ.out).2
 go_wp2_with fail
 refine (ni anm B m d r u4 (ap.out _ aw.out).1 a9.out HM.out (ak.out _ aw.out).2 (Nat.le_trans aR.out (by decide))).mono ?_
 rintro _ u5 ⟨rfl,hb⟩
 have aL:Hid (Below W1.heap.size W1 u5):=bt aw.out hb
 clear hb k0 k1
 obtain⟨ka,a6⟩:=ex (checkA ⟨anm,r⟩)
 rw[a6]
 have be:=zh a6
 clear a6
 by_cases a0:ka=0
 case neg =>
  have bd:(ka != 0)=true:=bne_iff_ne.2 a0
  go_wp2_with fail
  go_ret
  exact⟨rfl,au.out _ aL.out⟩
 subst a0
 have aS:Hid (checkR r=0):=(fh be.out).2.1
 have av:Hid (m<=64):=by show m<=_;rw[<-HM.out];exact oc aS.out
 clear be aQ
 go_wp2_with fail
 refine (oT A n c l u5 HN.out (ak.out _ aL.out).1 (Nat.le_trans am.out (by decide)) (fun p hp=>(aJ.out p hp).2)).mono ?_
 rintro _ u6 ⟨A',c',rfl,hx,hb⟩
 have aT:Hid (∀ u,Below u6.heap.size u6 u->RRow u A' l):=fun u h=>bb hx h
 have aU:Hid (Below W1.heap.size W1 u6):=bt aL.out hb
 clear hx hb
 have aM:Hid (∀ p∈l,Vm.check p.ver=0):=fun p hp=>eL (aK.out p hp)
 have bf:Hid (findR rn v l=foundR (idxF (isP rn v) 0 l)):=by
  show findR rn v l=_
  unfold findR foundR
  rw[if_neg (fun e=>e aP.out)]
 go_wp2_with fail
 refine (ll A' n c' l rn v u6 (ap.out _ aU.out).1 HN.out (aT.out _ (Below.refl _ _)) (Nat.le_trans am.out (by decide)) aM.out).mono ?_
 rintro _ u7 ⟨rfl,hb⟩
 have bg:Hid (∀ u,Below u7.heap.size u7 u->RRow u A' l):=fun u h=>aT.out u (bt hb h)
 have aV:Hid (Below W1.heap.size W1 u7):=bt aU.out hb
 clear hb aT
 rw[bf.out]
 obtain⟨fi,a7⟩:=ex ((foundR (idxF (isP rn v) 0 l)).1)
 obtain⟨fb,a8⟩:=ex ((foundR (idxF (isP rn v) 0 l)).2)
 have bh:=zh a7
 have bi:=zh a8
 rw[a7,a8]
 clear a7 a8 bf
 dsimp only
 go_wp2_with fail
 refine (xb A n c l rn v u7 HN.out (ak.out _ aV.out).1 (Nat.le_trans am.out (by decide)) aP.out aM.out).mono ?_
 rintro _ y0 ⟨rfl,hb⟩
 have HX:Hid (∀ u,Below y0.heap.size y0 u->RRow u A' l):=fun u h=>bg.out u (bt hb h)
 have bj:Hid (Below W1.heap.size W1 y0):=bt aV.out hb
 have an:Hid (∀ u,Below y0.heap.size y0 u->Below W1.heap.size W1 u):=fun u h=>bt bj.out h
 clear hb bg
 rw[bh.out,bi.out]
 dsimp only
 obtain⟨L,hL⟩:=ex (namesR l)
 have bk:namF l []=L:=by rw[<-hL];exact zU l
 obtain⟨K,hK⟩:=ex L.length
 obtain⟨X,hX⟩:=ex (numF (fun p=>decide (p.name=rn)) 0 l)
 obtain⟨q,hq⟩:=ex X.length
 obtain⟨Y,hY⟩:=ex (numF (fun p=>metP p ⟨anm,r⟩) 0 l)
 obtain⟨s,hs⟩:=ex Y.length
 have aW:Hid (∀ p∈l,Vm.check p.ver=0/\(∀ g∈p.prov,g.ver=[]\/Vm.check g.ver=0)/\p.prov.length<=1000000):=fun p hp=>⟨aM.out p hp,(iT (aK.out p hp)).2,(aJ.out p hp).1.2.2.2.2.2.1⟩
 have bz:K<=n:=by rw[<-hK,<-hL,<-HN.out];have:=j5 (l.map Pk.name);rwa [List.length_map] at this
 have bA:q<=n:=by rw[<-hq,<-hX,<-HN.out];exact p8 _ l 0
 have bB:s<=n:=by rw[<-hs,<-hY,<-HN.out];exact p8 _ l 0
 have aX:=am.out
 have F1:Hid (∀ u,Below y0.heap.size y0 u->Calls Tryz.prog 17 #[.slice A' n c'] u fun e w'=>∃ B1 b1,e=.returned (.slice B1 K b1)/\Rg.Row encT 1 w' B1 L/\Below u.heap.size u w'):=fun u h=>by
  have h1:=fN A' n c' l u HN.out (HX.out u h) (Nat.le_trans am.out (by decide)) (fun p hp=>Nat.le_trans (fF (aK.out p hp) (aJ.out p hp).1.2.2.2.2.2.2.2).1 (by decide))
  rw[hL] at h1
  exact h1.mono fun e w' ⟨B1,b1,e1,hr,hb⟩=>⟨B1,b1,by rw[e1,hK],hr,hb⟩
 have F2:Hid (∀ u,Below y0.heap.size y0 u->Calls Tryz.prog 18 #[.slice A n c] u fun e w'=>∃ B2 b2,e=.returned (.slice B2 K b2)/\Rg.Row encT 1 w' B2 L/\Below u.heap.size u w'):=fun u h=>by
  have h1:=vy A n c l u HN.out (ak.out _ (an.out u h)).1 (Nat.le_trans am.out (by decide))
  rw[bk] at h1
  exact h1.mono fun e w' ⟨B1,b1,e1,hr,hb⟩=>⟨B1,b1,by rw[e1,hK],hr,hb⟩
 have F3:Hid (∀ u B1 b1 B2 b2,Rg.Row encT 1 u B1 L->Rg.Row encT 1 u B2 L->Calls Tryz.prog 16 #[.slice B1 K b1,.slice B2 K b2] u fun e w'=>e=.returned (.bool true)/\Below u.heap.size u w'):=fun u B1 b1 B2 b2 h1 h2 =>
  (lz B1 B2 K K b1 b2 L L u hK hK h1 h2 (by omega)).mono fun e w' ⟨h1,h2⟩=>⟨by rw[h1,decide_eq_true rfl],h2⟩
 have F4:Hid (∀ u,Below y0.heap.size y0 u->Calls Tryz.prog 20 #[.slice A' n c',.string ⟨rn.toArray⟩] u fun e w'=>∃ C1 c1,e=.returned (.slice C1 q c1)/\IRow w' C1 X/\Below u.heap.size u w'):=fun u h=>by
  have h1:=dX A' n c' l rn u HN.out (HX.out u h) (Nat.le_trans am.out (by decide))
  rw[hX] at h1
  exact h1.mono fun e w' h=>by have:=ew h;rwa [hq] at this
 have F5:Hid (∀ u,Below y0.heap.size y0 u->Calls Tryz.prog 21 #[.slice A n c,.string ⟨rn.toArray⟩] u fun e w'=>∃ C1 c1,e=.returned (.slice C1 q c1)/\IRow w' C1 X/\Below u.heap.size u w'):=fun u h=>by
  have h1:=vw A n c l rn u HN.out (ak.out _ (an.out u h)).1 (Nat.le_trans am.out (by decide))
  rw[hX] at h1
  exact h1.mono fun e w' h=>by have:=ew h;rwa [hq] at this
 have F6:Hid (∀ u C1 c1 C2 c2,IRow u C1 X->IRow u C2 X->Calls Tryz.prog 19 #[.slice C1 q c1,.slice C2 q c2] u fun e w'=>e=.returned (.bool true)/\Below u.heap.size u w'):=fun u C1 c1 C2 c2 h1 h2 =>
  (iU C1 C2 q q c1 c2 X X u hq hq h1 h2 (by omega)).mono fun e w' ⟨h1,h2⟩=>⟨by rw[h1,decide_eq_true rfl],h2⟩
 have F7:Hid (∀ u,Below y0.heap.size y0 u->Calls Tryz.prog 23 #[.agg #[.string ⟨anm.toArray⟩,.slice B m d]] u fun e w'=>∃ E ed,e=.returned (.agg #[.string ⟨anm.toArray⟩,.slice E m ed])/\SRow w' E r/\Below u.heap.size u w'):=fun u h =>
  xJ anm B m d r u HM.out (ak.out _ (an.out u h)).2 (Nat.le_trans av.out (by decide))
 have F8:Hid (∀ u E ed,Below y0.heap.size y0 u->SRow u E r->Calls Tryz.prog 22 #[.slice A' n c',.agg #[.string ⟨anm.toArray⟩,.slice E m ed]] u fun e w'=>∃ E1 e1,e=.returned (.slice E1 s e1)/\IRow w' E1 Y/\Below u.heap.size u w'):=fun u E ed h hE=>by
  have h1:=iJ A' n c' l anm E m ed r u (ap.out _ (an.out u h)).1 HN.out (HX.out u h) (Nat.le_trans am.out (by decide)) aW.out HM.out hE av.out aS.out
  rw[hY] at h1
  exact h1.mono fun e w' h=>by have:=ew h;rwa [hs] at this
 have F9:Hid (∀ u,Below y0.heap.size y0 u->Calls Tryz.prog 24 #[.slice A n c,.agg #[.string ⟨anm.toArray⟩,.slice B m d]] u fun e w'=>∃ E1 e1,e=.returned (.slice E1 s e1)/\IRow w' E1 Y/\Below u.heap.size u w'):=fun u h=>by
  have h1:=pZ A n c l anm B m d r u (ap.out _ (an.out u h)).1 HN.out (ak.out _ (an.out u h)).1 (Nat.le_trans am.out (by decide)) aW.out HM.out (ak.out _ (an.out u h)).2 av.out aS.out
  rw[hY] at h1
  exact h1.mono fun e w' h=>by have:=ew h;rwa [hs] at this
 have bC:Hid (∀ u C1 c1 C2 c2,IRow u C1 Y->IRow u C2 Y->Calls Tryz.prog 19 #[.slice C1 s c1,.slice C2 s c2] u fun e w'=>e=.returned (.bool true)/\Below u.heap.size u w'):=fun u C1 c1 C2 c2 h1 h2 =>
  (iU C1 C2 s s c1 c2 Y Y u hs hs h1 h2 (by omega)).mono fun e w' ⟨h1,h2⟩=>⟨by rw[h1,decide_eq_true rfl],h2⟩
 have al:Hid (∀ u,Below y0.heap.size y0 u->u.cell? ⟨b,0,none⟩=some (.string ⟨anm.toArray⟩)/\u.cell? ⟨b,1,none⟩=some (.slice B m d)):=fun u h=>aG.out u (an.out u h)
 have bD:Hid (∀ u,Below y0.heap.size y0 u->Below w.heap.size w u):=fun u h=>au.out u (an.out u h)
 have ad:Hid (Below y0.heap.size y0 y0):=Below.refl _ _
 have aY:Hid (Below y0.heap.size y0 y0.drew):=ad.out.drew
 have t1:(fi==fi)=true:=by simp
 have t2:(fb==fb)=true:=by cases fb <;> rfl
 clear hL bk hK hX hq hY hs bz bA bB aX aW HX aM aK aJ bh bi aP aG ak au an bj aI ar aw aL aU aV HZ ap
 go_wp2_with fail
 go_region_held3 (fun u=>u.cell? ⟨b,0,none⟩=some (.string ⟨anm.toArray⟩)/\u.cell? ⟨b,1,none⟩=some (.slice B m d))
  (first
   | with_reducible exact al.out _ aY.out
   | with_reducible exact al.out _ ad.out
   | with_reducible exact al.out _ ah.out
   | with_reducible exact al.out _ aF.out
   | with_reducible exact al.out _ af.out
   | with_reducible exact al.out _ ag.out
   | with_reducible exact al.out _ aE.out
   | with_reducible exact al.out _ ae.out
   | with_reducible exact al.out _ ab.out
   | with_reducible exact al.out _ aa.out
   | with_reducible exact al.out _ ax.out
   | with_reducible exact al.out _ bl.out)
  (first
   | (have hz:=aN;clear hz;go_simp;go_at_call 19;refine (bC.out _ _ _ _ _ (aN.out _ (by first | exact Below.refl _ _ | exact (Below.refl _ _).drew | exact (Below.refl _ _).drew.drew)) (aZ.out _ (by first | exact Below.refl _ _ | exact (Below.refl _ _).drew | exact (Below.refl _ _).drew.drew))).mono ?_;rintro _ yj ⟨rfl,hb⟩;have bl:Hid (Below y0.heap.size y0 yj):=(by first | exact bt ax.out hb | exact ax.out.drew.trans (hb.mono ax.out.drew.size));skip;clear hb)
   | (have hz:=az;clear hz;go_simp;go_at_call 22;refine (F8.out _ _ _ (by first | exact aa.out | exact aa.out.drew | exact aa.out.drew.drew) (bE.out _ (by first | exact Below.refl _ _ | exact (Below.refl _ _).drew | exact (Below.refl _ _).drew.drew))).mono ?_;rintro _ yi ⟨E1,e1,rfl,hr,hb⟩;have ax:Hid (Below y0.heap.size y0 yi):=(by first | exact bt aa.out hb | exact aa.out.drew.trans (hb.mono aa.out.drew.size));have ac:Below yh.heap.size yh yi:=(by first | exact hb | exact ((Below.refl _ _).drew).trans hb);have aN:Hid (∀ u,Below yi.heap.size yi u->IRow u E1 Y):=fun u h=>Rg.aj hr h;have aZ:Hid (∀ u,Below yi.heap.size yi u->IRow u E2 Y):=fun u h=>az.out u (bt ac h);clear hb)
   | (have hz:=aA;clear hz;go_simp;go_at_call 22;refine (F8.out _ _ _ (by first | exact aa.out | exact aa.out.drew | exact aa.out.drew.drew) (bF.out _ (by first | exact Below.refl _ _ | exact (Below.refl _ _).drew | exact (Below.refl _ _).drew.drew))).mono ?_;rintro _ yi ⟨E1,e1,rfl,hr,hb⟩;have ax:Hid (Below y0.heap.size y0 yi):=(by first | exact bt aa.out hb | exact aa.out.drew.trans (hb.mono aa.out.drew.size));have ac:Below yh.heap.size yh yi:=(by first | exact hb | exact ((Below.refl _ _).drew).trans hb);have aN:Hid (∀ u,Below yi.heap.size yi u->IRow u E1 Y):=fun u h=>Rg.aj hr h;have aZ:Hid (∀ u,Below yi.heap.size yi u->IRow u E2 Y):=fun u h=>aA.out u (bt ac h);clear hb)
   | (have hz:=aB;clear hz;go_simp;go_at_call 24;refine (F9.out _ (by first | exact aa.out | exact aa.out.drew | exact aa.out.drew.drew)).mono ?_;rintro _ yi ⟨E2,e2,rfl,hr,hb⟩;have ax:Hid (Below y0.heap.size y0 yi):=(by first | exact bt aa.out hb | exact aa.out.drew.trans (hb.mono aa.out.drew.size));have ac:Below yh.heap.size yh yi:=(by first | exact hb | exact ((Below.refl _ _).drew).trans hb);have aZ:Hid (∀ u,Below yi.heap.size yi u->IRow u E2 Y):=fun u h=>Rg.aj hr h;have aN:Hid (∀ u,Below yi.heap.size yi u->IRow u E1 Y):=fun u h=>aB.out u (bt ac h);clear hb)
   | (have hz:=aC;clear hz;go_simp;go_at_call 23;refine (F7.out _ (by first | exact ab.out | exact ab.out.drew | exact ab.out.drew.drew)).mono ?_;rintro _ yh ⟨E,ed,rfl,hr,hb⟩;have aa:Hid (Below y0.heap.size y0 yh):=(by first | exact bt ab.out hb | exact ab.out.drew.trans (hb.mono ab.out.drew.size));have ac:Below yg.heap.size yg yh:=(by first | exact hb | exact ((Below.refl _ _).drew).trans hb);have bE:Hid (∀ u,Below yh.heap.size yh u->SRow u E r):=fun u h=>ao hr h;have az:Hid (∀ u,Below yh.heap.size yh u->IRow u E2 Y):=fun u h=>aC.out u (bt ac h);clear hb)
   | (have hz:=aO;clear hz;go_simp;go_at_call 24;refine (F9.out _ (by first | exact ab.out | exact ab.out.drew | exact ab.out.drew.drew)).mono ?_;rintro _ yh ⟨E2,e2,rfl,hr,hb⟩;have aa:Hid (Below y0.heap.size y0 yh):=(by first | exact bt ab.out hb | exact ab.out.drew.trans (hb.mono ab.out.drew.size));have ac:Below yg.heap.size yg yh:=(by first | exact hb | exact ((Below.refl _ _).drew).trans hb);have aA:Hid (∀ u,Below yh.heap.size yh u->IRow u E2 Y):=fun u h=>Rg.aj hr h;have bF:Hid (∀ u,Below yh.heap.size yh u->SRow u E r):=fun u h=>aO.out u (bt ac h);clear hb)
   | (have hz:=aO;clear hz;go_simp;go_at_call 22;refine (F8.out _ _ _ (by first | exact ab.out | exact ab.out.drew | exact ab.out.drew.drew) (aO.out _ (by first | exact Below.refl _ _ | exact (Below.refl _ _).drew | exact (Below.refl _ _).drew.drew))).mono ?_;rintro _ yh ⟨E1,e1,rfl,hr,hb⟩;have aa:Hid (Below y0.heap.size y0 yh):=(by first | exact bt ab.out hb | exact ab.out.drew.trans (hb.mono ab.out.drew.size));have aB:Hid (∀ u,Below yh.heap.size yh u->IRow u E1 Y):=fun u h=>Rg.aj hr h;clear hb)
   | (have hz:=ae;clear hz;go_simp;go_at_call 24;refine (F9.out _ (by first | exact ae.out | exact ae.out.drew | exact ae.out.drew.drew)).mono ?_;rintro _ yg ⟨E2,e2,rfl,hr,hb⟩;have ab:Hid (Below y0.heap.size y0 yg):=(by first | exact bt ae.out hb | exact ae.out.drew.trans (hb.mono ae.out.drew.size));have aC:Hid (∀ u,Below yg.heap.size yg u->IRow u E2 Y):=fun u h=>Rg.aj hr h;clear hb)
   | (have hz:=ae;clear hz;go_simp;go_at_call 23;refine (F7.out _ (by first | exact ae.out | exact ae.out.drew | exact ae.out.drew.drew)).mono ?_;rintro _ yg ⟨E,ed,rfl,hr,hb⟩;have ab:Hid (Below y0.heap.size y0 yg):=(by first | exact bt ae.out hb | exact ae.out.drew.trans (hb.mono ae.out.drew.size));have aO:Hid (∀ u,Below yg.heap.size yg u->SRow u E r):=fun u h=>ao hr h;clear hb)
   | (have hz:=a1;clear hz;go_simp;go_at_call 19;refine (F6.out _ _ _ _ _ (a1.out _ (by first | exact Below.refl _ _ | exact (Below.refl _ _).drew | exact (Below.refl _ _).drew.drew)) (bm.out _ (by first | exact Below.refl _ _ | exact (Below.refl _ _).drew | exact (Below.refl _ _).drew.drew))).mono ?_;rintro _ yf ⟨rfl,hb⟩;have ae:Hid (Below y0.heap.size y0 yf):=(by first | exact bt aE.out hb | exact aE.out.drew.trans (hb.mono aE.out.drew.size));skip;clear hb)
   | (have hz:=bn;clear hz;go_simp;go_at_call 20;refine (F4.out _ (by first | exact ag.out | exact ag.out.drew | exact ag.out.drew.drew)).mono ?_;rintro _ ye ⟨C1,c1,rfl,hr,hb⟩;have aE:Hid (Below y0.heap.size y0 ye):=(by first | exact bt ag.out hb | exact ag.out.drew.trans (hb.mono ag.out.drew.size));have ac:Below yd.heap.size yd ye:=(by first | exact hb | exact ((Below.refl _ _).drew).trans hb);have a1:Hid (∀ u,Below ye.heap.size ye u->IRow u C1 X):=fun u h=>Rg.aj hr h;have bm:Hid (∀ u,Below ye.heap.size ye u->IRow u C2 X):=fun u h=>bn.out u (bt ac h);clear hb)
   | (have hz:=bo;clear hz;go_simp;go_at_call 21;refine (F5.out _ (by first | exact ag.out | exact ag.out.drew | exact ag.out.drew.drew)).mono ?_;rintro _ ye ⟨C2,c2,rfl,hr,hb⟩;have aE:Hid (Below y0.heap.size y0 ye):=(by first | exact bt ag.out hb | exact ag.out.drew.trans (hb.mono ag.out.drew.size));have ac:Below yd.heap.size yd ye:=(by first | exact hb | exact ((Below.refl _ _).drew).trans hb);have bm:Hid (∀ u,Below ye.heap.size ye u->IRow u C2 X):=fun u h=>Rg.aj hr h;have a1:Hid (∀ u,Below ye.heap.size ye u->IRow u C1 X):=fun u h=>bo.out u (bt ac h);clear hb)
   | (have hz:=af;clear hz;go_simp;go_at_call 21;refine (F5.out _ (by first | exact af.out | exact af.out.drew | exact af.out.drew.drew)).mono ?_;rintro _ yd ⟨C2,c2,rfl,hr,hb⟩;have ag:Hid (Below y0.heap.size y0 yd):=(by first | exact bt af.out hb | exact af.out.drew.trans (hb.mono af.out.drew.size));have bn:Hid (∀ u,Below yd.heap.size yd u->IRow u C2 X):=fun u h=>Rg.aj hr h;clear hb)
   | (have hz:=af;clear hz;go_simp;go_at_call 20;refine (F4.out _ (by first | exact af.out | exact af.out.drew | exact af.out.drew.drew)).mono ?_;rintro _ yd ⟨C1,c1,rfl,hr,hb⟩;have ag:Hid (Below y0.heap.size y0 yd):=(by first | exact bt af.out hb | exact af.out.drew.trans (hb.mono af.out.drew.size));have bo:Hid (∀ u,Below yd.heap.size yd u->IRow u C1 X):=fun u h=>Rg.aj hr h;clear hb)
   | (have hz:=a2;clear hz;go_simp;go_at_call 16;refine (F3.out _ _ _ _ _ (a2.out _ (by first | exact Below.refl _ _ | exact (Below.refl _ _).drew | exact (Below.refl _ _).drew.drew)) (bp.out _ (by first | exact Below.refl _ _ | exact (Below.refl _ _).drew | exact (Below.refl _ _).drew.drew))).mono ?_;rintro _ yc ⟨rfl,hb⟩;have af:Hid (Below y0.heap.size y0 yc):=(by first | exact bt aF.out hb | exact aF.out.drew.trans (hb.mono aF.out.drew.size));skip;clear hb)
   | (have hz:=bq;clear hz;go_simp;go_at_call 17;refine (F1.out _ (by first | exact ah.out | exact ah.out.drew | exact ah.out.drew.drew)).mono ?_;rintro _ yb ⟨B1,b1,rfl,hr,hb⟩;have aF:Hid (Below y0.heap.size y0 yb):=(by first | exact bt ah.out hb | exact ah.out.drew.trans (hb.mono ah.out.drew.size));have ac:Below ya.heap.size ya yb:=(by first | exact hb | exact ((Below.refl _ _).drew).trans hb);have a2:Hid (∀ u,Below yb.heap.size yb u->Rg.Row encT 1 u B1 L):=fun u h=>Rg.aj hr h;have bp:Hid (∀ u,Below yb.heap.size yb u->Rg.Row encT 1 u B2 L):=fun u h=>bq.out u (bt ac h);clear hb)
   | (have hz:=br;clear hz;go_simp;go_at_call 18;refine (F2.out _ (by first | exact ah.out | exact ah.out.drew | exact ah.out.drew.drew)).mono ?_;rintro _ yb ⟨B2,b2,rfl,hr,hb⟩;have aF:Hid (Below y0.heap.size y0 yb):=(by first | exact bt ah.out hb | exact ah.out.drew.trans (hb.mono ah.out.drew.size));have ac:Below ya.heap.size ya yb:=(by first | exact hb | exact ((Below.refl _ _).drew).trans hb);have bp:Hid (∀ u,Below yb.heap.size yb u->Rg.Row encT 1 u B2 L):=fun u h=>Rg.aj hr h;have a2:Hid (∀ u,Below yb.heap.size yb u->Rg.Row encT 1 u B1 L):=fun u h=>br.out u (bt ac h);clear hb)
   | (have hz:=ad;clear hz;go_simp;go_at_call 18;refine (F2.out _ (by first | exact ad.out | exact ad.out.drew | exact ad.out.drew.drew)).mono ?_;rintro _ ya ⟨B2,b2,rfl,hr,hb⟩;have ah:Hid (Below y0.heap.size y0 ya):=(by first | exact bt ad.out hb | exact ad.out.drew.trans (hb.mono ad.out.drew.size));have bq:Hid (∀ u,Below ya.heap.size ya u->Rg.Row encT 1 u B2 L):=fun u h=>Rg.aj hr h;clear hb)
   | (have hz:=ad;clear hz;go_simp;go_at_call 17;refine (F1.out _ (by first | exact ad.out | exact ad.out.drew | exact ad.out.drew.drew)).mono ?_;rintro _ ya ⟨B1,b1,rfl,hr,hb⟩;have ah:Hid (Below y0.heap.size y0 ya):=(by first | exact bt ad.out hb | exact ad.out.drew.trans (hb.mono ad.out.drew.size));have br:Hid (∀ u,Below ya.heap.size ya u->Rg.Row encT 1 u B1 L):=fun u h=>Rg.aj hr h;clear hb))
 all_goals
  go_wp2_with fail
  go_ret
  exact⟨rfl,bD.out _ bl.out⟩
end
end Go.Proofs.YtgnaiidgjmicaaaGreatDoor
