/- Part 37 of what the laws lean on. -/
import Derived.Test.YtpfkphmldalmmaaGreatDoorL36
set_option maxRecDepth 100000
set_option maxHeartbeats 12800000
namespace Go.Proofs.YtpfkphmldalmmaaGreatDoor
section
open Go.RowKit Rs At Pg
namespace Pg
theorem ia (sep x:List UInt8):∀ l:List (List UInt8),l≠[]->Lib.join (l++[x]) sep=Lib.join l sep++sep++x
 | [],h=>absurd rfl h
 | y :: r,_=>by
  show Lib.join (y :: (r++[x])) sep=_
  rw[Lib.join_cons,Lib.join_cons]
  simp[Lib.joinTail]
theorem fi {α:Type}(f:α->List UInt8)(l:List α)(sep:List UInt8)(k:Nat)(hk:k<l.length):Lib.join ((l.take (k+1)).map f) sep=(if k=0 then [] else Lib.join ((l.take k).map f) sep++sep)++f l[k]:=by
 rw[List.take_succ_eq_append_getElem hk,List.map_append]
 by_cases h0:k=0
 ·subst h0
  rw[if_pos rfl]
  show Lib.join ([]++[f l[0]]) sep=[]++f l[0]
  rw[List.nil_append,Lib.join_one,List.nil_append]
 ·rw[if_neg h0]
  refine ia sep _ _ fun e=>h0 ?_
  have:=congrArg List.length e
  rw[List.length_map,List.length_take,List.length_nil] at this
  omega
end Pg
attribute [local go_sem ↓] Go.wp_at_zero Go.wp_at_succ
theorem mF (sep:List UInt8)(hsep:sep.length<=10)(A:Option Addr)(n c:Nat)(l:List Atm)(w:World)(hw:MaxOk w)(hn:l.length=n)(hr:ARow w A l)(hl:n<=1000)(hg:∀ a∈l,checkA a=0) :
  Calls Tryz.prog 50 #[.slice A n c,.string ⟨sep.toArray⟩] w fun e w'=>e=.returned (.string ⟨(Lib.join (l.map textA) sep).toArray⟩)/\Below w.heap.size w w':=by
 obtain⟨R,hR⟩:=ex (Lib.join (l.map textA) sep)
 rw[hR]
 have HX:=zh hR
 have HR:=zh hr
 have HN:=zh hn
 have HG:=zh hg
 have HM:=zh hw
 clear hr hn hg hw hR
 go_enter Tryz.func50,Tryz.ntmps50
 go_wp2_with fail
 go_loopw [5,6] (fun v i wr=>∃ (k:Nat) (q:List UInt8),k<=n/\i=.int .i64 k/\v=.string ⟨q.toArray⟩/\q.length<=k*1010/\Hid (Lib.join ((l.take k).map textA) sep=q)/\Hid (Below w.heap.size w wr)) (fun _ i _=>n-(intOf i).toNat)
 case atStart=>exact⟨0,[],Nat.zero_le _,rfl,rfl,Nat.zero_le _,rfl,Below.refl _ _⟩
 case round =>
  obtain⟨k,q,hk,rfl,rfl,hq,HQ,HB⟩:=hrel
  by_cases aj:k<n
  ·have af:k<l.length:=by rw[HN.out];exact aj
   obtain⟨ad,C,m,d,rfl,hm,hs,hc⟩:=bM HR.out k af
   obtain⟨c0,c1⟩:=hc _ HB.out
   have aa:=Pg.fi textA l sep k af
   have ac:=HG.out _ (List.getElem_mem af)
   obtain⟨a,ha⟩:=ex (l[k])
   rw[ha] at hm hs c0 aa ac
   rw[HQ.out] at aa
   have hlen:=wR ac
   obtain⟨p1,p2,p3⟩:=dL ac
   obtain⟨nm,r⟩:=a
   dsimp only at hm hs c0 p1 p2
   have HT:=zh (ou nm C m d r wr (ah HM.out HB.out) (Nat.le_trans (cU p1) (by decide)) hm (an hs HB.out) (by rw[<-hm];exact ov p2) p2)
   obtain⟨x,hx⟩:=ex (textA ⟨nm,r⟩)
   rw[hx] at HT aa hlen
   have HJ:=zh aa
   clear hc ha hm hs ac p1 p2 p3 hx aa
   by_cases h0:k=0
   ·have ak:¬ 0<k:=by omega
    have al:q=[]:=List.length_eq_zero_iff.1 (by rw[h0] at hq;omega)
    subst al
    have ae:Hid (Lib.join ((l.take (k+1)).map textA) sep=x):=by have h:=HJ.out;rw[if_pos h0] at h;exact h
    have aq:({ data:=#[] }:ByteArray)++{ data:=x.toArray }={ data:=x.toArray }:=cat2 [] x
    clear h0 HJ
    go_wp2_with fail
    refine HT.out.mono ?_
    rintro _ u5 ⟨rfl,ab⟩
    have ag:=zh (bt HB.out ab)
    clear ab c0 c1
    go_wp2_with fail
    go_roundw
    case rel=>exact⟨k+1,x,by omega,by go_num,rfl,by omega,ae,ag⟩
    case measure=>simp[intOf];omega
   ·have ak:(0:Int)<(k:Int):=by omega
    have ae:Hid (Lib.join ((l.take (k+1)).map textA) sep=q++sep++x):=by have h:=HJ.out;rw[if_neg h0] at h;exact h
    have am:({ data:=q.toArray }:ByteArray)++{ data:=sep.toArray }={ data:=(q++sep).toArray }:=cat2 q sep
    have ao:({ data:=(q++sep).toArray }:ByteArray)++{ data:=x.toArray }={ data:=(q++sep++x).toArray }:=cat2 _ x
    obtain⟨q2,ai⟩:=ex (q++sep)
    have ar:q2.length<=k*1010+10:=by rw[<-ai,List.length_append];omega
    rw[ai] at am ao ae
    clear ai h0 HJ
    go_wp2_with fail
    refine HT.out.mono ?_
    rintro _ u5 ⟨rfl,ab⟩
    have ag:=zh (bt HB.out ab)
    clear ab c0 c1
    go_wp2_with fail
    go_roundw
    case rel=>exact⟨k+1,q2++x,by omega,by go_num,rfl,by rw[List.length_append];omega,ae,ag⟩
    case measure=>simp[intOf];omega
  ·obtain rfl:k=n:=by omega
   have ap:Hid (q=R):=by
    show _=_
    rw[<-HX.out,<-HQ.out,List.take_of_length_le (by rw[HN.out];exact Nat.le_refl _)]
   go_wp2_with fail
   go_ret
   exact⟨by rw[ap.out];rfl,HB.out⟩
theorem pV (A:Option Addr)(n c:Nat)(l:List Atm)(w:World)(hw:MaxOk w)(hn:l.length=n)(hr:ARow w A l)(hl:n<=1000)(hg:∀ a∈l,checkA a=0) :
  Calls Tryz.prog 49 #[.slice A n c] w fun e w'=>e=.returned (.string ⟨(depT l).toArray⟩)/\Below w.heap.size w w':=by
 have HT:Hid (Calls Tryz.prog 50 #[.slice A n c,.string ⟨#[32,111,114,32]⟩] w fun e w'=>e=.returned (.string ⟨(depT l).toArray⟩)/\Below w.heap.size w w'):=mF [32,111,114,32] (by decide) A n c l w hw hn hr hl hg
 clear hw hn hr hl hg
 go_enter Tryz.func49,Tryz.ntmps49
 go_wp2_with fail
 refine HT.out.mono ?_
 rintro _ u ⟨rfl,hb⟩
 have HU:=zh hb
 clear hb
 go_wp2_with fail
 go_ret
 exact⟨rfl,HU.out⟩
end
section
open Go.RowKit Rs At Pg
namespace Pg
def ToSr (V:World) (v:Value) (fs:List Sz.Fld) (u:World):Prop:=Rg.Own Sz.encF 3 u V.heap.size 95 v fs/\Below V.heap.size V u
theorem j3 {V u u2 W5:World}{v v5:Value}{fs:List Sz.Fld}{f:Sz.Fld}{o:Obj}(h:ToSr V v fs u)(hb:Below u.heap.size u u2)(ho:Rg.Own Sz.encF 3 W5 V.heap.size 95 v5 (fs++[f]))(hg:(u2.alloc o).grownBy W5 v.ownBlock):ToSr V v5 (fs++[f]) W5:=by
 have aa:Below u.heap.size u (u2.alloc o):=hb.alloc hb.size _
 have ab:V.heap.size<=u.heap.size:=h.2.size
 exact⟨ho,(h.2.trans (aa.mono ab)).trans (Rg.aw (Rg.own_below h.1 aa) (Nat.le_trans ab aa.size) hg)⟩
theorem fM {V u u2:World}{v:Value}{fs:List Sz.Fld}(h:ToSr V v fs u)(hb:Below u.heap.size u u2):ToSr V v fs u2:=⟨Rg.own_below h.1 hb,h.2.trans (hb.mono h.2.size)⟩
theorem aeJ {g:Gv}(h:giveE g=0):g.name.length<=24/\g.ver.length<=40:=by
 obtain⟨q1,q2⟩:=dN h
 refine⟨cU q1,?_⟩
 rcases q2 with q2 | q2
 ·rw[q2];exact Nat.zero_le _
 ·unfold verE at q2
  split at q2
  ·rename_i hc
   exact (bP hc).1
  ·rename_i hc;exact absurd q2 hc
theorem xu (n:List UInt8):gvT ⟨n,[]⟩=n:=rfl
theorem uF {n v:List UInt8}(h:v≠[]):gvT ⟨n,v⟩=n++[32,61,32]++v:=by unfold gvT;rw[if_neg h]
end Pg
attribute [local go_sem ↓] Go.wp_at_zero Go.wp_at_succ
attribute [local go_sem] Pg.bd
theorem aaT (p:Pk)(D C G:Option Addr)(dn dc cn cc gn gc:Nat)(w:World)(hw:MaxOk w)(hd:Pg.DRow w D p.deps)(hdn:p.deps.length=dn)(hc:ARow w C p.confl)(hcn:p.confl.length=cn)(hg:GRow w G p.prov)(hgn:p.prov.length=gn)(hok:checkP p=0)(hwt:p.wt<Wm.W) :
  Calls Tryz.prog 15 #[.agg #[.string ⟨p.name.toArray⟩,.string ⟨p.ver.toArray⟩,.slice D dn dc,.slice C cn cc,.slice G gn gc,.float .f64 p.wt]] w fun e w'=>∃ A n c,e=.returned (.slice A n c)/\(toPk p).length=n/\Rg.Row Sz.encF 3 w' A (toPk p)/\Below w.heap.size w w':=by
 obtain⟨V,hV⟩:=ex (w.alloc (.cells #[.string ⟨p.name.toArray⟩,.string ⟨p.ver.toArray⟩,.slice D dn dc,.slice C cn cc,.slice G gn gc,.float .f64 p.wt] 27))
 have HB:Hid (Below w.heap.size w V):=ai hV
 obtain⟨b,hb⟩:=ex w.heap.size
 have ap:=zh (fun W (h:Below V.heap.size V W)=>az hV h)
 rw[hb] at ap
 obtain⟨nm,aW⟩:=ex p.name
 obtain⟨vr,aX⟩:=ex p.ver
 obtain⟨fw,aQ⟩:=ex p.wt
 obtain⟨q1,q2,q3,q4,q5,q6,q7,q8,_⟩:=dC hok
 have br:Hid (∀ u,Below V.heap.size V u->Pg.DRow u D p.deps):=fun u h=>drowD_below hd (bt HB.out h)
 have bs:Hid (Pg.DRow V D p.deps):=br.out V (Below.refl _ _)
 have bu:Hid (GRow V G p.prov):=Rg.ak hg HB.out
 have bb:Hid (∀ u,Below V.heap.size V u->MaxOk u):=fun u h=>ah hw (bt HB.out h)
 have bv:Hid (∀ d∈p.deps,d.length<=8/\atomsE d=0):=fun d h=>⟨(bC q4 d h).2.1,(bC q4 d h).2.2⟩
 have bw:Hid (∀ g∈p.prov,g.name.length<=24/\g.ver.length<=40):=fun g h=>aeJ (bI q8 g h)
 have bc:Hid (∀ u,Below V.heap.size V u->Calls Tryz.prog 50 #[.slice C cn cc,.string ⟨#[59,32]⟩] u fun e w'=>e=.returned (.string ⟨(conflT p).toArray⟩)/\Below u.heap.size u w'):=fun u h=>mF [59,32] (by decide) C cn cc p.confl u (bb.out u h) hcn (au hc (bt HB.out h)) (by omega) (a9 q6)
 have aI:Hid (∀ u,Calls Tryz.prog 51 #[.float .f64 p.wt] u fun e w'=>e=.returned (.string ⟨(Wm.textW p.wt).toArray⟩)/\Below u.heap.size u w'):=fun u=>vQ p.wt hwt u
 have bd:=zh hdn
 have be:=zh hgn
 have bx:dn<=16:=by omega
 have bz:gn<=16:=by omega
 have ax:Hid (dn=0↔p.deps=[]):=by rw[<-hdn];exact List.length_eq_zero_iff
 have aZ:Hid (cn=0↔p.confl=[]):=by rw[<-hcn];exact List.length_eq_zero_iff
 have a0:Hid (gn=0↔p.prov=[]):=by rw[<-hgn];exact List.length_eq_zero_iff
 have H0:Hid (to0 p=[⟨kPkg,nm,0⟩,⟨kVer,vr,0⟩]):=by show _=_;unfold to0;rw[aW,aX]
 rw[aW,aX,aQ] at ap hV
 rw[aW,aX,aQ]
 rw[aQ] at aI
 have bf:Hid (p.wt=fw):=aQ
 have bg:Hid (w.heap.size<=V.heap.size):=HB.out.size
 obtain⟨TD,a4⟩:=ex (depsT p)
 obtain⟨TC,a5⟩:=ex (conflT p)
 obtain⟨TG,a6⟩:=ex (provT p)
 obtain⟨TW,a7⟩:=ex (Wm.textW fw)
 rw[a5] at bc
 rw[a7] at aI
 have E1:Hid (to1 p=if dn=0 then to0 p else to0 p++[⟨kDep,TD,0⟩]):=by
  show _=_
  unfold to1;rw[a4]
  by_cases h:dn=0
  ·rw[if_pos h,if_pos (ax.out.1 h)]
  ·rw[if_neg h,if_neg (fun e=>h (ax.out.2 e))]
 have E2:Hid (to2 p=if cn=0 then to1 p else to1 p++[⟨kCon,TC,0⟩]):=by
  show _=_
  unfold to2;rw[a5]
  by_cases h:cn=0
  ·rw[if_pos h,if_pos (aZ.out.1 h)]
  ·rw[if_neg h,if_neg (fun e=>h (aZ.out.2 e))]
 have E3:Hid (to3 p=if gn=0 then to2 p else to2 p++[⟨kPro,TG,0⟩]):=by
  show _=_
  unfold to3;rw[a6]
  by_cases h:gn=0
  ·rw[if_pos h,if_pos (a0.out.1 h)]
  ·rw[if_neg h,if_neg (fun e=>h (a0.out.2 e))]
 have E4:Hid (toPk p=if TW=[48] then to3 p else to3 p++[⟨kWei,TW,0⟩]):=by
  show _=_
  unfold toPk;rw[bf.out,a7]
 have bh:Hid (depsT p=TD):=a4
 have bi:Hid (provT p=TG):=a6
 obtain⟨V2,bn⟩:=ex (V.alloc (.cells #[.string ⟨#[80,97,99,107,97,103,101]⟩,.string ⟨nm.toArray⟩,.int .i64 0,.string ⟨#[86,101,114,115,105,111,110]⟩,.string ⟨vr.toArray⟩,.int .i64 0] 95))
 have ae:Hid (ToSr V (.slice (some ⟨V.heap.size,0,none⟩) 2 2) (to0 p) V2):=by
  show ToSr _ _ _ _
  rw[H0.out,<-bn]
  exact⟨xm (f:=⟨kPkg,nm,0⟩) (g:=⟨kVer,vr,0⟩) (Nat.le_refl _),(Below.refl _ _).alloc (Nat.le_refl _) _⟩
 obtain⟨y0,y1,y2,y3,y4,y5⟩:=ap.out _ (Below.refl _ _)
 clear hw hd hdn hc hcn hg hgn hok hwt aW aX aQ a4 a5 a6 a7 ax aZ a0 bf q1 q2 q3 q4 q5 q6 q7 q8
 go_enter Tryz.func15,Tryz.ntmps15
 go_wp2_with fail
 clear hV bn hb y0 y1 y2 y3 y4 y5
 go_loopw [4,5] (fun s i wr=>∃ (k:Nat) (q:List UInt8),k<=dn/\s=.string ⟨q.toArray⟩/\i=.int .i64 k/\q.length<=k*10000/\Hid (Lib.join ((p.deps.take k).map depT) semi=q)/\Hid (ToSr V (.slice (some ⟨V.heap.size,0,none⟩) 2 2) (to0 p) wr)) (fun _ i _=>dn-(intOf i).toNat)
 case atStart=>exact⟨0,[],Nat.zero_le _,rfl,rfl,Nat.zero_le _,rfl,ae.out⟩
 clear ae
 case round =>
  obtain⟨k,q,hk,rfl,rfl,hq,HQ,ae⟩:=hrel
  obtain⟨y0,y1,y2,y3,y4,y5⟩:=ap.out _ ae.out.2
  by_cases bj:k<dn
  ·have a1:k<p.deps.length:=by rw[bd.out];exact bj
   obtain⟨ad,C1,m,d1,rfl,hm,hs,hc⟩:=bT bs.out k a1
   obtain⟨a8,aY⟩:=bv.out _ (List.getElem_mem a1)
   have ao:=Pg.fi depT p.deps semi k a1
   obtain⟨l,hl⟩:=ex (p.deps[k])
   rw[hl] at hm hs a8 aY ao
   rw[HQ.out] at ao
   have bA:=zh hc
   have h1:=bA.out _ ae.out.2
   have ax:Hid (∀ u,Below V.heap.size V u->Calls Tryz.prog 49 #[.slice C1 m d1] u fun e w'=>e=.returned (.string ⟨(depT l).toArray⟩)/\Below u.heap.size u w'):=fun u h=>pV C1 m d1 l u (bb.out u h) hm (au hs h) (by omega) (a9 aY)
   have hlen:=lZ aY a8
   obtain⟨x,hx⟩:=ex (depT l)
   rw[hx] at ax ao hlen
   have HJ:=zh ao
   clear hc hl hm hs a8 aY hx ao
   by_cases h0:k=0
   ·have aJ:¬ 0<k:=by omega
    have aK:q=[]:=List.length_eq_zero_iff.1 (by rw[h0] at hq;omega)
    subst aK
    have ab:Hid (Lib.join ((p.deps.take (k+1)).map depT) semi=x):=by have h:=HJ.out;rw[if_pos h0] at h;exact h
    have aH:({ data:=#[] }:ByteArray)++{ data:=x.toArray }={ data:=x.toArray }:=cat2 [] x
    clear h0 HJ
    go_wp2_with fail
    refine (ax.out _ ae.out.2).mono ?_
    rintro _ u6 ⟨rfl,aR⟩
    have a2:=zh (fM ae.out aR)
    clear aR y0 y1 y2 y3 y4 y5 h1
    go_wp2_with fail
    go_roundw
    case rel=>exact⟨k+1,x,by omega,rfl,by go_num,by omega,ab,a2⟩
    case measure=>simp[intOf];omega
   ·have aJ:(0:Int)<(k:Int):=by omega
    have ab:Hid (Lib.join ((p.deps.take (k+1)).map depT) semi=q++[59,32]++x):=by have h:=HJ.out;rw[if_neg h0] at h;exact h
    have aA:({ data:=q.toArray }:ByteArray)++{ data:=#[59,32] }={ data:=(q++[59,32]).toArray }:=cat2 q [59,32]
    have aL:({ data:=(q++[59,32]).toArray }:ByteArray)++{ data:=x.toArray }={ data:=(q++[59,32]++x).toArray }:=cat2 _ x
    obtain⟨q2,al⟩:=ex (q++[59,32])
    have bk:q2.length<=k*10000+2:=by rw[<-al,List.length_append];simp;omega
    rw[al] at aA aL ab
    clear al h0 HJ
    go_wp2_with fail
    refine (ax.out _ ae.out.2).mono ?_
    rintro _ u6 ⟨rfl,aR⟩
    have a2:=zh (fM ae.out aR)
    clear aR y0 y1 y2 y3 y4 y5 h1
    go_wp2_with fail
    go_roundw
    case rel=>exact⟨k+1,q2++x,by omega,rfl,by go_num,by rw[List.length_append];omega,ab,a2⟩
    case measure=>simp[intOf];omega
  ·obtain rfl:k=dn:=by omega
   have aM:Hid (q=TD):=by
    show _=_
    rw[<-bh.out,<-HQ.out,List.take_of_length_le (by rw[bd.out];exact Nat.le_refl _)];rfl
   obtain rfl:=aM.out
   clear hq HQ bj hk bh aM
   go_upto_if 36 with fail
   go_cut [3] (fun v wx=>Hid (ToSr V v (to1 p) wx))
   case first =>
    by_cases h0:k=0
    ·have HF:Hid (to1 p=to0 p):=by show _=_;rw[E1.out,if_pos h0]
     subst h0
     go_wp2_with fail
     go_meet
     case rel=>show ToSr _ _ _ _;rw[HF.out];exact ae.out
    ·have HF:Hid (to1 p=to0 p++[⟨kDep,q,0⟩]):=by show _=_;rw[E1.out,if_neg h0]
     have aN:0<k:=by omega
     clear h0
     have aB:Hid ((to0 p).length+1<=1000000):=by have:=xl p;show _<=_;omega
     obtain⟨u1,HU⟩:∃ u1,u1=wr:=⟨_,rfl⟩
     have af:Hid (Below wr.heap.size wr u1):=by subst HU;exact Below.refl _ _
     obtain rfl:=HU
     go_wp2_with (at_builtin;refine Rg.aO Sz.sliceRF rfl (.tmp 37) (.tmp 40) rfl V.heap.size _ (to0 p) [⟨kDep,q,0⟩] rfl (Rg.own_below ae.out.1 (af.out.alloc af.out.size _)) _ _ rfl (Rg.ay u1 _ _ _ (by rfl)) (Nat.zero_lt_succ _) aB.out ?b2 ?_)
     case b2=>have:=ae.out.2.size;have:=af.out.size;simp;omega
     intro v5 W5 am an aD
     have ar:Hid (ToSr V v5 (to1 p) W5):=by show ToSr _ _ _ _;rw[HF.out];exact j3 ae.out af.out am an
     clear am an aD
     go_wp2_with fail
     go_meet
     case rel=>exact ar
   case rest =>
   have av:Hid (ToSr V u3 (to1 p) wc):=hcut
   clear hcut ae y0 y1 y2 y3 y4 y5
   obtain⟨A1,c1,rfl,_,_,_⟩:=Rg.aE Sz.fitsF av.out.1
   obtain⟨y0,y1,y2,y3,y4,y5⟩:=ap.out _ av.out.2
   go_upto_if 45 with fail
   go_cut [3] (fun v wx=>Hid (ToSr V v (to2 p) wx))
   case first =>
    by_cases h0:cn=0
    ·have HF:Hid (to2 p=to1 p):=by show _=_;rw[E2.out,if_pos h0]
     subst h0
     go_wp2_with fail
     go_meet
     case rel=>show ToSr _ _ _ _;rw[HF.out];exact av.out
    ·have HF:Hid (to2 p=to1 p++[⟨kCon,TC,0⟩]):=by show _=_;rw[E2.out,if_neg h0]
     have aN:0<cn:=by omega
     clear h0
     have aB:Hid ((to1 p).length+1<=1000000):=by have:=pR p;show _<=_;omega
     go_wp2_with fail
     refine (bc.out _ av.out.2).mono ?_
     rintro _ u1 ⟨rfl,aw⟩
     have af:=zh aw
     clear aw
     go_wp2_with (at_builtin;refine Rg.aO Sz.sliceRF rfl (.tmp 46) (.tmp 51) rfl V.heap.size _ (to1 p) [⟨kCon,TC,0⟩] rfl (Rg.own_below av.out.1 (af.out.alloc af.out.size _)) _ _ rfl (Rg.ay u1 _ _ _ (by rfl)) (Nat.zero_lt_succ _) aB.out ?b2 ?_)
     case b2=>have:=av.out.2.size;have:=af.out.size;simp;omega
     intro v5 W5 am an aD
     have ar:Hid (ToSr V v5 (to2 p) W5):=by show ToSr _ _ _ _;rw[HF.out];exact j3 av.out af.out am an
     clear am an aD
     go_wp2_with fail
     go_meet
     case rel=>exact ar
   case rest =>
   have aj:Hid (ToSr V u3 (to2 p) wc):=hcut
   clear hcut av y0 y1 y2 y3 y4 y5
   obtain⟨A2,c2,rfl,_,_,_⟩:=Rg.aE Sz.fitsF aj.out.1
   obtain⟨S2,bo⟩:∃ v,v=Value.slice A2 (to2 p).length c2:=⟨_,rfl⟩
   rw[<-bo] at aj ⊢
   clear bo
   obtain⟨y0,y1,y2,y3,y4,y5⟩:=ap.out _ aj.out.2
   go_wp2_with fail
   clear y0 y1 y2 y3 y4 y5
   go_loopw [4,6] (fun s i ws=>∃ (j:Nat) (q:List UInt8),j<=gn/\s=.string ⟨q.toArray⟩/\i=.int .i64 j/\q.length<=j*100/\Hid (Lib.join ((p.prov.take j).map gvT) semi=q)/\Hid (ToSr V S2 (to2 p) ws)) (fun _ i _=>gn-(intOf i).toNat)
   case atStart=>exact⟨0,[],Nat.zero_le _,rfl,rfl,Nat.zero_le _,rfl,aj.out⟩
   clear aj
   case round =>
    obtain⟨j,q,hj,rfl,rfl,hq,HQ,HZ⟩:=hrel
    obtain⟨y0,y1,y2,y3,y4,y5⟩:=ap.out _ HZ.out.2
    by_cases bl:j<gn
    ·have a3:j<p.prov.length:=by rw[be.out];exact bl
     obtain⟨ag,rfl,bp⟩:=b8 bu.out j a3
     obtain⟨g0,g1⟩:=bp _ HZ.out.2
     obtain⟨aS,aT⟩:=bw.out _ (List.getElem_mem a3)
     have ao:=Pg.fi gvT p.prov semi j a3
     obtain⟨g,hg⟩:=ex (p.prov[j])
     rw[hg] at g0 g1 aS aT ao
     rw[HQ.out] at ao
     obtain⟨aa,ac⟩:=g
     dsimp only at g0 g1 aS aT
     have HJ:=zh ao
     clear hg ao bp
     by_cases hv:ac=[]
     ·subst hv
      by_cases h0:j=0
      ·have aJ:¬ 0<j:=by omega
       have aK:q=[]:=List.length_eq_zero_iff.1 (by rw[h0] at hq;omega)
       subst aK
       have ab:Hid (Lib.join ((p.prov.take (j+1)).map gvT) semi=gvT ⟨aa,[]⟩):=by have h:=HJ.out;rw[if_pos h0] at h;exact h
       have aH:({ data:=#[] }:ByteArray)++{ data:=aa.toArray }={ data:=aa.toArray }:=cat2 [] aa
       have HF:Hid (Lib.join ((p.prov.take (j+1)).map gvT) semi=aa):=by
        show _=_
        rw[ab.out,xu]
       clear h0 HJ ab
       go_wp2_with fail
       go_roundw
       case rel=>exact⟨j+1,aa,by omega,rfl,by go_num,by omega,HF,HZ⟩
       case measure=>simp[intOf];omega
      ·have aJ:(0:Int)<(j:Int):=by omega
       have ab:Hid (Lib.join ((p.prov.take (j+1)).map gvT) semi=q++[59,32]++gvT ⟨aa,[]⟩):=by have h:=HJ.out;rw[if_neg h0] at h;exact h
       have aH:({ data:=q.toArray }:ByteArray)++{ data:=#[59,32] }={ data:=(q++[59,32]).toArray }:=cat2 q [59,32]
       have aA:({ data:=(q++[59,32]).toArray }:ByteArray)++{ data:=aa.toArray }={ data:=(q++[59,32]++aa).toArray }:=cat2 _ aa
       obtain⟨q2,al⟩:=ex (q++[59,32])
       have bk:q2.length<=j*100+2:=by rw[<-al,List.length_append];simp;omega
       rw[al] at aH aA ab
       obtain⟨q3,aq⟩:=ex (q2++aa)
       have bB:q3.length<=j*100+26:=by rw[<-aq,List.length_append];omega
       rw[aq] at aA
       have HF:Hid (Lib.join ((p.prov.take (j+1)).map gvT) semi=q3):=by
        show _=_
        rw[ab.out,xu];exact aq
       clear h0 HJ ab al aq
       go_wp2_with fail
       go_roundw
       case rel=>exact⟨j+1,q3,by omega,rfl,by go_num,by omega,HF,HZ⟩
       case measure=>simp[intOf];omega
     ·have bm:=zh hv
      have bF:(ac != [])=true:=by simpa using hv
      have bG:ac.isEmpty=false:=by simpa using hv
      have bH:(ac==[])=false:=by simpa using hv
      clear hv
      by_cases h0:j=0
      ·have aJ:¬ 0<j:=by omega
       have aK:q=[]:=List.length_eq_zero_iff.1 (by rw[h0] at hq;omega)
       subst aK
       have ab:Hid (Lib.join ((p.prov.take (j+1)).map gvT) semi=gvT ⟨aa,ac⟩):=by have h:=HJ.out;rw[if_pos h0] at h;exact h
       have aH:({ data:=#[] }:ByteArray)++{ data:=aa.toArray }={ data:=aa.toArray }:=cat2 [] aa
       have aL:({ data:=aa.toArray }:ByteArray)++{ data:=#[32,61,32] }={ data:=(aa++[32,61,32]).toArray }:=cat2 aa [32,61,32]
       have aP:({ data:=(aa++[32,61,32]).toArray }:ByteArray)++{ data:=ac.toArray }={ data:=(aa++[32,61,32]++ac).toArray }:=cat2 _ ac
       have HF:Hid (Lib.join ((p.prov.take (j+1)).map gvT) semi=aa++[32,61,32]++ac):=by
        show _=_
        rw[ab.out,uF bm.out]
       obtain⟨q4,aF⟩:=ex (aa++[32,61,32])
       have bD:q4.length<=24+3:=by rw[<-aF,List.length_append];simp;omega
       rw[aF] at aL aP HF
       obtain⟨q5,aG⟩:=ex (q4++ac)
       have bE:q5.length<=24+43:=by rw[<-aG,List.length_append];omega
       rw[aG] at aP HF
       clear h0 HJ ab aF aG
       go_wp2_with fail
       go_roundw
       case rel=>exact⟨j+1,q5,by omega,rfl,by go_num,by omega,HF,HZ⟩
       case measure=>simp[intOf];omega
      ·have aJ:(0:Int)<(j:Int):=by omega
       have ab:Hid (Lib.join ((p.prov.take (j+1)).map gvT) semi=q++[59,32]++gvT ⟨aa,ac⟩):=by have h:=HJ.out;rw[if_neg h0] at h;exact h
       have aH:({ data:=q.toArray }:ByteArray)++{ data:=#[59,32] }={ data:=(q++[59,32]).toArray }:=cat2 q [59,32]
       have aA:({ data:=(q++[59,32]).toArray }:ByteArray)++{ data:=aa.toArray }={ data:=(q++[59,32]++aa).toArray }:=cat2 _ aa
       obtain⟨q2,al⟩:=ex (q++[59,32])
       have bk:q2.length<=j*100+2:=by rw[<-al,List.length_append];simp;omega
       rw[al] at aH aA ab
       obtain⟨q3,aq⟩:=ex (q2++aa)
       have bB:q3.length<=j*100+26:=by rw[<-aq,List.length_append];omega
       rw[aq] at aA
       have aL:({ data:=q3.toArray }:ByteArray)++{ data:=#[32,61,32] }={ data:=(q3++[32,61,32]).toArray }:=cat2 q3 [32,61,32]
       have aP:({ data:=(q3++[32,61,32]).toArray }:ByteArray)++{ data:=ac.toArray }={ data:=(q3++[32,61,32]++ac).toArray }:=cat2 _ ac
       have HF:Hid (Lib.join ((p.prov.take (j+1)).map gvT) semi=q3++[32,61,32]++ac):=by
        show _=_
        rw[ab.out,uF bm.out];rw[<-aq];simp only[List.append_assoc]
       obtain⟨q4,aF⟩:=ex (q3++[32,61,32])
       have bD:q4.length<=(j*100+26)+3:=by rw[<-aF,List.length_append];simp;omega
       rw[aF] at aL aP HF
       obtain⟨q5,aG⟩:=ex (q4++ac)
       have bE:q5.length<=(j*100+26)+43:=by rw[<-aG,List.length_append];omega
       rw[aG] at aP HF
       clear h0 HJ ab aF aG al aq
       go_wp2_with fail
       go_roundw
       case rel=>exact⟨j+1,q5,by omega,rfl,by go_num,by omega,HF,HZ⟩
       case measure=>simp[intOf];omega
    ·obtain rfl:j=gn:=by omega
     have aM:Hid (q=TG):=by
      show _=_
      rw[<-bi.out,<-HQ.out,List.take_of_length_le (by rw[be.out];exact Nat.le_refl _)];rfl
     obtain rfl:=aM.out
     have aj:=HZ
     clear hq HQ bl hj bi aM HZ
     go_upto_if 91 with fail
     go_cut [3] (fun v wx=>Hid (ToSr V v (to3 p) wx))
     case first =>
      by_cases h0:j=0
      ·have HF:Hid (to3 p=to2 p):=by show _=_;rw[E3.out,if_pos h0]
       subst h0
       go_wp2_with fail
       go_meet
       case rel=>show ToSr _ _ _ _;rw[HF.out];exact aj.out
      ·have HF:Hid (to3 p=to2 p++[⟨kPro,q,0⟩]):=by show _=_;rw[E3.out,if_neg h0]
       have aN:0<j:=by omega
       clear h0
       have aB:Hid ((to2 p).length+1<=1000000):=by have:=pS p;show _<=_;omega
       obtain⟨u1,HU⟩:∃ u1,u1=wr:=⟨_,rfl⟩
       have af:Hid (Below wr.heap.size wr u1):=by subst HU;exact Below.refl _ _
       obtain rfl:=HU
       go_wp2_with (at_builtin;refine Rg.aO Sz.sliceRF rfl (.tmp 92) (.tmp 95) rfl V.heap.size _ (to2 p) [⟨kPro,q,0⟩] rfl (Rg.own_below aj.out.1 (af.out.alloc af.out.size _)) _ _ rfl (Rg.ay u1 _ _ _ (by rfl)) (Nat.zero_lt_succ _) aB.out ?b2 ?_)
       case b2=>have:=aj.out.2.size;have:=af.out.size;simp;omega
       intro v5 W5 am an aD
       have ar:Hid (ToSr V v5 (to3 p) W5):=by show ToSr _ _ _ _;rw[HF.out];exact j3 aj.out af.out am an
       clear am an aD
       go_wp2_with fail
       go_meet
       case rel=>exact ar
     case rest =>
     have aU:Hid (ToSr V u3 (to3 p) wc):=hcut
     clear hcut aj y0 y1 y2 y3 y4 y5
     obtain⟨A3,c3,rfl,_,_,_⟩:=Rg.aE Sz.fitsF aU.out.1
     obtain⟨y0,y1,y2,y3,y4,y5⟩:=ap.out _ aU.out.2
     by_cases h0:TW=[48]
     ·have HF:Hid (toPk p=to3 p):=by show _=_;rw[E4.out,if_pos h0]
      have d0:(TW==[48])=true:=beq_iff_eq.2 h0
      have d1:(TW != [48])=false:=by rw[bne,d0];rfl
      clear h0
      go_wp2_with fail
      refine (aI.out _).mono ?_
      rintro _ u1 ⟨rfl,aw⟩
      have aC:Hid (ToSr V (.slice A3 (to3 p).length c3) (to3 p) u1):=fM aU.out aw
      clear aw
      go_wp2_with fail
      go_ret
      rw[HF.out]
      obtain⟨A4,c4,e4,ba,_,_⟩:=Rg.aE Sz.fitsF aC.out.1
      cases e4
      exact⟨_,_,_,rfl,rfl,ba,HB.out.trans (aC.out.2.mono bg.out)⟩
     ·have HF:Hid (toPk p=to3 p++[⟨kWei,TW,0⟩]):=by show _=_;rw[E4.out,if_neg h0]
      have d0:(TW==[48])=false:=beq_eq_false_iff_ne.2 h0
      have d1:(TW != [48])=true:=by rw[bne,d0];rfl
      clear h0
      have aB:Hid ((to3 p).length+1<=1000000):=by have:=pT p;show _<=_;omega
      go_wp2_with fail
      refine (aI.out _).mono ?_
      rintro _ u1 ⟨rfl,aw⟩
      have aC:Hid (ToSr V (.slice A3 (to3 p).length c3) (to3 p) u1):=fM aU.out aw
      clear aw y0 y1 y2 y3 y4 y5
      obtain⟨y0,y1,y2,y3,y4,y5⟩:=ap.out _ aC.out.2
      go_wp2_with fail
      refine (aI.out _).mono ?_
      rintro _ u2 ⟨rfl,bq⟩
      have aV:=zh bq
      clear bq
      go_wp2_with (at_builtin;refine Rg.aO Sz.sliceRF rfl (.tmp 101) (.tmp 106) rfl V.heap.size _ (to3 p) [⟨kWei,TW,0⟩] rfl (Rg.own_below aC.out.1 (aV.out.alloc aV.out.size _)) _ _ rfl (Rg.ay u2 _ _ _ (by rfl)) (Nat.zero_lt_succ _) aB.out ?b2 ?_)
      case b2=>have:=aC.out.2.size;have:=aV.out.size;simp;omega
      intro v5 W5 am an aD
      have ar:Hid (ToSr V v5 (toPk p) W5):=by show ToSr _ _ _ _;rw[HF.out];exact j3 aC.out aV.out am an
      clear am an aD
      go_wp2_with fail
      go_ret
      obtain⟨A4,c4,e4,ba,_,_⟩:=Rg.aE Sz.fitsF ar.out.1
      subst e4
      exact⟨_,_,_,rfl,rfl,ba,HB.out.trans (ar.out.2.mono bg.out)⟩
end
section
open Go.RowKit Rs At Pg
attribute [local go_sem ↓] Go.wp_at_zero Go.wp_at_succ
theorem o8 (p:Pk)(D C G:Option Addr)(dn dc cn cc gn gc:Nat)(w:World)(hw:MaxOk w)(hd:Pg.DRow w D p.deps)(hdn:p.deps.length=dn)(hc:ARow w C p.confl)(hcn:p.confl.length=cn)(hg:GRow w G p.prov)(hgn:p.prov.length=gn)(hf:PFew p) :
  Calls Tryz.prog 8 #[.agg #[.string ⟨p.name.toArray⟩,.string ⟨p.ver.toArray⟩,.slice D dn dc,.slice C cn cc,.slice G gn gc,.float .f64 p.wt]] w fun e w'=>e=.returned (.int .i64 (checkP p))/\Below w.heap.size w w':=by
 obtain⟨nm,v,deps,confl,prov,wt⟩:=p
 dsimp only at hd hdn hc hcn hg hgn ⊢
 obtain⟨f1,f2,f3,f4,f5,f6,f7,f8⟩:=hf
 dsimp only at f1 f2 f3 f4 f5 f6 f7 f8
 obtain⟨R,hR⟩:=ex (checkP ⟨nm,v,deps,confl,prov,wt⟩)
 rw[hR]
 unfold checkP at hR
 dsimp only at hR
 obtain⟨x1,aH⟩:=ex (verE v)
 obtain⟨x2,aI⟩:=ex (depsE deps)
 obtain⟨x3,aJ⟩:=ex (atomsE confl)
 obtain⟨x4,aK⟩:=ex (givesE prov)
 obtain⟨x5,aL⟩:=ex (chkW wt)
 rw[aH,aI,aJ,aK,aL,hdn,hcn,hgn] at hR
 have a3:dn<=1000000:=by omega
 have aT:cn<=1000000:=by omega
 have a4:gn<=1000000:=by omega
 obtain⟨W1,aM⟩:=ex (w.alloc (.cells #[.string ⟨nm.toArray⟩,.string ⟨v.toArray⟩,.slice D dn dc,.slice C cn cc,.slice G gn gc,.float .f64 wt] 27))
 have af:Hid (Below w.heap.size w W1):=ai aM
 obtain⟨b,hb⟩:=ex w.heap.size
 have HY:=zh (fun W (h:Below W1.heap.size W1 W)=>az aM h)
 rw[hb] at HY
 have HM:=zh (ah hw af.out)
 have HD:=zh (drowD_below hd af.out)
 have aN:=zh hdn
 have HC:=zh (au hc af.out)
 have aU:=zh hcn
 have HG:Hid (GRow W1 G prov):=Rg.ak hg af.out
 have aO:=zh hgn
 have aV:=zh f3
 have aW:=zh f5
 have aX:=zh f7
 have aY:=zh f8
 have aP:=zh aI
 have aZ:=zh aJ
 have aQ:=zh aK
 have a0:=zh aL
 have HN:=zh (iz nm W1 f1)
 have HV:=zh (i9 v W1)
 rw[aH] at HV
 have HR:=zh hR
 have a5:Hid (Below b w W1):=by show Below _ _ _;rw[<-hb];exact af.out
 have ab:Hid (∀ u,Below W1.heap.size W1 u->Below w.heap.size w u):=fun u h=>bt af.out h
 clear hw hd hdn hc hcn hg hgn f1 f2 f3 f4 f5 f6 f7 f8 aH aI aJ aK aL hR
 obtain⟨c0,c1,c2,c3,c4,c5⟩:=HY.out _ (Below.refl _ _)
 go_enter Tryz.func8,Tryz.ntmps8
 go_wp2_with fail
 clear aM hb
 refine HN.out.mono ?_
 rintro _ z ⟨rfl,rfl⟩
 cases ao:nameB nm
 ·have HE:Hid (R=3):=by have h:=HR.out;rw[ao,if_pos rfl] at h;exact h.symm
  clear ao
  go_wp2_with fail
  go_ret
  exact⟨by rw[HE.out];rfl,ab.out _ (Below.refl _ _)⟩
 have h:=HR.out
 rw[ao,if_neg (by decide)] at h
 have ap:=zh h
 clear h
 clear ao HR HN
 go_wp2_with fail
 refine HV.out.mono ?_
 rintro _ u ⟨rfl,hb⟩
 have HU:=zh hb
 clear hb c0 c1 c2 c3 c4 c5 HV
 obtain⟨c0,c1,c2,c3,c4,c5⟩:=HY.out _ HU.out
 by_cases h1:x1=0
 case neg =>
  have HE:Hid (R=x1):=by have h:=ap.out;rw[if_pos h1] at h;exact h.symm
  clear ap
  go_wp2_with fail
  go_ret
  exact⟨by rw[HE.out];rfl,ab.out _ HU.out⟩
 subst h1
 have h:=ap.out
 rw[if_neg (by simp)] at h
 have aq:=zh h
 clear h
 clear ap
 by_cases ar:16<dn
 ·have HE:Hid (R=4):=by have h:=aq.out;rw[if_pos ar] at h;exact h.symm
  have p1:(16:Int)<(dn:Int):=by omega
  clear aq ar
  go_wp2_with fail
  go_ret
  exact⟨by rw[HE.out];rfl,ab.out _ HU.out⟩
 have p1:¬ (16:Int)<(dn:Int):=by omega
 have h:=aq.out
 rw[if_neg ar] at h
 have aj:=zh h
 clear h
 clear aq ar
 go_wp2_with fail
 clear c0 c1 c2 c3 c4 c5 p1
 go_loopw [3,4] (fun e i wr=>∃ k:Nat,k<=dn/\e=.int .i64 0/\i=.int .i64 k/\Hid (depsE (deps.drop k)=x2)/\Hid (Below W1.heap.size W1 wr)) (fun _ i _=>dn-(intOf i).toNat)
 case atStart=>exact⟨0,Nat.zero_le _,rfl,rfl,aP.out,HU.out⟩
 case round =>
  clear HU
  obtain⟨k,hk,rfl,rfl,HH,HW⟩:=hrel
  obtain⟨c0,c1,c2,c3,c4,c5⟩:=HY.out _ HW.out
  by_cases aF:k<dn
  ·have ae:k<deps.length:=by rw[aN.out];exact aF
   obtain⟨ad,B,m,d,rfl,hm,hs,hc⟩:=bT HD.out k ae
   have q0:=hc _ HW.out
   have al:deps.drop k=deps[k] :: deps.drop (k+1):=List.drop_eq_getElem_cons ae
   obtain⟨f1,f2⟩:=fT aV.out k ae
   have hh:=HH.out
   rw[al,oz] at hh
   obtain⟨l,hl⟩:=ex (deps[k])
   rw[hl] at hm hs f1 f2 hh
   rw[hm] at hh
   have HS:=zh hs
   have aR:=zh hm
   have a1:=zh f1
   have a2:=zh f2
   have aa:=zh hh
   clear hc al hl f1 f2 hs hm HH hh
   by_cases aG:m<1
   ·have HE:Hid (R=4):=by
     have hh:=aa.out
     rw[if_neg (by omega)] at hh
     have h:=aj.out
     rw[<-hh,if_pos (by decide)] at h;exact h.symm
    have p2:(m:Int)<1:=by omega
    clear aG aa
    go_wp2_with fail
    go_ret
    exact⟨by rw[HE.out];rfl,ab.out _ HW.out⟩
   have p2:¬ (m:Int)<1:=by omega
   by_cases aS:8<m
   ·have HE:Hid (R=4):=by
     have hh:=aa.out
     rw[if_neg (by omega)] at hh
     have h:=aj.out
     rw[<-hh,if_pos (by decide)] at h;exact h.symm
    have p3:(8:Int)<(m:Int):=by omega
    clear aG aS aa
    go_wp2_with fail
    go_ret
    exact⟨by rw[HE.out];rfl,ab.out _ HW.out⟩
   have p3:¬ (8:Int)<(m:Int):=by omega
   obtain⟨y,hy⟩:=ex (atomsE l)
   have HA:=zh (lD B m d l wr (ah HM.out HW.out) aR.out (au HS.out HW.out) (by rw[<-aR.out];exact a1.out) a2.out)
   have ac:Hid ((if y=0 then depsE (deps.drop (k+1)) else y)=x2):=by
    have hh:=aa.out
    rw[if_pos (by omega),hy] at hh;exact hh
   rw[hy] at HA
   clear hy aa aG aS
   go_wp2_with fail
   refine HA.out.mono ?_
   rintro _ u2 ⟨rfl,hb⟩
   have HU:=zh (bt HW.out hb)
   clear hb c0 c1 c2 c3 c4 c5 q0 HA p2 p3
   by_cases h0:y=0
   ·subst h0
    have HE:Hid (depsE (deps.drop (k+1))=x2):=by have:=ac.out;rw[if_pos rfl] at this;exact this
    clear ac
    go_wp2_with fail
    go_roundw
    case rel=>exact⟨k+1,by omega,rfl,by go_num,HE,HU⟩
    case measure=>simp[intOf];omega
   ·have HE:Hid (R=y):=by
     have hh:=ac.out
     rw[if_neg h0] at hh
     have h:=aj.out
     rw[<-hh,if_pos h0] at h;exact h.symm
    clear ac
    go_wp2_with fail
    go_ret
    exact⟨by rw[HE.out];rfl,ab.out _ HU.out⟩
  ·obtain rfl:k=dn:=by omega
   have h2:0=x2:=by rw[<-HH.out,List.drop_eq_nil_of_le (by rw[aN.out];exact Nat.le_refl _)];rfl
   have h:=aj.out
   rw[<-h2,if_neg (by simp)] at h
   have av:=zh h
   clear h h2
   clear aj HH aP
   by_cases aw:16<cn
   ·have HE:Hid (R=4):=by have h:=av.out;rw[if_pos aw] at h;exact h.symm
    have p1:(16:Int)<(cn:Int):=by omega
    clear av aw
    go_wp2_with fail
    go_ret
    exact⟨by rw[HE.out];rfl,ab.out _ HW.out⟩
   have p1:¬ (16:Int)<(cn:Int):=by omega
   have h:=av.out
   rw[if_neg aw] at h
   have ax:=zh h
   clear h
   have HA:=zh (lD C cn cc confl wr (ah HM.out HW.out) aU.out (au HC.out HW.out) aT aW.out)
   rw[aZ.out] at HA
   clear av aw
   go_wp2_with fail
   refine HA.out.mono ?_
   rintro _ u2 ⟨rfl,hb⟩
   have HU:=zh (bt HW.out hb)
   clear hb c0 c1 c2 c3 c4 c5 HA p1 HW
   obtain⟨c0,c1,c2,c3,c4,c5⟩:=HY.out _ HU.out
   by_cases h3:x3=0
   case neg =>
    have HE:Hid (R=x3):=by have h:=ax.out;rw[if_pos h3] at h;exact h.symm
    clear ax
    go_wp2_with fail
    go_ret
    exact⟨by rw[HE.out];rfl,ab.out _ HU.out⟩
   have h:=ax.out
   rw[if_neg (by simp[h3])] at h
   have ay:=zh h
   clear h
   subst h3
   clear ax
   by_cases aA:16<gn
   ·have HE:Hid (R=4):=by have h:=ay.out;rw[if_pos aA] at h;exact h.symm
    have p1:(16:Int)<(gn:Int):=by omega
    clear ay aA
    go_wp2_with fail
    go_ret
    exact⟨by rw[HE.out];rfl,ab.out _ HU.out⟩
   have p1:¬ (16:Int)<(gn:Int):=by omega
   have h:=ay.out
   rw[if_neg aA] at h
   have aB:=zh h
   clear h
   clear ay aA
   go_wp2_with fail
   clear c0 c1 c2 c3 c4 c5 p1
   go_loopw [3,5] (fun e i ws=>∃ j:Nat,j<=gn/\e=.int .i64 0/\i=.int .i64 j/\Hid (givesE (prov.drop j)=x4)/\Hid (Below W1.heap.size W1 ws)) (fun _ i _=>gn-(intOf i).toNat)
   case atStart=>exact⟨0,Nat.zero_le _,rfl,rfl,aQ.out,HU.out⟩
   case round =>
    clear HU
    obtain⟨k,hk,rfl,rfl,HH,HW⟩:=hrel
    obtain⟨c0,c1,c2,c3,c4,c5⟩:=HY.out _ HW.out
    by_cases aF:k<gn
    ·have ae:k<prov.length:=by rw[aO.out];exact aF
     obtain⟨ad,rfl,hc⟩:=b8 HG.out k ae
     obtain⟨q0,q1⟩:=hc _ HW.out
     have al:prov.drop k=prov[k] :: prov.drop (k+1):=List.drop_eq_getElem_cons ae
     obtain⟨f1,f2⟩:=wU aX.out k ae
     have hh:=HH.out
     rw[al,mw] at hh
     obtain⟨a,ha⟩:=ex (prov[k])
     rw[ha] at q0 q1 f1 hh
     obtain⟨aE,gv⟩:=a
     dsimp only at q0 q1 f1
     have am:=zh (iz aE wr f1)
     have aC:=zh (i9 gv wr)
     have aa:=zh hh
     clear hc al ha f1 f2 hh HH
     obtain⟨bn,an⟩:=ex (nameB aE)
     rw[an] at am
     cases bn
     ·have HE:Hid (R=3):=by
       have hh:=aa.out
       rw[show giveE ⟨aE,gv⟩=3 from by unfold giveE;rw[an,if_neg (by decide)],if_neg (by decide)] at hh
       have h:=aB.out
       rw[<-hh,if_pos (by decide)] at h;exact h.symm
      clear an aa
      go_wp2_with fail
      refine am.out.mono ?_
      rintro _ z ⟨rfl,rfl⟩
      go_wp2_with fail
      go_ret
      exact⟨by rw[HE.out];rfl,ab.out _ HW.out⟩
     have aD:Hid (giveE ⟨aE,gv⟩=if gv=[] then 0 else verE gv):=by show giveE _=_;unfold giveE;rw[an,if_pos rfl]
     clear an
     by_cases ag:gv=[]
     ·have HE:Hid (givesE (prov.drop (k+1))=x4):=by
       have hh:=aa.out
       rw[aD.out,if_pos ag,if_pos rfl] at hh;exact hh
      subst ag
      clear aa aD aC
      go_wp2_with fail
      refine am.out.mono ?_
      rintro _ z ⟨rfl,rfl⟩
      go_wp2_with fail
      go_roundw
      case rel=>exact⟨k+1,by omega,rfl,by go_num,HE,HW⟩
      case measure=>simp[intOf];omega
     have e0:(gv==[])=false:=beq_eq_false_iff_ne.2 ag
     have e1:gv.isEmpty=false:=by cases gv with
      | nil=>exact absurd rfl ag
      | cons _ _=>rfl
     obtain⟨y,hy⟩:=ex (verE gv)
     have ac:Hid ((if y=0 then givesE (prov.drop (k+1)) else y)=x4):=by
      have hh:=aa.out
      rw[aD.out,if_neg ag,hy] at hh;exact hh
     rw[hy] at aC
     clear hy aa aD ag
     go_wp2_with fail
     refine am.out.mono ?_
     rintro _ z ⟨rfl,rfl⟩
     go_wp2_with fail
     refine aC.out.mono ?_
     rintro _ u2 ⟨rfl,hb⟩
     have HU:=zh (bt HW.out hb)
     clear hb c0 c1 c2 c3 c4 c5 q0 q1 aC am
     by_cases h0:y=0
     ·subst h0
      have HE:Hid (givesE (prov.drop (k+1))=x4):=by have:=ac.out;rw[if_pos rfl] at this;exact this
      clear ac
      go_wp2_with fail
      go_roundw
      case rel=>exact⟨k+1,by omega,rfl,by go_num,HE,HU⟩
      case measure=>simp[intOf];omega
     ·have HE:Hid (R=y):=by
       have hh:=ac.out
       rw[if_neg h0] at hh
       have h:=aB.out
       rw[<-hh,if_pos h0] at h;exact h.symm
      clear ac
      go_wp2_with fail
      go_ret
      exact⟨by rw[HE.out];rfl,ab.out _ HU.out⟩
    ·obtain rfl:k=gn:=by omega
     have HE:Hid (x5=R):=by
      have h2:0=x4:=by rw[<-HH.out,List.drop_eq_nil_of_le (by rw[aO.out];exact Nat.le_refl _)];rfl
      have h:=aB.out
      rw[<-h2,if_neg (by simp)] at h;exact h
     have HA:=zh (rz wt aY.out wr)
     rw[a0.out,HE.out] at HA
     clear aB HH aQ HE
     go_wp2_with fail
     refine HA.out.mono ?_
     rintro _ u2 ⟨rfl,rfl⟩
     go_wp2_with fail
     go_ret
     exact⟨rfl,ab.out _ HW.out⟩
end
end Go.Proofs.YtpfkphmldalmmaaGreatDoor
