/- Part 34 of what the laws lean on. -/
import Derived.Test.YtpfkphmldalmmaaGreatDoorL33
set_option maxRecDepth 100000
set_option maxHeartbeats 12800000
namespace Go.Proofs.YtpfkphmldalmmaaGreatDoor
section
open Go.RowKit Rs At Pg
attribute [local go_sem ↓] Go.wp_at_zero Go.wp_at_succ
attribute [local go_sem] Pg.bd
namespace Pg
theorem l9 {u:World}(hk:KOk u)(A:Option Addr)(n c:Nat)(l:List Sz.Fld)(hn:l.length=n)(hr:Rg.Row Sz.encF 3 u A l)(hl:n<=1000)(hs:Sz.Short l)(hv:∀ f∈l,ValFit f.key f.val){k i:Int}{p:Pk}(hX:fromP l=(k,i,p)){nm vr:List UInt8}{dn cn gn wt:Nat}(e0:p.name=nm)(e1:p.ver=vr)(e2:p.deps.length=dn)(e3:p.confl.length=cn)(e4:p.prov.length=gn)(e5:p.wt=wt) :
  Calls Tryz.prog 12 #[.slice A n c] u fun e w'=>∃ D dc C cc G gc,e=.returned (.tuple #[.agg #[.string ⟨nm.toArray⟩,.string ⟨vr.toArray⟩,.slice D dn dc,.slice C cn cc,.slice G gn gc,.float .f64 wt],.int .i64 i,.int .i64 k])/\Pg.DRow w' D p.deps/\ARow w' C p.confl/\GRow w' G p.prov/\Below u.heap.size u w' :=
 (vX A n c l u hk hn hr hl hs hv).mono fun e w' ⟨hb,D,dc,C,cc,G,gc,he,hr⟩=>by
  rw[hX] at he hr
  dsimp only at he hr
  subst e0 e1 e2 e3 e4 e5
  exact⟨D,dc,C,cc,G,gc,he,ly hr.1.1,hr.2.1.1,hr.2.2.1,hb⟩
theorem uu {u:World}(hw:MaxOk u)(p:Pk)(D C G:Option Addr)(dn dc cn cc gn gc:Nat)(hd:Pg.DRow u D p.deps)(hdn:p.deps.length=dn)(hc:ARow u C p.confl)(hcn:p.confl.length=cn)(hg:GRow u G p.prov)(hgn:p.prov.length=gn)(hf:PFew p){nm vr:List UInt8}{wt:Nat}(e0:p.name=nm)(e1:p.ver=vr)(e5:p.wt=wt){k:Int}(hk:checkP p=k) :
  Calls Tryz.prog 7 #[.agg #[.string ⟨nm.toArray⟩,.string ⟨vr.toArray⟩,.slice D dn dc,.slice C cn cc,.slice G gn gc,.float .f64 wt]] u fun e w'=>e=.returned (.int .i64 k)/\Below u.heap.size u w':=by
 subst e0 e1 e5 hk
 exact tH p D C G dn dc cn cc gn gc u hw hd hdn hc hcn hg hgn hf
theorem xq {u:World}(p:Pk)(D C G:Option Addr)(dn dc cn cc gn gc:Nat)(q:Pk)(D' C' G':Option Addr)(dn' dc' cn' cc' gn' gc':Nat)(hd:Pg.DRow u D p.deps)(hdn:p.deps.length=dn)(hc:ARow u C p.confl)(hcn:p.confl.length=cn)(hg:GRow u G p.prov)(hgn:p.prov.length=gn)(hf:PFew p)(hd':Pg.DRow u D' q.deps)(hdn':q.deps.length=dn')(hc':ARow u C' q.confl)(hcn':q.confl.length=cn')(hg':GRow u G' q.prov)(hgn':q.prov.length=gn')(hf':PFew q){nm vr nm' vr':List UInt8}{wt wt':Nat}(e0:p.name=nm)(e1:p.ver=vr)(e5:p.wt=wt)(e0':q.name=nm')(e1':q.ver=vr')(e5':q.wt=wt'){b:Bool}(hb:samP p q=b) :
  Calls Tryz.prog 9 #[.agg #[.string ⟨nm.toArray⟩,.string ⟨vr.toArray⟩,.slice D dn dc,.slice C cn cc,.slice G gn gc,.float .f64 wt],.agg #[.string ⟨nm'.toArray⟩,.string ⟨vr'.toArray⟩,.slice D' dn' dc',.slice C' cn' cc',.slice G' gn' gc',.float .f64 wt']] u fun e w'=>e=.returned (.bool b)/\Below u.heap.size u w':=by
 subst e0 e1 e5 e0' e1' e5' hb
 exact wa p q D C G D' C' G' dn dc cn cc gn gc dn' dc' cn' cc' gn' gc' u hd hdn hc hcn hg hgn hf hd' hdn' hc' hcn' hg' hgn' hf'
theorem jX {u:World}(hw:MaxOk u)(p:Pk)(D C G:Option Addr)(dn dc cn cc gn gc:Nat)(nm:List UInt8)(B:Option Addr)(m d:Nat)(r:List Sp)(hg:GRow u G p.prov)(hgn:p.prov.length=gn)(hgl:gn<=1000000)(ho:∀ g∈p.prov,g.ver=[]\/Vm.check g.ver=0)(hv:Vm.check p.ver=0)(hm:r.length=m)(hq:SRow u B r)(hm2:m<=64)(hk:checkR r=0){pn vr:List UInt8}{wt:Nat}(e0:p.name=pn)(e1:p.ver=vr)(e5:p.wt=wt){b:Bool}(hb:metP p ⟨nm,r⟩=b) :
  Calls Tryz.prog 20 #[.agg #[.string ⟨pn.toArray⟩,.string ⟨vr.toArray⟩,.slice D dn dc,.slice C cn cc,.slice G gn gc,.float .f64 wt],.agg #[.string ⟨nm.toArray⟩,.slice B m d]] u fun e w'=>e=.returned (.bool b)/\Below u.heap.size u w':=by
 subst e0 e1 e5 hb
 exact uj p D C G dn dc cn cc gn gc nm B m d r u hw hg hgn hgl ho hv hm hq hm2 hk
theorem acQ {u:World}(hk:KOk u)(p:Pk)(D C G:Option Addr)(dn dc cn cc gn gc:Nat)(hd:Pg.DRow u D p.deps)(hdn:p.deps.length=dn)(hc:ARow u C p.confl)(hcn:p.confl.length=cn)(hg:GRow u G p.prov)(hgn:p.prov.length=gn)(ht:PTxt p){nm vr:List UInt8}{wt:Nat}(e0:p.name=nm)(e1:p.ver=vr)(e5:p.wt=wt){n:Nat}(hn:(toPk p).length=n) :
  Calls Tryz.prog 11 #[.agg #[.string ⟨nm.toArray⟩,.string ⟨vr.toArray⟩,.slice D dn dc,.slice C cn cc,.slice G gn gc,.float .f64 wt]] u fun e w'=>∃ A c,e=.returned (.slice A n c)/\Rg.Row Sz.encF 3 w' A (toPk p)/\Below u.heap.size u w':=by
 subst e0 e1 e5
 refine (aaI p D C G dn dc cn cc gn gc u hk hd hdn hc hcn hg hgn ht).mono ?_
 rintro e w' ⟨A,m,c,rfl,hm,hr,hb⟩
 rw[hn] at hm
 subst hm
 exact⟨A,c,rfl,hr,hb⟩
theorem ad5 {u:World}(hw:MaxOk u)(A:Option Addr)(n c:Nat)(d:List Atm)(hn:d.length=n)(hr:ARow u A d)(hl:n<=1000)(hg:ATxt d){t:List UInt8}(ht:depT d=t)(hj:t.length<=1000000):Calls Tryz.prog 18 #[.slice A n c] u fun e w'=>e=.returned (.string ⟨t.toArray⟩)/\Below u.heap.size u w':=by
 subst ht
 exact mE A n c d u hw hn hr hl hg hj
theorem aaK (u:World):Calls Tryz.prog 21 #[] u fun e w'=>∃ C d,e=.returned (.slice C 1 d)/\SRow w' C allS/\Below u.heap.size u w' :=
 (pA u).mono fun _ _ ⟨⟨C,d,he,hr,_,_⟩,hb⟩=>⟨C,d,he,hr,hb⟩
theorem gL {P:Program}{id:Nat}{L:Array Oper}{b:Bool}{Q:Exit->Act->World->Prop}{a:Act}{w:World}(h:∀ ops,L=ops->(Code.region id ops b).wp P Q a w):(Code.region id L b).wp P Q a w:=h L rfl
section
variable {P:Program} {ops:Array Oper} {L:List Oper} {md:Region.Mode} {Q:Exit->Act->World->Prop} {S:World->Prop} {fuel:Nat} {listed:Array Bool} {a:Act} {w:World}
theorem take_at (hL:L.toArray=ops)(i:Nat){oi:Oper}{v:Value}(hi:L[i]?=some oi)(hs:Region.noSelect ops=true)(hf:Region.free md L.toArray listed i=true)(hr:(Region.ready md L.toArray listed).contains i=true)
  (hQ:∀ c a w,Q (.panic c) (a.put oi.dst v) w->Q (.panic c) a w) (hw:Region.wanted oi (yielded L.toArray a.tmps)=true) (hS:S w) (hy:∀ w,S w->(execOp a.eval oi).run P w=.ok (.value v) w)
  (h:wpAnyH P md ops Q S fuel (listed.setIfInBounds i true) (a.put oi.dst v) w):wpAnyH P md ops Q S (fuel+1) listed a w:=by
 subst hL
 exact wpAnyH_take (by simpa using hi) hs hf hr hQ (Or.inl ⟨hw,hy⟩) hS h
theorem mvS {α:Type}:(∀ (l:List α) (i:Nat) (v:α),l.toArray.setIfInBounds i v=(l.set i v).toArray)/\(∀ (x v:α) (l:List α),(x :: l).set 0 v=v :: l)/\∀ (x v:α) (l:List α) (n:Nat),(x :: l).set (n+1) v=x :: l.set n v:=⟨fun _ _ _=>List.setIfInBounds_toArray ..,fun _ _ _=>List.set_cons_zero,fun _ _ _ _=>List.set_cons_succ⟩
theorem mv (hS:S w)(hL:L.toArray=ops)(hs:Region.noSelect ops=true)(i:Nat){oi:Oper}{v:Value}(h:wpAnyH P md ops Q S fuel (listed.setIfInBounds i true) (a.put oi.dst v) w)
  (hi:L[i]?=some oi:=by rfl) (hf:Region.free md L.toArray listed i=true:=by kernel_rfl) (hr:(Region.ready md L.toArray listed).contains i=true:=by kernel_rfl) (hQ:∀ c a w,Q (.panic c) (a.put oi.dst v) w->Q (.panic c) a w:=by exact fun _ _ _ h=>h) (hw:Region.wanted oi (yielded L.toArray a.tmps)=true:=by rfl)
  (hy:∀ w,S w->(execOp a.eval oi).run P w=.ok (.value v) w:=by (intro w aa;(try dsimp only at aa);go_simp;(try with_reducible rfl))):wpAnyH P md ops Q S (fuel+1) listed a w:=take_at hL i hi hs hf hr hQ hw hS hy h
theorem aU (hL:L.toArray=ops)(i:Nat){oi:Oper}(hi:L[i]?=some oi)(hr:Region.ready md L.toArray listed=[i])(hw:Region.wanted oi (yielded L.toArray a.tmps)=true)
  (h:∀ K:Act->World->Prop,Shut (∀ a w,S w->(S w->wpAnyH P md ops Q S fuel (listed.setIfInBounds i true) a w)->K a w)->Oper.wp P oi a w K Q):wpAnyH P md ops Q S (fuel+1) listed a w:=by
 subst hL
 refine wpAnyH_ready (rs:=[i]) hr (by simp) (AllReadyH.cons (by simpa using hi) (fun K hK=>?_) AllReadyH.nil)
 rw[if_pos hw]
 exact h K hK
theorem iZ (hL:L.toArray=ops)(hr:Region.ready md L.toArray listed=[])(h:Q .normal a w):wpAnyH P md ops Q S fuel listed a w:=by
 subst hL
 exact wpAnyH_done hr h fuel
theorem pU (hL:L.toArray=ops){n:Nat}(h:L.length=n):ops.size=n:=by subst hL;simpa using h
theorem nr (hL:L.toArray=ops)(h:Region.noSelect L.toArray=true):Region.noSelect ops=true:=by subst hL;exact h
end
theorem acB (A:Option Addr)(n c:Nat){w:World}(l:List Sz.Fld)(T:TypeId)(h:Rg.Row Sz.encF 3 w A l)(hn:l.length=n):Gr.Row Sz.encF 3 (w.alloc (.cells #[.slice A n c] T)) (some ⟨w.heap.size,0,none⟩) [l]:=by
 refine⟨[(A,n,c)],Rg.pQ fitsO w T [((A,n,c):Desc)] _ rfl rfl,rfl,fun i d m e1 e2=>?_⟩
 match i with
 | 0=>cases e1;cases e2;exact⟨hn.symm,Rg.ak h ((Below.refl _ _).alloc (Nat.le_refl _) _)⟩
 | i+1=>simp at e1
theorem acC {α:Type}{enc:α->List Value}{K:Nat}{w:World}{A:Option Addr}{l:List α}(h:Rg.Row enc K w A l)(n:Nat):Rg.Row enc K w A (l.take n):=fun h0=>by
 have hl:(l.take n).length<=l.length:=by rw[List.length_take];omega
 obtain⟨a,e,hb,hc⟩:=h (by omega)
 refine⟨a,e,hb,fun i hi=>?_⟩
 rw[List.getElem_take]
 exact hc i (by omega)
end Pg
theorem Pg.acD {w:World}(hw:MaxOk w):Calls Tryz.prog 17 #[.string ⟨[80,97,99,107,97,103,101,58,32,97,112,112,10,86,101,114,115,105,111,110,58,32,49,46,48,48,10,68,101,112,101,110,100,115,58,32,108,105,98,32,40,62,61,32,50,41,32,111,114,32,97,108,116,59,32,120,10,80,114,111,118,105,100,101,115,58,32,116,111,111,108,59,32,111,108,100,32,61,32,48,49,10,87,101,105,103,104,116,58,32,51,112,45,49,10].toArray⟩] w fun e w'=>∃ ad c C0 d0,e=.returned (.tuple #[.slice (some ad) 1 c,.int .i64 0,.int .i64 0])/\5<=d0/\Rg.Row Sz.encF 3 w' C0 f6/\(∀ u,Below w'.heap.size w' u->u.cell? ad=some (.slice C0 5 d0))/\Below w.heap.size w w' :=
 (oN _ w hw).mono fun e w' ⟨A,c,he,⟨ds,h1,h2,h3⟩,hb⟩=>by
  rw[k6a] at he h2
  have hl:ds.length=1:=h2.1
  obtain⟨ad,x,e,hx,hlt,hc⟩:=Rg.cW h1 0 (by omega)
  obtain⟨q1,q2⟩:=h2.2 0 x f6 (by rw[List.getElem?_eq_getElem (by omega),hx]) rfl
  have hcap:=h3 x (by rw[<-hx];exact List.getElem_mem _)
  obtain⟨C0,n0,d0⟩:=x
  have e5:n0=5:=q1
  subst e5 e
  have c0:=hc 0 _ rfl
  rw[if_pos rfl,Nat.zero_mul,Rg.add_zero] at c0
  exact⟨ad,c,C0,d0,he,hcap,q2,fun u hu=>(hu.cell (dv c0)).trans c0,hb⟩
theorem yE (w:World)(hk:KOk w):Calls Tryz.prog 4 #[] w fun e w'=>e=.returned (.bool true)/\Below w.heap.size w w':=by
 have HK:=zh hk
 have aS:Hid (PTxt p6):=qW k6h.1 (by decide +kernel)
 have aI:Hid (PFew p6):=aaJ k6h.1 (by decide +kernel)
 have ag:Hid (Vm.check p6.ver=0/\∀ g∈p6.prov,g.ver=[]\/Vm.check g.ver=0):=wb k6h.1
 have ax:Hid (Sz.Short f6/\Sz.Short [⟨kPkg,[97,112,112],0⟩]/\Sz.Short [⟨kPkg,[97],0⟩,⟨kVer,[49],0⟩,⟨kWei,[110,97,110],0⟩]):=⟨Sz.nq (by decide +kernel),Sz.nq (by decide +kernel),Sz.nq (by decide +kernel)⟩
 have ay:Hid ((∀ f∈f6,f.val.length<=1000)/\(∀ f∈[(⟨kPkg,[97,112,112],0⟩:Sz.Fld)],f.val.length<=1000)/\∀ f∈[(⟨kPkg,[97],0⟩:Sz.Fld),⟨kVer,[49],0⟩,⟨kWei,[110,97,110],0⟩],f.val.length<=1000):=⟨by decide +kernel,by decide +kernel,by decide +kernel⟩
 have o1:=Wm.gE 4609434218613702656 (by decide)
 rw[show Wm.nan 4609434218613702656=false from by decide +kernel] at o1
 clear hk
 go_enter Tryz.func4,Tryz.ntmps4
 go_wp2_with fail
 refine (acD HK.out.1).mono ?_
 rintro _ u1 ⟨ad,c,C0,d0,rfl,aw,hr,aO,hb⟩
 have aT:=zh hb
 have aJ:=zh hr
 have aV:=zh aO
 have aW:Hid (KOk u1):=aX HK.out hb
 have ao:=zh aw
 have q0:=aO _ (Below.refl _ _)
 clear hb hr aO aw
 go_wp2_with fail
 refine (l9 aW.out C0 5 d0 f6 rfl aJ.out (by decide) ax.out.1 (fun f h=>gJ (ay.out.1 f h)) k6b (nm:=[97,112,112]) (vr:=[49,46,48]) (dn:=2) (cn:=0) (gn:=2) (wt:=4609434218613702656) rfl rfl rfl rfl rfl rfl).mono ?_
 rintro _ u2 ⟨D,dc,C,cc,G,gc,rfl,hd,hc,hg,hb⟩
 have bo:=zh hb
 have aY:=zh hd
 have aZ:=zh hc
 have a0:=zh hg
 clear hb hd hc hg q0
 obtain⟨W4,aP⟩:=ex (u2.alloc (.cells #[.string ⟨#[97,112,112]⟩,.string ⟨#[49,46,48]⟩,.slice D 2 dc,.slice C 0 cc,.slice G 2 gc,.float .f64 4609434218613702656] 34))
 have ap:Below u2.heap.size u2 W4:=ai aP
 have aA:Hid (Below u1.heap.size u1 W4):=bt bo.out ap
 have a1:Hid (KOk W4):=aX aW.out aA.out
 have aK:Hid (Pg.DRow W4 D p6.deps):=drowD_below aY.out ap
 have aq:Hid (ARow W4 C p6.confl):=au aZ.out ap
 have aL:Hid (GRow W4 G p6.prov):=Rg.ak a0.out ap
 obtain⟨b4,bc⟩:=ex u2.heap.size
 have HY:=zh (fun W (h:Below W4.heap.size W4 W)=>az aP h)
 rw[bc] at HY
 obtain⟨ae,C1,n1,c1,rfl,bw,bd,aQ⟩:=bT aK.out 0 (by decide)
 obtain rfl:(2:Nat)=n1:=bw
 have aM:Hid (ARow W4 C1 d60):=bd
 obtain⟨af,CA,nA,cA,rfl,bx,be,aR⟩:=bM aM.out 0 (by decide)
 obtain rfl:(1:Nat)=nA:=bx
 have a2:Hid (SRow W4 CA [⟨[50],[],true,false⟩]):=be
 obtain⟨ac,rfl,bf⟩:=b8 aL.out 1 (by decide)
 rw[Rg.add_zero] at aQ
 rw[Nat.zero_mul,Rg.add_zero] at aR
 have a3:Hid (∀ u,Below W4.heap.size W4 u->u.cell? ae=some (.slice (some af) 2 c1)):=aQ
 have bp:Hid (∀ u,Below W4.heap.size W4 u->u.cell? af=some (.string ⟨#[108,105,98]⟩)/\u.cell? ⟨af.block,af.off+1,none⟩=some (.slice CA 1 cA)):=aR
 have bq:Hid (∀ u,Below W4.heap.size W4 u->u.cell? ⟨ac.block,ac.off+2+1,none⟩=some (.string ⟨#[49]⟩)):=fun u h=>(bf u h).2
 clear ap bd aQ be aR bf
 have HQ:Hid (∀ u,Below W4.heap.size W4 u->KOk u/\Pg.DRow u (some ae) p6.deps/\ARow u C p6.confl/\GRow u (some ac) p6.prov/\ARow u (some af) d60/\SRow u CA [⟨[50],[],true,false⟩]/\Rg.Row Sz.encF 3 u C0 f6):=fun u h=>⟨aX a1.out h,drowD_below aK.out h,au aq.out h,Rg.ak aL.out h,au aM.out h,an a2.out h,Rg.ak aJ.out (bt aA.out h)⟩
 clear aY aZ a0 aK aq aL aM a2 a1
 have HB:Hid (Below W4.heap.size W4 W4):=Below.refl _ _
 obtain⟨y0,y1,y2,y3,y4,y5⟩:=HY.out _ HB.out
 have q0:=aV.out _ aA.out
 have q1:=a3.out _ HB.out
 have ar:1<=d0:=by have:=ao.out;omega
 go_wp2_with fail
 clear aP bc ar
 refine (l9 (HQ.out _ HB.out).1 C0 1 d0 [⟨kPkg,[97,112,112],0⟩] rfl (acC (HQ.out _ HB.out).2.2.2.2.2.2 1) (by decide) ax.out.2.1 (fun f h=>gJ (ay.out.2.1 f h)) k6c (nm:=[]) (vr:=[]) (dn:=0) (cn:=0) (gn:=0) (wt:=0) rfl rfl rfl rfl rfl rfl).mono ?_
 rintro _ u5 ⟨D5,aF,C5,aG,G5,aH,rfl,_,_,_,hb⟩
 have a4:Hid (Below W4.heap.size W4 u5):=hb
 clear hb y0 y1 y2 y3 y4 y5 q0 q1
 have a5:Hid (Below W4.heap.size W4 (u5.alloc (.cells #[.string ⟨#[]⟩,.string ⟨#[]⟩,.slice D5 0 aF,.slice C5 0 aG,.slice G5 0 aH,.float .f64 0] 34))):=Sz.iD a4.out (Nat.le_refl _) _
 have aN:Hid (Below W4.heap.size W4 ((u5.alloc (.cells #[.string ⟨#[]⟩,.string ⟨#[]⟩,.slice D5 0 aF,.slice C5 0 aG,.slice G5 0 aH,.float .f64 0] 34)).alloc (.cells #[.string ⟨#[80,97,99,107,97,103,101]⟩,.string ⟨#[97]⟩,.int .i64 0,.string ⟨#[86,101,114,115,105,111,110]⟩,.string ⟨#[49]⟩,.int .i64 0,.string ⟨#[87,101,105,103,104,116]⟩,.string ⟨#[110,97,110]⟩,.int .i64 0] 56))):=Sz.iD a5.out (Nat.le_refl _) _
 have a6:Hid (Rg.Row Sz.encF 3 ((u5.alloc (.cells #[.string ⟨#[]⟩,.string ⟨#[]⟩,.slice D5 0 aF,.slice C5 0 aG,.slice G5 0 aH,.float .f64 0] 34)).alloc (.cells #[.string ⟨#[80,97,99,107,97,103,101]⟩,.string ⟨#[97]⟩,.int .i64 0,.string ⟨#[86,101,114,115,105,111,110]⟩,.string ⟨#[49]⟩,.int .i64 0,.string ⟨#[87,101,105,103,104,116]⟩,.string ⟨#[110,97,110]⟩,.int .i64 0] 56)) (some ⟨u5.heap.size+1,0,none⟩) [⟨kPkg,[97],0⟩,⟨kVer,[49],0⟩,⟨kWei,[110,97,110],0⟩]):=Rg.pQ Sz.fitsF _ 56 _ _ rfl (by simp)
 obtain⟨b6,bg⟩:=ex (u5.heap.size+1)
 rw[bg] at a6
 go_wp2_with fail
 clear a5 bg
 generalize (u5.alloc (.cells #[.string ⟨#[]⟩,.string ⟨#[]⟩,.slice D5 0 aF,.slice C5 0 aG,.slice G5 0 aH,.float .f64 0] 34)).alloc (.cells #[.string ⟨#[80,97,99,107,97,103,101]⟩,.string ⟨#[97]⟩,.int .i64 0,.string ⟨#[86,101,114,115,105,111,110]⟩,.string ⟨#[49]⟩,.int .i64 0,.string ⟨#[87,101,105,103,104,116]⟩,.string ⟨#[110,97,110]⟩,.int .i64 0] 56)=W7 at *
 refine (l9 (HQ.out _ aN.out).1 (some ⟨b6,0,none⟩) 3 3 _ rfl a6.out (by decide) ax.out.2.2 (fun f h=>gJ (ay.out.2.2 f h)) k6d (nm:=[]) (vr:=[]) (dn:=0) (cn:=0) (gn:=0) (wt:=0) rfl rfl rfl rfl rfl rfl).mono ?_
 rintro _ u8 ⟨D8,bh,C8,bi,G8,bj,rfl,_,_,_,hb⟩
 have a7:Hid (Below W4.heap.size W4 u8):=bt aN.out hb
 clear hb
 have br:Hid (Below W4.heap.size W4 (u8.alloc (.cells #[.string ⟨#[]⟩,.string ⟨#[]⟩,.slice D8 0 bh,.slice C8 0 bi,.slice G8 0 bj,.float .f64 0] 34))):=Sz.iD a7.out (Nat.le_refl _) _
 go_wp2_with fail
 generalize u8.alloc (.cells #[.string ⟨#[]⟩,.string ⟨#[]⟩,.slice D8 0 bh,.slice C8 0 bi,.slice G8 0 bj,.float .f64 0] 34)=W9 at *
 have aB:Hid (Below W4.heap.size W4 W9.drew):=br.out.drew
 have HS:Hid (∀ u,Below W4.heap.size W4 u->u.cell? ⟨b4,0,none⟩=some (.string ⟨#[97,112,112]⟩)/\u.cell? ⟨b4,1,none⟩=some (.string ⟨#[49,46,48]⟩)/\u.cell? ⟨b4,2,none⟩=some (.slice (some ae) 2 dc)/\u.cell? ⟨b4,3,none⟩=some (.slice C 0 cc)/\u.cell? ⟨b4,4,none⟩=some (.slice (some ac) 2 gc)/\u.cell? ⟨b4,5,none⟩=some (.float .f64 4609434218613702656)/\u.cell? ae=some (.slice (some af) 2 c1)/\u.cell? af=some (.string ⟨#[108,105,98]⟩)/\u.cell? ⟨af.block,af.off+1,none⟩=some (.slice CA 1 cA)/\u.cell? ⟨ac.block,ac.off+2+1,none⟩=some (.string ⟨#[49]⟩)):=fun u h=>by
  obtain⟨y0,y1,y2,y3,y4,y5⟩:=HY.out u h
  obtain⟨r0,r1⟩:=bp.out u h
  exact⟨y0,y1,y2,y3,y4,y5,a3.out u h,r0,r1,bq.out u h⟩
 have o2:(FloatKind.f64.format.order 4609434218613702656 4609434218613702656==some .eq)=true:=by
  cases h:(FloatKind.f64.format.order 4609434218613702656 4609434218613702656==some .eq)
  ·rw[bne,h] at o1;cases o1
  ·rfl
 clear o1 a4 a7 aN ao aV aJ ay ax
 dsimp only[List.append]
 refine gL (fun ops hops=>?_)
 have aa:=zh hops
 have ab:=zh (nr hops (by kernel_rfl))
 have a8:=pU hops (n:=91) (by rfl)
 clear hops
 refine wp_region_held_drew (S:=fun u=>u.cell? ⟨b4,0,none⟩=some (.string ⟨#[97,112,112]⟩)/\u.cell? ⟨b4,1,none⟩=some (.string ⟨#[49,46,48]⟩)/\u.cell? ⟨b4,2,none⟩=some (.slice (some ae) 2 dc)/\u.cell? ⟨b4,3,none⟩=some (.slice C 0 cc)/\u.cell? ⟨b4,4,none⟩=some (.slice (some ac) 2 gc)/\u.cell? ⟨b4,5,none⟩=some (.float .f64 4609434218613702656)/\u.cell? ae=some (.slice (some af) 2 c1)/\u.cell? af=some (.string ⟨#[108,105,98]⟩)/\u.cell? ⟨af.block,af.off+1,none⟩=some (.slice CA 1 cA)/\u.cell? ⟨ac.block,ac.off+2+1,none⟩=some (.string ⟨#[49]⟩)) (by kernel_rfl) ?_ (fun hH0=>?_)
 ·exact HS.out _ aB.out
 rw[a8]
 clear a8
 refine mv (by assumption) aa.out ab.out 0 ?_
 try simp only[Act.put,mvS]
 refine mv (by assumption) aa.out ab.out 1 ?_
 try simp only[Act.put,mvS]
 refine mv (by assumption) aa.out ab.out 2 ?_
 try simp only[Act.put,mvS]
 refine mv (by assumption) aa.out ab.out 3 ?_
 try simp only[Act.put,mvS]
 refine mv (by assumption) aa.out ab.out 4 ?_
 try simp only[Act.put,mvS]
 refine mv (by assumption) aa.out ab.out 5 ?_
 try simp only[Act.put,mvS]
 refine mv (by assumption) aa.out ab.out 6 ?_
 try simp only[Act.put,mvS]
 refine mv (by assumption) aa.out ab.out 7 ?_
 try simp only[Act.put,mvS]
 refine mv (by assumption) aa.out ab.out 8 ?_
 try simp only[Act.put,mvS]
 refine mv (by assumption) aa.out ab.out 9 ?_
 try simp only[Act.put,mvS]
 refine mv (by assumption) aa.out ab.out 10 ?_
 try simp only[Act.put,mvS]
 refine mv (by assumption) aa.out ab.out 11 ?_
 try simp only[Act.put,mvS]
 refine mv (by assumption) aa.out ab.out 12 ?_
 try simp only[Act.put,mvS]
 refine mv (by assumption) aa.out ab.out 13 ?_
 try simp only[Act.put,mvS]
 refine mv (by assumption) aa.out ab.out 14 ?_
 try simp only[Act.put,mvS]
 refine mv (by assumption) aa.out ab.out 15 ?_
 try simp only[Act.put,mvS]
 refine mv (by assumption) aa.out ab.out 16 ?_
 try simp only[Act.put,mvS]
 refine mv (by assumption) aa.out ab.out 17 ?_
 try simp only[Act.put,mvS]
 refine mv (by assumption) aa.out ab.out 18 ?_
 try simp only[Act.put,mvS]
 refine mv (by assumption) aa.out ab.out 19 ?_
 try simp only[Act.put,mvS]
 refine mv (by assumption) aa.out ab.out 20 ?_
 try simp only[Act.put,mvS]
 refine mv (by assumption) aa.out ab.out 21 ?_
 try simp only[Act.put,mvS]
 refine mv (by assumption) aa.out ab.out 22 ?_
 try simp only[Act.put,mvS]
 refine mv (by assumption) aa.out ab.out 23 ?_
 try simp only[Act.put,mvS]
 refine mv (by assumption) aa.out ab.out 24 ?_
 try simp only[Act.put,mvS]
 refine aU aa.out 25 rfl (by kernel_rfl) (by rfl) (fun K hK=>?_)
 go_simp
 go_at_call 18;refine (ad5 (HQ.out _ aB.out).1.1 (some af) 2 c1 d60 rfl (HQ.out _ aB.out).2.2.2.2.1 (by decide) (aS.out.2.2.2.1 d60 (List.mem_cons_self ..)).2.1 k6e (by decide)).mono ?_;rintro _ zb ⟨rfl,hz⟩;have al:Hid (Below W4.heap.size W4 zb):=bt aB.out hz;clear hz
 refine hK.out _ _ ?_ (fun hH1=>?_)
 ·exact HS.out _ al.out
 clear hK K hH0
 try simp only[Act.put,mvS]
 as_aux_lemma =>
  refine mv (by assumption) aa.out ab.out 26 ?_
  try simp only[Act.put,mvS]
  refine mv (by assumption) aa.out ab.out 27 ?_
  try simp only[Act.put,mvS]
  refine mv (by assumption) aa.out ab.out 28 ?_
  try simp only[Act.put,mvS]
  refine mv (by assumption) aa.out ab.out 29 ?_
  try simp only[Act.put,mvS]
  refine aU aa.out 30 rfl (by kernel_rfl) (by rfl) (fun K hK=>?_)
  go_simp
  go_at_call 11;refine (acQ (HQ.out _ al.out).1 p6 (some ae) C (some ac) 2 dc 0 cc 2 gc (HQ.out _ al.out).2.1 rfl (HQ.out _ al.out).2.2.1 rfl (HQ.out _ al.out).2.2.2.1 rfl aS.out rfl rfl rfl (n:=5) (by decide +kernel)).mono ?_;rintro _ zc ⟨At,ct,rfl,bk,hz⟩;have aj:Hid (Below W4.heap.size W4 zc):=bt al.out hz;have bs:=zh bk;clear bk;clear hz
  refine hK.out _ _ ?_ (fun hH2=>?_)
  ·exact HS.out _ aj.out
  clear hK K hH1
  try simp only[Act.put,mvS]
  as_aux_lemma =>
   refine aU aa.out 31 rfl (by kernel_rfl) (by rfl) (fun K hK=>?_)
   go_simp
   refine hK.out _ _ ?_ (fun hH3=>?_)
   ·exact HS.out _ (aj.out.alloc aj.out.size _)
   clear hK K hH2
   try simp only[Act.put,mvS]
   refine aU aa.out 32 rfl (by kernel_rfl) (by rfl) (fun K hK=>?_)
   go_simp
   go_at_call 19;refine (Sz.acy (some ⟨zc.heap.size,0,none⟩) 1 1 [toPk p6] rfl (acB At 5 ct (toPk p6) 42 bs.out (by decide +kernel)) (by decide) (by decide +kernel) k6f (by decide)).mono ?_;rintro _ zd ⟨rfl,bl⟩;have a9:Hid (Below W4.heap.size W4 zd):=(aj.out.alloc aj.out.size _).trans (bl.mono (aj.out.alloc aj.out.size _).size);clear bl
   refine hK.out _ _ ?_ (fun hH4=>?_)
   ·exact HS.out _ a9.out
   clear hK K hH3
   as_aux_lemma =>
    refine mv (by assumption) aa.out ab.out 33 ?_
    try simp only[Act.put,mvS]
    refine mv (by assumption) aa.out ab.out 34 ?_
    try simp only[Act.put,mvS]
    refine mv (by assumption) aa.out ab.out 35 ?_
    try simp only[Act.put,mvS]
    refine mv (by assumption) aa.out ab.out 36 ?_
    try simp only[Act.put,mvS]
    refine mv (by assumption) aa.out ab.out 37 ?_
    try simp only[Act.put,mvS]
    refine mv (by assumption) aa.out ab.out 38 ?_
    try simp only[Act.put,mvS]
    refine mv (by assumption) aa.out ab.out 39 ?_
    try simp only[Act.put,mvS]
    refine mv (by assumption) aa.out ab.out 40 ?_
    try simp only[Act.put,mvS]
    refine mv (by assumption) aa.out ab.out 41 ?_
    try simp only[Act.put,mvS]
    refine mv (by assumption) aa.out ab.out 42 ?_
    try simp only[Act.put,mvS]
    refine mv (by assumption) aa.out ab.out 43 ?_
    try simp only[Act.put,mvS]
    refine mv (by assumption) aa.out ab.out 44 ?_
    try simp only[Act.put,mvS]
    refine mv (by assumption) aa.out ab.out 45 ?_
    try simp only[Act.put,mvS]
    refine mv (by assumption) aa.out ab.out 46 ?_
    try simp only[Act.put,mvS]
    refine mv (by assumption) aa.out ab.out 47 ?_
    try simp only[Act.put,mvS]
    refine mv (by assumption) aa.out ab.out 48 ?_
    try simp only[Act.put,mvS]
    refine mv (by assumption) aa.out ab.out 49 ?_
    try simp only[Act.put,mvS]
    refine mv (by assumption) aa.out ab.out 50 ?_
    try simp only[Act.put,mvS]
    refine mv (by assumption) aa.out ab.out 51 ?_
    try simp only[Act.put,mvS]
    refine mv (by assumption) aa.out ab.out 52 ?_
    try simp only[Act.put,mvS]
    refine aU aa.out 53 rfl (by kernel_rfl) (by rfl) (fun K hK=>?_)
    go_simp
    go_at_call 21;refine (aaK _).mono ?_;rintro _ ze ⟨Ce,de,rfl,bm,hz⟩;have aC:Hid (Below W4.heap.size W4 ze):=bt a9.out hz;have bu:=zh bm;clear bm;clear hz
    refine hK.out _ _ ?_ (fun hH5=>?_)
    ·exact HS.out _ aC.out
    clear hK K hH4
    try simp only[Act.put,mvS]
    as_aux_lemma =>
     refine mv (by assumption) aa.out ab.out 54 ?_
     try simp only[Act.put,mvS]
     refine aU aa.out 55 rfl (by kernel_rfl) (by rfl) (fun K hK=>?_)
     go_simp
     go_at_call 20;refine (jX (HQ.out _ aC.out).1.1 p6 (some ae) C (some ac) 2 dc 0 cc 2 gc [111,108,100] Ce 1 de allS (HQ.out _ aC.out).2.2.2.1 rfl (by decide) ag.out.2 ag.out.1 rfl bu.out (by decide) (by decide +kernel) rfl rfl rfl k6g.1).mono ?_;rintro _ zf ⟨rfl,hz⟩;have ba:Hid (Below W4.heap.size W4 zf):=bt aC.out hz;clear hz
     refine hK.out _ _ ?_ (fun hH6=>?_)
     ·exact HS.out _ ba.out
     clear hK K hH5
     try simp only[Act.put,mvS]
     as_aux_lemma =>
      refine mv (by assumption) aa.out ab.out 56 ?_
      try simp only[Act.put,mvS]
      refine mv (by assumption) aa.out ab.out 57 ?_
      try simp only[Act.put,mvS]
      refine mv (by assumption) aa.out ab.out 58 ?_
      try simp only[Act.put,mvS]
      refine aU aa.out 59 rfl (by kernel_rfl) (by rfl) (fun K hK=>?_)
      go_simp
      go_at_call 21;refine (aaK _).mono ?_;rintro _ zg ⟨Cg,dg,rfl,bn,hz⟩;have aD:Hid (Below W4.heap.size W4 zg):=bt ba.out hz;have bv:=zh bn;clear bn;clear hz
      refine hK.out _ _ ?_ (fun hH7=>?_)
      ·exact HS.out _ aD.out
      clear hK K hH6
      try simp only[Act.put,mvS]
      as_aux_lemma =>
       refine mv (by assumption) aa.out ab.out 60 ?_
       try simp only[Act.put,mvS]
       refine aU aa.out 61 rfl (by kernel_rfl) (by rfl) (fun K hK=>?_)
       go_simp
       go_at_call 20;refine (jX (HQ.out _ aD.out).1.1 p6 (some ae) C (some ac) 2 dc 0 cc 2 gc [116,111,111,108] Cg 1 dg allS (HQ.out _ aD.out).2.2.2.1 rfl (by decide) ag.out.2 ag.out.1 rfl bv.out (by decide) (by decide +kernel) rfl rfl rfl k6g.2.1).mono ?_;rintro _ zh ⟨rfl,hz⟩;have aE:Hid (Below W4.heap.size W4 zh):=bt aD.out hz;clear hz
       refine hK.out _ _ ?_ (fun hH8=>?_)
       ·exact HS.out _ aE.out
       clear hK K hH7
       try simp only[Act.put,mvS]
       as_aux_lemma =>
        refine mv (by assumption) aa.out ab.out 62 ?_
        try simp only[Act.put,mvS]
        refine mv (by assumption) aa.out ab.out 63 ?_
        try simp only[Act.put,mvS]
        refine mv (by assumption) aa.out ab.out 64 ?_
        try simp only[Act.put,mvS]
        refine mv (by assumption) aa.out ab.out 65 ?_
        try simp only[Act.put,mvS]
        refine aU aa.out 66 rfl (by kernel_rfl) (by rfl) (fun K hK=>?_)
        go_simp
        go_at_call 20;refine (jX (HQ.out _ aE.out).1.1 p6 (some ae) C (some ac) 2 dc 0 cc 2 gc [116,111,111,108] none 0 0 [] (HQ.out _ aE.out).2.2.2.1 rfl (by decide) ag.out.2 ag.out.1 rfl (sY _ _) (by decide) (by decide +kernel) rfl rfl rfl k6g.2.2.1).mono ?_;rintro _ zi ⟨rfl,hz⟩;have av:Hid (Below W4.heap.size W4 zi):=bt aE.out hz;clear hz
        refine hK.out _ _ ?_ (fun hH9=>?_)
        ·exact HS.out _ av.out
        clear hK K hH8
        try simp only[Act.put,mvS]
        as_aux_lemma =>
         refine mv (by assumption) aa.out ab.out 67 ?_
         try simp only[Act.put,mvS]
         refine mv (by assumption) aa.out ab.out 68 ?_
         try simp only[Act.put,mvS]
         refine mv (by assumption) aa.out ab.out 69 ?_
         try simp only[Act.put,mvS]
         refine mv (by assumption) aa.out ab.out 70 ?_
         try simp only[Act.put,mvS]
         refine mv (by assumption) aa.out ab.out 71 ?_
         try simp only[Act.put,mvS]
         refine mv (by assumption) aa.out ab.out 72 ?_
         try simp only[Act.put,mvS]
         refine mv (by assumption) aa.out ab.out 73 ?_
         try simp only[Act.put,mvS]
         refine mv (by assumption) aa.out ab.out 74 ?_
         try simp only[Act.put,mvS]
         refine mv (by assumption) aa.out ab.out 75 ?_
         try simp only[Act.put,mvS]
         refine mv (by assumption) aa.out ab.out 76 ?_
         try simp only[Act.put,mvS]
         refine aU aa.out 77 rfl (by kernel_rfl) (by rfl) (fun K hK=>?_)
         go_simp
         go_at_call 20;refine (jX (HQ.out _ av.out).1.1 p6 (some ae) C (some ac) 2 dc 0 cc 2 gc [108,105,98] CA 1 cA [⟨[50],[],true,false⟩] (HQ.out _ av.out).2.2.2.1 rfl (by decide) ag.out.2 ag.out.1 rfl (HQ.out _ av.out).2.2.2.2.2.1 (by decide) (by decide +kernel) rfl rfl rfl k6g.2.2.2).mono ?_;rintro _ zj ⟨rfl,hz⟩;have am:Hid (Below W4.heap.size W4 zj):=bt av.out hz;clear hz
         refine hK.out _ _ ?_ (fun hH10=>?_)
         ·exact HS.out _ am.out
         clear hK K hH9
         try simp only[Act.put,mvS]
         as_aux_lemma =>
          refine mv (by assumption) aa.out ab.out 78 ?_
          try simp only[Act.put,mvS]
          refine mv (by assumption) aa.out ab.out 79 ?_
          try simp only[Act.put,mvS]
          refine mv (by assumption) aa.out ab.out 80 ?_
          try simp only[Act.put,mvS]
          refine mv (by assumption) aa.out ab.out 81 ?_
          try simp only[Act.put,mvS]
          refine aU aa.out 82 rfl (by kernel_rfl) (by rfl) (fun K hK=>?_)
          go_simp
          go_at_call 7;refine (uu (HQ.out _ am.out).1.1 p6 (some ae) C (some ac) 2 dc 0 cc 2 gc (HQ.out _ am.out).2.1 rfl (HQ.out _ am.out).2.2.1 rfl (HQ.out _ am.out).2.2.2.1 rfl aI.out rfl rfl rfl k6h.1).mono ?_;rintro _ zk ⟨rfl,hz⟩;have ah:Hid (Below W4.heap.size W4 zk):=bt am.out hz;clear hz
          refine hK.out _ _ ?_ (fun hH11=>?_)
          ·exact HS.out _ ah.out
          clear hK K hH10
          try simp only[Act.put,mvS]
          as_aux_lemma =>
           refine mv (by assumption) aa.out ab.out 83 ?_
           try simp only[Act.put,mvS]
           refine mv (by assumption) aa.out ab.out 84 ?_
           try simp only[Act.put,mvS]
           refine mv (by assumption) aa.out ab.out 85 ?_
           try simp only[Act.put,mvS]
           refine mv (by assumption) aa.out ab.out 86 ?_
           try simp only[Act.put,mvS]
           refine mv (by assumption) aa.out ab.out 87 ?_
           try simp only[Act.put,mvS]
           refine aU aa.out 88 rfl (by kernel_rfl) (by rfl) (fun K hK=>?_)
           go_simp
           go_at_call 9;refine (xq p6 (some ae) C (some ac) 2 dc 0 cc 2 gc p6 (some ae) C (some ac) 2 dc 0 cc 2 gc (HQ.out _ ah.out).2.1 rfl (HQ.out _ ah.out).2.2.1 rfl (HQ.out _ ah.out).2.2.2.1 rfl aI.out (HQ.out _ ah.out).2.1 rfl (HQ.out _ ah.out).2.2.1 rfl (HQ.out _ ah.out).2.2.2.1 rfl aI.out rfl rfl rfl rfl rfl rfl k6h.2).mono ?_;rintro _ zl ⟨rfl,hz⟩;have bb:Hid (Below W4.heap.size W4 zl):=bt ah.out hz;clear hz
           refine hK.out _ _ ?_ (fun hH12=>?_)
           ·exact HS.out _ bb.out
           clear hK K hH11
           try simp only[Act.put,mvS]
           as_aux_lemma =>
            refine mv (by assumption) aa.out ab.out 89 ?_
            try simp only[Act.put,mvS]
            refine mv (by assumption) aa.out ab.out 90 ?_
            try simp only[Act.put,mvS]
            refine iZ aa.out (by kernel_rfl) ?_
            go_wp2_with fail
            go_ret
            exact⟨rfl,aT.out.trans ((bt aA.out bb.out).mono aT.out.size)⟩
end
end Go.Proofs.YtpfkphmldalmmaaGreatDoor
