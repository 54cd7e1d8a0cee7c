/- Part 17 of what the laws lean on. -/
import Derived.Test.YtgnaiidgjmicaaaGreatDoorL16
set_option maxRecDepth 100000
set_option maxHeartbeats 3200000
namespace Go.Proofs.YtgnaiidgjmicaaaGreatDoor
section
open Go.RowKit Rs At Pg
theorem Pg.xR {w W1 u:World}{T:TypeId}{a b:Value}(h1:w.alloc (.cells #[a,b] T)=W1)(hb:Below W1.heap.size W1 u):∀ j,2<=j->u.cell? ⟨w.heap.size,j,none⟩=none:=fun j hj=>by
 have e1:u.heap[w.heap.size]?=some (.cells #[a,b] T (0,0)):=(hb.block _ (by rw[<-h1];simp)).trans (by rw[<-h1];exact heap_alloc_new w _)
 simp[World.cell?,e1];omega
def Pg.AtomRet (w:World) (i:Int) (R:Except Int Atm) (e:Ending) (w':World):Prop:=Below w.heap.size w w'/\match R with
 | .ok a=>∃ C m d,e=.returned (.agg #[.string ⟨a.name.toArray⟩,.slice C m d])/\a.rng.length=m/\SRow w' C a.rng
 | .error k=>e=panAt i k
theorem Pg.vw {u:World}{b:Nat}{n:List UInt8}{C:Option Addr}{m d:Nat}{x y:Value}{tmps:Array Value}(k0:u.cell? ⟨b,0,none⟩=some x)(k1:u.cell? ⟨b,1,none⟩=some y)(h:tmps.getD 2 undef=.pointer (some ⟨b,0,none⟩)) :
  (results Tryz.f246 tmps).run Tryz.prog (stA u b n C m d)=.ok (.agg #[.string ⟨n.toArray⟩,.slice C m d]) (stA u b n C m d):=by
 have g0:(stA u b n C m d).cell? ⟨b,0,none⟩=some (.string ⟨n.toArray⟩):=by simp[stA,go_sem,k0]
 have g1:(stA u b n C m d).cell? ⟨b,1,none⟩=some (.slice C m d):=by simp[stA,go_sem,k1]
 have hr:Tryz.f246.results=#[.cell 2 51]:=Tryz.results246
 simp only[results,hr]
 generalize stA u b n C m d=V at *
 simp only[Array.getD_eq_getD_getElem?] at h ⊢
 simp[go_sem,h,g0,g1]
attribute [local go_sem ↓] Go.wp_at_zero Go.wp_at_succ
theorem nA (t:List UInt8)(i:Int)(w:World)(hw:MaxOk w)(ht:t.length<=1000) :
  Calls Tryz.prog 246 #[.agg #[.string ⟨t.toArray⟩,.int .i64 i]] w (Pg.AtomRet w i (atomR t)):=by
 obtain⟨E,hE⟩:=ex (atomR t)
 rw[hE]
 unfold atomR at hE
 obtain⟨V,hV⟩:=ex (w.alloc (.cells #[.string ⟨t.toArray⟩,.int .i64 i] 256))
 obtain⟨U,hU⟩:=ex (V.alloc (.cells #[.string ⟨#[]⟩,.slice none 0 0] 51))
 have ad:Hid (Below w.heap.size w V):=aa hV
 have ae:Hid (Below V.heap.size V U):=aa hU
 have HB:Hid (Below w.heap.size w U):=bt ad.out ae.out
 have HP:=zh (fun W (h:Below U.heap.size U W)=>aS hV (bt ae.out h))
 have HG:=zh (fun W (h:Below U.heap.size U W)=>bF hU h)
 have HN:=zh (fun W (h:Below U.heap.size U W)=>xR hU h)
 have HC:=zh (ns t U (ab hw HB.out) (Nat.le_trans ht (by decide)))
 have af:Hid (w.heap.size<=V.heap.size):=ad.out.size
 obtain⟨c0,c1⟩:=HP.out _ (Below.refl _ _)
 obtain⟨X,hX⟩:=ex (parseA t)
 rw[hX] at hE HC
 obtain⟨k,nm,l⟩:=X
 dsimp only at hE
 have HE:=zh hE
 clear hE hw ht hX
 go_enter Tryz.func246,Tryz.ntmps246
 go_wp2_with fail
 clear hV hU
 refine HC.out.mono ?_
 rintro _ u ⟨C,m,d,rfl,hm,hr,hb⟩
 have al:=zh hb
 have HM:=zh hm
 have HR:=zh hr
 dsimp only
 clear hb hm hr HC c0 c1
 obtain⟨G,hG⟩:=ex (u.alloc (.cells #[.string ⟨nm.toArray⟩,.slice C m d] 51))
 have ag:Hid (Below u.heap.size u G):=aa hG
 have ah:Hid (Below U.heap.size U G):=bt al.out ag.out
 have HQ:=zh (fun W (h:Below G.heap.size G W)=>aS hG h)
 obtain⟨c0,c1⟩:=HP.out _ ah.out
 go_wp2_with fail
 clear hG
 refine (cO t i k _).mono ?_
 rintro _ u2 ⟨rfl,hb⟩
 have ai:=zh hb
 have ac:Hid (Below U.heap.size U u2):=bt ah.out hb
 clear hb c0 c1
 by_cases h0:k=0
 case neg =>
  rw[fK h0]
  have HF:Hid (E=.error k):=by show _=_;rw[<-HE.out,if_neg h0]
  clear h0
  go_wp2_with fail
  refine⟨rfl,bt HB.out ac.out,?_⟩
  rw[HF.out]
 subst h0
 rw[dK]
 have HF:Hid (E=.ok ⟨nm,l⟩):=by show _=_;rw[<-HE.out];rfl
 obtain⟨p0,p1⟩:=HQ.out _ ai.out
 obtain⟨k0,k1,z0,z1⟩:=HG.out _ ac.out
 have aj:Hid (SRow u2 C l):=aL HR.out (bt ag.out ai.out)
 have ak:=zh (eW aj.out (HN.out _ ac.out))
 go_wp2_with fail
 (try simp only[Exit.inBlock,Exit.then])
 refine bodyPost_ret (vw k0 k1 rfl) rfl ?_
 refine⟨((bt HB.out ac.out).setCell af.out _).setCell af.out _,?_⟩
 rw[HF.out]
 exact⟨C,m,d,rfl,HM.out,dq (dq aj.out ak.out) ak.out⟩
theorem gz (s sep:List UInt8)(n:Nat)(w:World)(hm:MaxOk w)(hl:s.length<=900000)(h1:1<=sep.length)(hn:1<=n)(hn2:n<=1000) :
  Calls Tryz.prog 274 #[.string ⟨s.toArray⟩,.string ⟨sep.toArray⟩,.int .i64 n] w fun e w'=>∃ A m c,e=.returned (.slice A m c)/\(Lib.splitN s sep n).length=m/\m<=1000/\Rg.Row encT 1 w' A (Lib.splitN s sep n)/\Below w.heap.size w w':=by
 obtain⟨m,hm⟩:=hm
 refine (Tryz.strings_SplitN ⟨s.toArray⟩ ⟨sep.toArray⟩ n m w (by show s.length<_;omega) hm h1 hn (by omega)).mono ?_
 rintro e w' ⟨rfl,rfl⟩
 have hd:(Lib.splitB ⟨sep.toArray⟩ 0 (min n (s.length+1)-1) ⟨s.toArray⟩).map (·.data.toList)=Lib.splitN s sep n:=Lib.splitB_data _ _ _ _
 have hlen:=Lib.splitB_length_le ⟨sep.toArray⟩ 0 (min n (s.length+1)-1) ⟨s.toArray⟩
 obtain⟨ps,ab⟩:=ex (Lib.splitB ⟨sep.toArray⟩ 0 (min n (s.length+1)-1) ⟨s.toArray⟩)
 have aa:(⟨s.toArray⟩:ByteArray).size=s.length:=by show s.toArray.size=_;simp
 rw[aa]
 rw[ab] at hd hlen ⊢
 rw[<-hd]
 refine⟨_,_,_,rfl,by rw[List.length_map],by omega,fun _=>⟨_,rfl,by simp,fun i hi j v hv=>?_⟩,(Below.refl _ _).alloc (Nat.le_refl _) _⟩
 have hj:j=0:=by have h:=(List.getElem?_eq_some_iff.1 hv).1;simp only[encT,List.length_cons,List.length_nil] at h;omega
 subst hj
 rw[List.length_map] at hi
 rw[if_pos rfl,Nat.mul_one]
 have ha:(⟨w.heap.size,0,none⟩:Addr).add i=⟨w.heap.size,i,none⟩:=by unfold Addr.add;split <;> simp_all
 rw[ha,cell_of_row _ w.heap.size i _ _ (0,0) (heap_alloc_new w _)]
 rw[List.getElem_map] at hv
 unfold Lib.cellsOf
 rw[List.getElem?_toArray,List.getElem?_append_left (by rw[List.length_map];exact hi),List.getElem?_map,List.getElem?_eq_getElem hi]
 exact hv
theorem Pg.sliceA:Rg.SliceT Tryz.prog encA 2 65 51:=⟨fitsA,by decide,by kernel_rfl,Rg.bw (z:=.agg #[.string ByteArray.empty,.slice none 0 0]) (b:=40) (by kernel_rfl) (by rfl) (by decide)⟩
theorem Pg.vx:∀ i,Tryz.prog.info? 51=some i->∀ z,i.zero=some z->∀ u∈z.cells,NoB u:=lS (z0:=.agg #[.string ByteArray.empty,.slice none 0 0]) (by kernel_rfl) (fun u hu b e=>by subst e;simp[Value.cells] at hu)
theorem Pg.xS:∀ x:AtD,∀ u∈encA x,NoB u:=fun x u hu b e=>by subst e;simp[encA] at hu
def Pg.AOwn (w:World) (B:Nat) (T:TypeId) (v:Value) (ds:List AtD) (l:List Atm):Prop:=Rg.Own encA 2 w B T v ds/\AIn w ds l/\Pure NoB w v
theorem Pg.xT (w:World)(B:Nat)(T:TypeId):AOwn w B T (.slice none 0 0) [] []:=⟨Rg.an _ _ _,⟨rfl,fun i d a h=>by simp at h⟩,pure_nil _ _⟩
theorem Pg.d9 {w w':World}{B:Nat}{T:TypeId}{v:Value}{ds:List AtD}{l:List Atm}(h:AOwn w B T v ds l)(hb:Below w.heap.size w w'):AOwn w' B T v ds l:=⟨Rg.own_below h.1 hb,mK h.2.1 hb,gu h.2.2 h.1 hb⟩
theorem Pg.xU {w:World}{ds:List AtD}{l:List Atm}{d:AtD}{a:Atm}(h:AIn w ds l)(h1:d.1=a.name)(h2:d.2.2.1=a.rng.length)(h3:SRow w d.2.1 a.rng):AIn w (ds++[d]) (l++[a]):=by
 refine⟨by rw[List.length_append,List.length_append,h.1];rfl,fun i x y e1 e2=>?_⟩
 rcases aF e1 with⟨q1,q2⟩ | ⟨q1,q2⟩
 ·rcases aF e2 with⟨_,p2⟩ | ⟨p1,_⟩
  ·exact h.2 i x y q2 p2
  ·have:=h.1;omega
 ·rcases aF e2 with⟨p1,_⟩ | ⟨_,p2⟩
  ·have:=h.1;omega
  ·subst q2 p2;exact⟨h1,h2,h3⟩
theorem Pg.xV {w w':World}{B:Nat}{T:TypeId}{v v':Value}{ds:List AtD}{l:List Atm}{C:Option Addr}{m c:Nat}{a:Atm}(h:AOwn w B T v ds l)(hr:SRow w C a.rng)(hm:a.rng.length=m)(ho:Rg.Own encA 2 w' B T v' (ds++[(a.name,C,m,c)]))(hp:Pure NoB w' v')(hg:w.grownBy w' v.ownBlock):AOwn w' B T v' (ds++[(a.name,C,m,c)]) (l++[a]):=by
 have hb:But v.ownBlock w w':=cY hg
 refine⟨ho,xU (lT h.2.1 hb h.2.2) rfl hm.symm (pw hr hb fun h0 q hq e=>?_),hp⟩
 cases hv:v.ownBlock with
 | none=>rw[hv] at e;cases e
 | some g=>rw[hv] at e;exact px hr (h.2.2 g hv) h0 q hq e
theorem Pg.xW {w:World}{B:Nat}{T:TypeId}{v:Value}{ds:List AtD}{l:List Atm}(h:AOwn w B T v ds l):∃ A c,v=.slice A l.length c/\ARow w A l/\∀ a,A=some a->B<=a.block:=by
 obtain⟨A,c,hv,hr,_,_⟩:=Rg.au fitsA h.1
 rw[h.2.1.1] at hv
 exact⟨A,c,hv,⟨ds,hr,h.2.1⟩,fun a ha=>by subst ha;exact (Rg.aT h.1 a.block (by rw[hv];rfl)).1⟩
def Pg.Fit (sep t:List UInt8):Prop:=t.length<=200000/\∀ p∈Lib.split t sep,p.length<=1000
theorem Pg.iE {sep t:List UInt8}(h:t.length<=1000):Fit sep t:=⟨by omega,fun p hp=>Nat.le_trans (bV sep _ t p hp) h⟩
def Pg.ValFit (key t:List UInt8):Prop:=(key=kDep->t.length<=200000/\∀ p∈Lib.split t semi,Fit orT p)/\(key=kCon->Fit semi t)/\(key=kPro->Fit semi t)/\(key≠kDep->key≠kCon->key≠kPro->t.length<=1000)
theorem Pg.pD {key t:List UInt8}(h:t.length<=1000):ValFit key t:=⟨fun _=>⟨by omega,fun p hp=>iE (Nat.le_trans (bV semi _ t p hp) h)⟩,fun _=>iE h,fun _=>iE h,fun _ _ _=>h⟩
def Pg.PartsRet {β:Type} (M:World->Option Addr->List β->Prop) (w:World) (i:Int) (R:Except Int (List β)) (e:Ending) (w':World):Prop:=Below w.heap.size w w'/\match R with
 | .ok l=>∃ A n c,e=.returned (.slice A n c)/\l.length=n/\M w' A l/\∀ a,A=some a->w.heap.size<=a.block
 | .error k=>e=panAt i k
theorem fO (t sep:List UInt8)(i:Int)(most:Nat)(w:World)(hw:MaxOk w)(ht:Fit sep t)(h1:1<=sep.length)(hmo:most<=100) :
  Calls Tryz.prog 245 #[.agg #[.string ⟨t.toArray⟩,.int .i64 i],.string ⟨sep.toArray⟩,.int .i64 most,.func (.func 246) #[] #[]] w (Pg.PartsRet ARow w i (partsR atomR sep most t)):=by
 obtain⟨R,hR⟩:=ex (partsR atomR sep most t)
 rw[hR]
 unfold partsR at hR
 obtain⟨V,hV⟩:=ex (w.alloc (.cells #[.string ⟨t.toArray⟩,.int .i64 i] 256))
 have HB:Hid (Below w.heap.size w V):=aa hV
 have HP:=zh (fun W (h:Below V.heap.size V W)=>aS hV h)
 have HM:=zh (fun W (h:Below V.heap.size V W)=>ab (ab hw HB.out) h)
 have HC:Hid (Calls Tryz.prog 274 #[.string ⟨t.toArray⟩,.string ⟨sep.toArray⟩,.int .i64 ((most:Int)+1)] V fun e w'=>∃ A m c,e=.returned (.slice A m c)/\(Lib.splitN t sep (most+1)).length=m/\m<=1000/\Rg.Row encT 1 w' A (Lib.splitN t sep (most+1))/\Below V.heap.size V w') :=
  gz t sep (most+1) V (HM.out _ (Below.refl _ _)) (Nat.le_trans ht.1 (by decide)) h1 (by omega) (by omega)
 have ar:∀ p∈Lib.split t sep,p.length<=1000:=ht.2
 obtain⟨f1,f2⟩:=gw (s:=t) (sep:=sep) (fun e=>by rw[e] at h1;simp at h1) most
 obtain⟨ps,aE⟩:=ex (Lib.split t sep)
 obtain⟨qs,aF⟩:=ex (Lib.splitN t sep (most+1))
 rw[aE] at hR f1 f2 ar
 rw[aF] at f1 f2 HC
 have iw:IntKind.i64.wrap ((most:Int)+1)=(most:Int)+1:=IntWalk.i64_in _ (by omega)
 obtain⟨c0,c1⟩:=HP.out _ (Below.refl _ _)
 have HR:=zh hR
 have au:=zh f1
 have aB:=zh f2
 have aK:=zh ar
 clear hw hR ar f1 f2 aE aF
 go_enter Tryz.func245,Tryz.ntmps245
 go_wp2_with fail
 clear hV
 refine HC.out.mono ?_
 rintro _ z1 ⟨A,n,c,rfl,hn,aV,an,aG⟩
 have HN:=zh hn
 have af:=zh an
 have ao:=zh aG
 clear hn an aG HC c0 c1 iw
 obtain⟨c0,c1⟩:=HP.out _ ao.out
 by_cases ah:n<=most
 case neg =>
  have av:Hid (R=.error 4):=by
   show _=_
   rw[<-HR.out,if_neg]
   intro hh
   have:=au.out hh
   rw[this] at HN
   have:=HN.out
   omega
  have d0:decide (n<=most)=false:=decide_eq_false ah
  clear ah
  go_wp2_with fail
  refine (aA t i false 4 _).mono ?_
  rintro _ u ⟨rfl,hb⟩
  have HU:Hid (Below w.heap.size w u):=HB.out.trans ((bt ao.out hb).mono HB.out.size)
  clear hb
  go_wp2_with fail
  exact⟨rfl,HU.out,by rw[av.out]⟩
 have aM:qs=ps:=by
  rcases Nat.lt_or_ge most ps.length with h | h
  ·have:=aB.out h
   have:=HN.out
   omega
  ·exact au.out h
 subst aM
 have av:Hid (rdL atomR [] qs=R):=by
  show _=_
  rw[<-HR.out,if_pos (by rw[HN.out];exact ah)]
 have d0:decide (n<=most)=true:=decide_eq_true ah
 clear ah au aB HR
 go_wp2_with fail
 refine (aA t i true 4 _).mono ?_
 rintro _ z2 ⟨rfl,hb⟩
 have ax:Hid (Below V.heap.size V z2):=bt ao.out hb
 have ai:=zh (Rg.ag af.out hb)
 clear hb af d0 c0 c1 ao
 go_wp2_with fail
 go_loopw [10,27] (fun v i wr=>∃ (k:Nat) (acc:List Atm) (ds:List AtD),k<=n/\i=.int .i64 k/\Hid (AOwn wr z2.heap.size 51 v ds acc)/\Hid (Below z2.heap.size z2 wr/\z2.heap.size<=wr.heap.size)/\Hid (acc.length=k)/\Hid (rdL atomR acc (qs.drop k)=R)) (fun _ i _=>n-(intOf i).toNat)
 case atStart=>exact⟨0,[],[],Nat.zero_le _,rfl,xT _ _ _,⟨Below.refl _ _,Nat.le_refl _⟩,rfl,by show rdL _ _ (qs.drop 0)=R;rw[List.drop_zero,av.out]⟩
 case round =>
  obtain⟨k,acc,ds,hk,rfl,HO,ae,HA,HE⟩:=hrel
  have aj:Hid (Below V.heap.size V wr):=ax.out.trans (ae.out.1.mono ax.out.size)
  by_cases aC:k<n
  ·have aD:=zh aC
   have ay:k<qs.length:=by rw[HN.out];exact aC
   obtain⟨ad,rfl,_,q0⟩:=cE (Rg.ag ai.out ae.out.1) k ay
   have ap:=aK.out _ (List.getElem_mem ay)
   have he:=HE.out
   rw[List.drop_eq_getElem_cons ay] at he
   obtain⟨p,hp⟩:=ex (qs[k])
   rw[hp] at ap he q0
   have aN:Hid (ds.length+1<=1000000):=by have h1:=HA.out;have h2:=HO.out.2.1.1;show _<=_;omega
   have aq:=zh (nA p i wr (HM.out _ aj.out) ap)
   obtain⟨c0,c1⟩:=HP.out _ aj.out
   obtain⟨E,hE⟩:=ex (atomR p)
   rw[hE] at aq
   cases E with
   | error e =>
    have al:Hid (R=.error e):=by show _=_;rw[<-he];exact cZ hE
    clear he hp ap hE
    go_wp2_with fail
    refine aq.out.mono ?_
    rintro e z3 ⟨hb,rfl⟩
    have ac:Hid (Below w.heap.size w z3):=HB.out.trans ((bt aj.out hb).mono HB.out.size)
    clear hb
    go_wp2_with fail
    exact⟨rfl,ac.out,by rw[al.out]⟩
   | ok a =>
    have aO:Hid (rdL atomR (acc++[a]) (qs.drop (k+1))=R):=by show _=_;rw[<-he];exact (fN hE).symm
    clear he hp ap hE
    go_wp2_with fail
    refine aq.out.mono ?_
    rintro e z3 ⟨hb,C,m,d,rfl,hm,hr⟩
    have ac:=zh hb
    have aP:=zh hm
    have al:=zh hr
    clear hb hm hr c0 c1 q0 aq
    go_wp2_with (at_builtin;refine Pg.fa sliceA vx xS rfl (.tmp 31) (.tmp 38) rfl z2.heap.size _ ds [(a.name,C,m,d)] rfl (d9 HO.out (ac.out.alloc ac.out.size _)).1 (d9 HO.out (ac.out.alloc ac.out.size _)).2.2 _ _ rfl (Rg.aw z3 _ _ _ (by rfl)) (Nat.zero_lt_succ _) aN.out ?b2 ?_)
    case b2=>have:=ae.out.2;have:=ac.out.size;simp;omega
    intro v5 W5 aH aI az aU
    have am:Below wr.heap.size wr (z3.alloc (.cells #[.string ⟨a.name.toArray⟩,.slice C m d] 51)):=ac.out.alloc ac.out.size _
    have aQ:=zh (xV (d9 HO.out am) (aL al.out ((Below.refl _ _).alloc (Nat.le_refl _) _)) aP.out aH aI az)
    have aR:Hid (Below z2.heap.size z2 W5/\z2.heap.size<=W5.heap.size):=by
     have h2:=ae.out.1.trans ((am.mono ae.out.2).trans (Rg.ak (d9 HO.out am).1 (Nat.le_trans ae.out.2 am.size) az))
     exact⟨h2,h2.size⟩
    clear aH aI az aU am HO ac ae aj
    go_wp2_with fail
    go_roundw
    case rel=>exact⟨k+1,acc++[a],_,(by have:=aD.out;omega),by go_num,aQ,aR,by show (acc++[a]).length=_;rw[List.length_append,HA.out];rfl,aO⟩
    case measure=>have:=aD.out;simp[intOf];omega
  ·obtain rfl:k=n:=by omega
   have al:Hid (R=.ok acc):=by show _=_;rw[<-HE.out,List.drop_eq_nil_of_le (by rw[HN.out];exact Nat.le_refl _)];rfl
   obtain⟨C,d,rfl,aJ,hf⟩:=xW HO.out
   have aT:=zh aJ
   have HF:=zh hf
   clear aJ hf
   go_wp2_with fail
   go_ret
   refine⟨bt HB.out aj.out,?_⟩
   rw[al.out]
   exact⟨C,_,d,rfl,rfl,aT.out,fun a ha=>Nat.le_trans (Nat.le_trans HB.out.size ax.out.size) (HF.out a ha)⟩
end
section
open Go.RowKit Go.ChangeShapes Go.WideShapes Go.Joins Rs At Pg
namespace Pg
instance:Inhabited Atm:=⟨⟨[],[]⟩⟩
instance:Inhabited Gv:=⟨⟨[],[]⟩⟩
end Pg
end
section
open Go.RowKit Rs At Pg
attribute [local go_sem ↓] Go.wp_at_zero Go.wp_at_succ
theorem Pg.xX (t:List UInt8):(Lib.cut t [32,61,32]).1.length<=t.length:=by
 unfold Lib.cut
 split
 ·show (t.take _).length<=_
  rw[List.length_take];omega
 ·exact Nat.le_refl _
theorem nB (t:List UInt8)(i:Int)(w:World)(hw:MaxOk w)(ht:t.length<=1000) :
  Calls Tryz.prog 248 #[.agg #[.string ⟨t.toArray⟩,.int .i64 i]] w fun r w'=>Below w.heap.size w w'/\match gvR t with
   | .ok a=>r=.returned (.agg #[.string ⟨a.name.toArray⟩,.string ⟨a.ver.toArray⟩])
   | .error k=>r=panAt i k :=
 (nz t i w hw (by omega) (Nat.le_trans (Nat.le_trans (xX t) ht) (by decide))).mono fun r w' ⟨h1,h2⟩=>by
  refine⟨h2,?_⟩
  rw[vs] at h1
  cases h:gvR t with
  | ok a=>rw[h] at h1;exact h1
  | error k=>rw[h] at h1;exact h1
theorem Pg.sliceG:Rg.SliceT Tryz.prog encG 2 66 135:=⟨fitsG,by decide,by kernel_rfl,Rg.bw (z:=.agg #[.string ByteArray.empty,.string ByteArray.empty]) (b:=32) (by kernel_rfl) (by rfl) (by decide)⟩
theorem Pg.xY {w:World}{B:Nat}{T:TypeId}{v:Value}{l:List Gv}(h:Rg.Own encG 2 w B T v l):∃ A c,v=.slice A l.length c/\GRow w A l/\∀ a,A=some a->B<=a.block:=by
 obtain⟨A,c,hv,hr,_,_⟩:=Rg.au fitsG h
 exact⟨A,c,hv,hr,fun a ha=>by subst ha;exact (Rg.aT h a.block (by rw[hv];rfl)).1⟩
theorem lU (t sep:List UInt8)(i:Int)(most:Nat)(w:World)(hw:MaxOk w)(ht:Fit sep t)(h1:1<=sep.length)(hmo:most<=100) :
  Calls Tryz.prog 247 #[.agg #[.string ⟨t.toArray⟩,.int .i64 i],.string ⟨sep.toArray⟩,.int .i64 most,.func (.func 248) #[] #[]] w (Pg.PartsRet GRow w i (partsR gvR sep most t)):=by
 obtain⟨R,hR⟩:=ex (partsR gvR sep most t)
 rw[hR]
 unfold partsR at hR
 obtain⟨V,hV⟩:=ex (w.alloc (.cells #[.string ⟨t.toArray⟩,.int .i64 i] 256))
 have HB:Hid (Below w.heap.size w V):=aa hV
 have HP:=zh (fun W (h:Below V.heap.size V W)=>aS hV h)
 have HM:=zh (fun W (h:Below V.heap.size V W)=>ab (ab hw HB.out) h)
 have HC:Hid (Calls Tryz.prog 274 #[.string ⟨t.toArray⟩,.string ⟨sep.toArray⟩,.int .i64 ((most:Int)+1)] V fun e w'=>∃ A m c,e=.returned (.slice A m c)/\(Lib.splitN t sep (most+1)).length=m/\m<=1000/\Rg.Row encT 1 w' A (Lib.splitN t sep (most+1))/\Below V.heap.size V w') :=
  gz t sep (most+1) V (HM.out _ (Below.refl _ _)) (Nat.le_trans ht.1 (by decide)) h1 (by omega) (by omega)
 have ar:∀ p∈Lib.split t sep,p.length<=1000:=ht.2
 obtain⟨f1,f2⟩:=gw (s:=t) (sep:=sep) (fun e=>by rw[e] at h1;simp at h1) most
 obtain⟨ps,aE⟩:=ex (Lib.split t sep)
 obtain⟨qs,aF⟩:=ex (Lib.splitN t sep (most+1))
 rw[aE] at hR f1 f2 ar
 rw[aF] at f1 f2 HC
 have iw:IntKind.i64.wrap ((most:Int)+1)=(most:Int)+1:=IntWalk.i64_in _ (by omega)
 obtain⟨c0,c1⟩:=HP.out _ (Below.refl _ _)
 have HR:=zh hR
 have au:=zh f1
 have aB:=zh f2
 have aK:=zh ar
 clear hw hR ar f1 f2 aE aF
 go_enter Tryz.func247,Tryz.ntmps247
 go_wp2_with fail
 clear hV
 refine HC.out.mono ?_
 rintro _ z1 ⟨A,n,c,rfl,hn,aT,al,aG⟩
 have HN:=zh hn
 have af:=zh al
 have am:=zh aG
 clear hn al aG HC c0 c1 iw
 obtain⟨c0,c1⟩:=HP.out _ am.out
 by_cases ah:n<=most
 case neg =>
  have av:Hid (R=.error 4):=by
   show _=_
   rw[<-HR.out,if_neg]
   intro hh
   have:=au.out hh
   rw[this] at HN
   have:=HN.out
   omega
  have d0:decide (n<=most)=false:=decide_eq_false ah
  clear ah
  go_wp2_with fail
  refine (aA t i false 4 _).mono ?_
  rintro _ u ⟨rfl,hb⟩
  have HU:Hid (Below w.heap.size w u):=HB.out.trans ((bt am.out hb).mono HB.out.size)
  clear hb
  go_wp2_with fail
  exact⟨rfl,HU.out,by rw[av.out]⟩
 have aL:qs=ps:=by
  rcases Nat.lt_or_ge most ps.length with h | h
  ·have:=aB.out h
   have:=HN.out
   omega
  ·exact au.out h
 subst aL
 have av:Hid (rdL gvR [] qs=R):=by
  show _=_
  rw[<-HR.out,if_pos (by rw[HN.out];exact ah)]
 have d0:decide (n<=most)=true:=decide_eq_true ah
 clear ah au aB HR
 go_wp2_with fail
 refine (aA t i true 4 _).mono ?_
 rintro _ z2 ⟨rfl,hb⟩
 have ax:Hid (Below V.heap.size V z2):=bt am.out hb
 have ai:=zh (Rg.ag af.out hb)
 clear hb af d0 c0 c1 am
 go_wp2_with fail
 go_loopw [10,27] (fun v i wr=>∃ (k:Nat) (acc:List Gv),k<=n/\i=.int .i64 k/\Hid (Rg.Own encG 2 wr z2.heap.size 135 v acc)/\Hid (Below z2.heap.size z2 wr/\z2.heap.size<=wr.heap.size)/\Hid (acc.length=k)/\Hid (rdL gvR acc (qs.drop k)=R)) (fun _ i _=>n-(intOf i).toNat)
 case atStart=>exact⟨0,[],Nat.zero_le _,rfl,Rg.an _ _ _,⟨Below.refl _ _,Nat.le_refl _⟩,rfl,by show rdL _ _ (qs.drop 0)=R;rw[List.drop_zero,av.out]⟩
 case round =>
  obtain⟨k,acc,hk,rfl,HO,ae,HA,HE⟩:=hrel
  have aj:Hid (Below V.heap.size V wr):=ax.out.trans (ae.out.1.mono ax.out.size)
  by_cases aC:k<n
  ·have aD:=zh aC
   have ay:k<qs.length:=by rw[HN.out];exact aC
   obtain⟨ad,rfl,_,q0⟩:=cE (Rg.ag ai.out ae.out.1) k ay
   have ao:=aK.out _ (List.getElem_mem ay)
   have he:=HE.out
   rw[List.drop_eq_getElem_cons ay] at he
   obtain⟨p,hp⟩:=ex (qs[k])
   rw[hp] at ao he q0
   have aM:Hid (acc.length+1<=1000000):=by have h1:=HA.out;show _<=_;omega
   have ap:=zh (nB p i wr (HM.out _ aj.out) ao)
   obtain⟨c0,c1⟩:=HP.out _ aj.out
   obtain⟨E,hE⟩:=ex (gvR p)
   rw[hE] at ap
   cases E with
   | error e =>
    have az:Hid (R=.error e):=by show _=_;rw[<-he];exact cZ hE
    clear he hp ao hE
    go_wp2_with fail
    refine ap.out.mono ?_
    rintro e z3 ⟨hb,rfl⟩
    have ac:Hid (Below w.heap.size w z3):=HB.out.trans ((bt aj.out hb).mono HB.out.size)
    clear hb
    go_wp2_with fail
    exact⟨rfl,ac.out,by rw[az.out]⟩
   | ok a =>
    have aN:Hid (rdL gvR (acc++[a]) (qs.drop (k+1))=R):=by show _=_;rw[<-he];exact (fN hE).symm
    clear he hp ao hE
    go_wp2_with fail
    refine ap.out.mono ?_
    rintro e z3 ⟨hb,rfl⟩
    have ac:=zh hb
    clear hb c0 c1 q0 ap
    go_wp2_with (at_builtin;refine Rg.bb sliceG rfl (.tmp 31) (.tmp 38) rfl z2.heap.size _ acc [a] rfl (Rg.own_below HO.out (ac.out.alloc ac.out.size _)) _ _ rfl (Rg.aw z3 _ _ _ (by rfl)) (Nat.zero_lt_succ _) aM.out ?b2 ?_)
    case b2=>have:=ae.out.2;have:=ac.out.size;simp;omega
    intro v5 W5 aH aI aR
    have aq:Below wr.heap.size wr (z3.alloc (.cells #[.string ⟨a.name.toArray⟩,.string ⟨a.ver.toArray⟩] 135)):=ac.out.alloc ac.out.size _
    have aO:Hid (Rg.Own encG 2 W5 z2.heap.size 135 v5 (acc++[a])):=aH
    have aP:Hid (Below z2.heap.size z2 W5/\z2.heap.size<=W5.heap.size):=by
     have h2:=ae.out.1.trans ((aq.mono ae.out.2).trans (Rg.ak (Rg.own_below HO.out aq) (Nat.le_trans ae.out.2 aq.size) aI))
     exact⟨h2,h2.size⟩
    clear aH aI aR aq HO ac ae aj
    go_wp2_with fail
    go_roundw
    case rel=>exact⟨k+1,acc++[a],(by have:=aD.out;omega),by go_num,aO,aP,by show (acc++[a]).length=_;rw[List.length_append,HA.out];rfl,aN⟩
    case measure=>have:=aD.out;simp[intOf];omega
  ·obtain rfl:k=n:=by omega
   have az:Hid (R=.ok acc):=by show _=_;rw[<-HE.out,List.drop_eq_nil_of_le (by rw[HN.out];exact Nat.le_refl _)];rfl
   obtain⟨C,d,rfl,aJ,hf⟩:=xY HO.out
   have aQ:=zh aJ
   have HF:=zh hf
   clear aJ hf
   go_wp2_with fail
   go_ret
   refine⟨bt HB.out aj.out,?_⟩
   rw[az.out]
   exact⟨C,_,d,rfl,rfl,aQ.out,fun a ha=>Nat.le_trans (Nat.le_trans HB.out.size ax.out.size) (HF.out a ha)⟩
def Pg.DFresh (B:Nat) (ds:List Desc):Prop:=∀ (i:Nat) (d:Desc),ds[i]?=some d->∀ a,d.1=some a->B<=a.block
def Pg.DRowF (B:Nat) (w:World) (A:Option Addr) (t:List (List Atm)):Prop:=∃ ds,Rg.Row encO 1 w A ds/\DIn w ds t/\DFresh B ds
theorem Pg.gA {B B':Nat}{w:World}{A:Option Addr}{t:List (List Atm)}(h:Pg.DRowF B w A t)(hB:B'<=B):Pg.DRowF B' w A t:=by
 obtain⟨ds,h1,h2,h3⟩:=h
 exact⟨ds,h1,h2,fun i d e a ha=>Nat.le_trans hB (h3 i d e a ha)⟩
def Pg.DOwnF (w:World) (B:Nat) (T:TypeId) (v:Value) (ds:List Desc) (t:List (List Atm)):Prop:=Rg.Own encO 1 w B T v ds/\DIn w ds t/\DFresh B ds/\Pure IsSl w v
theorem Pg.xZ (w:World)(B:Nat)(T:TypeId):DOwnF w B T (.slice none 0 0) [] []:=⟨Rg.an _ _ _,⟨rfl,fun i a d h=>by simp at h⟩,fun i a h=>by simp at h,pure_nil _ _⟩
theorem Pg.ec {w w':World}{B:Nat}{T:TypeId}{v:Value}{ds:List Desc}{t:List (List Atm)}(h:DOwnF w B T v ds t)(hb:Below w.heap.size w w'):DOwnF w' B T v ds t:=⟨Rg.own_below h.1 hb,eX h.2.1 hb,h.2.2.1,gu h.2.2.2 h.1 hb⟩
theorem Pg.mR {w w':World}{v:Value}{A:Option Addr}{l:List Atm}(h:ARow w A l)(hp:Pure IsSl w v)(hb:But v.ownBlock w w'):ARow w' A l:=by
 refine dt h hb ?_ fun g hg j x hx=>aaz (hp g hg j x hx)
 cases hv:v.ownBlock with
 | none=>exact fun _ a _ e=>by cases e
 | some g=>exact zG h (hp g hv)
theorem Pg.x7 {w w':World}{B:Nat}{T:TypeId}{v v':Value}{ds:List Desc}{t:List (List Atm)}{C:Option Addr}{m c:Nat}{l:List Atm}(h:DOwnF w B T v ds t)(hr:ARow w C l)(hm:l.length=m)(hf:∀ a,C=some a->B<=a.block)(ho:Rg.Own encO 1 w' B T v' (ds++[(C,m,c)]))(hp:Pure IsSl w' v')(hg:w.grownBy w' v.ownBlock):DOwnF w' B T v' (ds++[(C,m,c)]) (t++[l]):=by
 have hb:But v.ownBlock w w':=cY hg
 refine⟨ho,⟨by rw[List.length_append,List.length_append,h.2.1.1];rfl,fun i x y e1 e2=>?_⟩,fun i x e1=>?_,hp⟩
 ·rcases aF e1 with⟨q1,q2⟩ | ⟨q1,q2⟩
  ·rcases aF e2 with⟨_,p2⟩ | ⟨p1,_⟩
   ·exact⟨(h.2.1.2 i x y q2 p2).1,mR (h.2.1.2 i x y q2 p2).2 h.2.2.2 hb⟩
   ·have:=h.2.1.1;omega
  ·rcases aF e2 with⟨p1,_⟩ | ⟨_,p2⟩
   ·have:=h.2.1.1;omega
   ·subst q2 p2;exact⟨hm.symm,mR hr h.2.2.2 hb⟩
 ·rcases aF e1 with⟨q1,q2⟩ | ⟨q1,q2⟩
  ·exact h.2.2.1 i x q2
  ·subst q2;exact hf
theorem Pg.down_row {w:World}{B:Nat}{T:TypeId}{v:Value}{ds:List Desc}{t:List (List Atm)}(h:DOwnF w B T v ds t):∃ A c,v=.slice A t.length c/\Pg.DRowF B w A t/\∀ a,A=some a->B<=a.block:=by
 obtain⟨A,c,hv,hr,_,_⟩:=Rg.au fitsO h.1
 rw[h.2.1.1] at hv
 exact⟨A,c,hv,⟨ds,hr,h.2.1,h.2.2.1⟩,fun a ha=>by subst ha;exact (Rg.aT h.1 a.block (by rw[hv];rfl)).1⟩
theorem Pg.sliceD6:Rg.SliceT Tryz.prog encO 1 64 81:=⟨fitsO,by decide,by kernel_rfl,Rg.bw (z:=.slice none 0 0) (b:=24) (by kernel_rfl) (by rfl) (by decide)⟩
theorem Pg.x8:∀ i,Tryz.prog.info? 81=some i->∀ z,i.zero=some z->∀ u∈z.cells,IsSl u:=lS (z0:=.slice none 0 0) (by kernel_rfl) (fun u hu=>by simp[Value.cells] at hu;exact⟨_,_,_,hu⟩)
theorem Pg.zJ:∀ x:Desc,∀ u∈encO x,IsSl u:=fun _ _ hu=>⟨_,_,_,List.mem_singleton.1 hu⟩
theorem pE (t:List UInt8)(i:Int)(w:World)(hw:MaxOk w)(ht:Fit orT t) :
  Calls Tryz.prog 244 #[.agg #[.string ⟨t.toArray⟩,.int .i64 i]] w (Pg.PartsRet ARow w i (depR t)):=by
 obtain⟨E,hE⟩:=ex (depR t)
 rw[hE]
 obtain⟨V,hV⟩:=ex (w.alloc (.cells #[.string ⟨t.toArray⟩,.int .i64 i] 256))
 have HB:Hid (Below w.heap.size w V):=aa hV
 obtain⟨c0,c1⟩:=aS hV (Below.refl _ _)
 have HC:Hid (Calls Tryz.prog 245 #[.agg #[.string ⟨t.toArray⟩,.int .i64 i],.string ⟨#[32,111,114,32]⟩,.int .i64 8,.func (.func 246) #[] #[]] V (Pg.PartsRet ARow V i E)):=by
  have h:=fO t orT i 8 V (ab hw HB.out) ht (by decide) (by decide)
  rw[show partsR atomR orT 8 t=E from hE] at h
  exact h
 clear hw ht hE
 go_enter Tryz.func244,Tryz.ntmps244
 go_wp2_with fail
 clear hV
 refine HC.out.mono ?_
 rintro r u ⟨hb,hr⟩
 have HU:Hid (Below w.heap.size w u):=bt HB.out hb
 clear hb HC c0 c1
 cases E with
 | error k =>
  obtain rfl:r=panAt i k:=hr
  go_wp2_with fail
  exact⟨rfl,HU.out,rfl⟩
 | ok l =>
  obtain⟨A,n,c,rfl,hn,ac,hf⟩:=hr
  have HN:=zh hn
  have HR:=zh ac
  have HF:Hid (∀ a,A=some a->w.heap.size<=a.block):=fun a ha=>Nat.le_trans HB.out.size (hf a ha)
  clear hn ac hf
  go_wp2_with fail
  go_ret
  exact⟨HU.out,A,n,c,rfl,HN.out,HR.out,HF.out⟩
theorem nC (t sep:List UInt8)(i:Int)(most:Nat)(w:World)(hw:MaxOk w)(ht:t.length<=200000/\∀ p∈Lib.split t sep,Fit orT p)(h1:1<=sep.length)(hmo:most<=100) :
  Calls Tryz.prog 243 #[.agg #[.string ⟨t.toArray⟩,.int .i64 i],.string ⟨sep.toArray⟩,.int .i64 most,.func (.func 244) #[] #[]] w (Pg.PartsRet (fun u A l=>Pg.DRowF w.heap.size u A l) w i (partsR depR sep most t)):=by
 obtain⟨R,hR⟩:=ex (partsR depR sep most t)
 rw[hR]
 unfold partsR at hR
 obtain⟨V,hV⟩:=ex (w.alloc (.cells #[.string ⟨t.toArray⟩,.int .i64 i] 256))
 have HB:Hid (Below w.heap.size w V):=aa hV
 have HP:=zh (fun W (h:Below V.heap.size V W)=>aS hV h)
 have HM:=zh (fun W (h:Below V.heap.size V W)=>ab (ab hw HB.out) h)
 have HC:Hid (Calls Tryz.prog 274 #[.string ⟨t.toArray⟩,.string ⟨sep.toArray⟩,.int .i64 ((most:Int)+1)] V fun e w'=>∃ A m c,e=.returned (.slice A m c)/\(Lib.splitN t sep (most+1)).length=m/\m<=1000/\Rg.Row encT 1 w' A (Lib.splitN t sep (most+1))/\Below V.heap.size V w') :=
  gz t sep (most+1) V (HM.out _ (Below.refl _ _)) (Nat.le_trans ht.1 (by decide)) h1 (by omega) (by omega)
 have au:∀ p∈Lib.split t sep,Fit orT p:=ht.2
 obtain⟨f1,f2⟩:=gw (s:=t) (sep:=sep) (fun e=>by rw[e] at h1;simp at h1) most
 obtain⟨ps,aE⟩:=ex (Lib.split t sep)
 obtain⟨qs,aF⟩:=ex (Lib.splitN t sep (most+1))
 rw[aE] at hR f1 f2 au
 rw[aF] at f1 f2 HC
 have iw:IntKind.i64.wrap ((most:Int)+1)=(most:Int)+1:=IntWalk.i64_in _ (by omega)
 obtain⟨c0,c1⟩:=HP.out _ (Below.refl _ _)
 have HR:=zh hR
 have av:=zh f1
 have aB:=zh f2
 have aL:=zh au
 clear hw hR au f1 f2 aE aF
 go_enter Tryz.func243,Tryz.ntmps243
 go_wp2_with fail
 clear hV
 refine HC.out.mono ?_
 rintro _ z1 ⟨A,n,c,rfl,hn,aW,an,aG⟩
 have HN:=zh hn
 have af:=zh an
 have ao:=zh aG
 clear hn an aG HC c0 c1 iw
 obtain⟨c0,c1⟩:=HP.out _ ao.out
 by_cases ah:n<=most
 case neg =>
  have ax:Hid (R=.error 4):=by
   show _=_
   rw[<-HR.out,if_neg]
   intro hh
   have:=av.out hh
   rw[this] at HN
   have:=HN.out
   omega
  have d0:decide (n<=most)=false:=decide_eq_false ah
  clear ah
  go_wp2_with fail
  refine (aA t i false 4 _).mono ?_
  rintro _ u ⟨rfl,hb⟩
  have HU:Hid (Below w.heap.size w u):=HB.out.trans ((bt ao.out hb).mono HB.out.size)
  clear hb
  go_wp2_with fail
  exact⟨rfl,HU.out,by rw[ax.out]⟩
 have aM:qs=ps:=by
  rcases Nat.lt_or_ge most ps.length with h | h
  ·have:=aB.out h
   have:=HN.out
   omega
  ·exact av.out h
 subst aM
 have ax:Hid (rdL depR [] qs=R):=by
  show _=_
  rw[<-HR.out,if_pos (by rw[HN.out];exact ah)]
 have d0:decide (n<=most)=true:=decide_eq_true ah
 clear ah av aB HR
 go_wp2_with fail
 refine (aA t i true 4 _).mono ?_
 rintro _ z2 ⟨rfl,hb⟩
 have ap:Hid (Below V.heap.size V z2):=bt ao.out hb
 have ai:=zh (Rg.ag af.out hb)
 clear hb af d0 c0 c1 ao
 go_wp2_with fail
 go_loopw [10,27] (fun v i wr=>∃ (k:Nat) (acc:List (List Atm)) (ds:List Desc),k<=n/\i=.int .i64 k/\Hid (DOwnF wr z2.heap.size 81 v ds acc)/\Hid (Below z2.heap.size z2 wr/\z2.heap.size<=wr.heap.size)/\Hid (acc.length=k)/\Hid (rdL depR acc (qs.drop k)=R)) (fun _ i _=>n-(intOf i).toNat)
 case atStart=>exact⟨0,[],[],Nat.zero_le _,rfl,xZ _ _ _,⟨Below.refl _ _,Nat.le_refl _⟩,rfl,by show rdL _ _ (qs.drop 0)=R;rw[List.drop_zero,ax.out]⟩
 case round =>
  obtain⟨k,acc,ds,hk,rfl,HO,ae,HA,HE⟩:=hrel
  have aj:Hid (Below V.heap.size V wr):=ap.out.trans (ae.out.1.mono ap.out.size)
  by_cases aC:k<n
  ·have aD:=zh aC
   have ay:k<qs.length:=by rw[HN.out];exact aC
   obtain⟨ad,rfl,_,q0⟩:=cE (Rg.ag ai.out ae.out.1) k ay
   have aq:=aL.out _ (List.getElem_mem ay)
   have he:=HE.out
   rw[List.drop_eq_getElem_cons ay] at he
   obtain⟨p,hp⟩:=ex (qs[k])
   rw[hp] at aq he q0
   have aN:Hid (ds.length+1<=1000000):=by have h1:=HA.out;have h2:=HO.out.2.1.1;show _<=_;omega
   have ar:=zh (pE p i wr (HM.out _ aj.out) aq)
   obtain⟨c0,c1⟩:=HP.out _ aj.out
   obtain⟨E,hE⟩:=ex (depR p)
   rw[hE] at ar
   cases E with
   | error e =>
    have al:Hid (R=.error e):=by show _=_;rw[<-he];exact cZ hE
    clear he hp aq hE
    go_wp2_with fail
    refine ar.out.mono ?_
    rintro e z3 ⟨hb,rfl⟩
    have ac:Hid (Below w.heap.size w z3):=HB.out.trans ((bt aj.out hb).mono HB.out.size)
    clear hb
    go_wp2_with fail
    exact⟨rfl,ac.out,by rw[al.out]⟩
   | ok a =>
    have aO:Hid (rdL depR (acc++[a]) (qs.drop (k+1))=R):=by show _=_;rw[<-he];exact (fN hE).symm
    clear he hp aq hE
    go_wp2_with fail
    refine ar.out.mono ?_
    rintro e z3 ⟨hb,C,m,d,rfl,hm,hr,aH⟩
    have ac:=zh hb
    have aP:=zh hm
    have al:=zh hr
    have aQ:Hid (∀ a,C=some a->z2.heap.size<=a.block):=fun a ha=>Nat.le_trans ae.out.2 (aH a ha)
    clear hb hm hr aH c0 c1 q0 ar
    go_wp2_with (at_builtin;refine Pg.fa sliceD6 x8 zJ rfl (.tmp 31) (.tmp 38) rfl z2.heap.size _ ds [(C,m,d)] rfl (ec HO.out (ac.out.alloc ac.out.size _)).1 (ec HO.out (ac.out.alloc ac.out.size _)).2.2.2 _ _ rfl (Rg.aw z3 _ [(C,m,d)] _ (by rfl)) (Nat.zero_lt_succ _) aN.out ?b2 ?_)
    case b2=>have:=ae.out.2;have:=ac.out.size;simp;omega
    intro v5 W5 aI aJ az aV
    have am:Below wr.heap.size wr (z3.alloc (.cells #[.slice C m d] 81)):=ac.out.alloc ac.out.size _
    have aR:=zh (x7 (ec HO.out am) (bX al.out ((Below.refl _ _).alloc (Nat.le_refl _) _)) aP.out aQ.out aI aJ az)
    have aT:Hid (Below z2.heap.size z2 W5/\z2.heap.size<=W5.heap.size):=by
     have h2:=ae.out.1.trans ((am.mono ae.out.2).trans (Rg.ak (ec HO.out am).1 (Nat.le_trans ae.out.2 am.size) az))
     exact⟨h2,h2.size⟩
    clear aI aJ az aV am HO ac ae aj
    go_wp2_with fail
    go_roundw
    case rel=>exact⟨k+1,acc++[a],_,(by have:=aD.out;omega),by go_num,aR,aT,by show (acc++[a]).length=_;rw[List.length_append,HA.out];rfl,aO⟩
    case measure=>have:=aD.out;simp[intOf];omega
  ·obtain rfl:k=n:=by omega
   have al:Hid (R=.ok acc):=by show _=_;rw[<-HE.out,List.drop_eq_nil_of_le (by rw[HN.out];exact Nat.le_refl _)];rfl
   obtain⟨C,d,rfl,aK,hf⟩:=down_row HO.out
   have aU:=zh aK
   have HF:=zh hf
   clear aK hf
   go_wp2_with fail
   go_ret
   refine⟨bt HB.out aj.out,?_⟩
   rw[al.out]
   exact⟨C,_,d,rfl,rfl,gA aU.out (Nat.le_trans HB.out.size ap.out.size),fun a ha=>Nat.le_trans (Nat.le_trans HB.out.size ap.out.size) (HF.out a ha)⟩
end
section
open Go.RowKit
theorem qV (a b:Nat)(c:Int)(w:World)(ha:a<Wm.W)(hb:b<Wm.W)(h:cmpW a b=c) :
  Calls Tryz.prog 138 #[.float .f64 a,.float .f64 b] w fun e w'=>e=.returned (.int .i64 c)/\w=w':=by
 have:=va a b ha hb w;rw[<-h];exact this
theorem x9 (l:List UInt8):l=if Wm.sgnd l then 45 :: Wm.mgn l else Wm.mgn l:=by
 unfold Wm.mgn Wm.sgnd
 cases l with
 | nil=>rfl
 | cons c t =>
  by_cases hc:c=45
  ·subst hc;simp
  ·simp[hc]
theorem kP (l:List UInt8):Vm.has 112 l=Vm.has 112 (Wm.mgn l)/\Wm.mgn (Vm.fst 112 l)=Vm.fst 112 (Wm.mgn l)/\Wm.sgnd (Vm.fst 112 l)=Wm.sgnd l/\Vm.snd 112 l=Vm.snd 112 (Wm.mgn l):=by
 have hl:=x9 l
 cases hs:Wm.sgnd l
 ·have hm:Wm.mgn l=l:=by unfold Wm.mgn;rw[hs];rfl
  rw[hm]
  have hf:Wm.sgnd (Vm.fst 112 l)=false:=by
   unfold Vm.fst Wm.sgnd at *
   cases l with
   | nil=>rfl
   | cons c t =>
    rw[List.takeWhile_cons]
    cases c != 112
    ·rfl
    ·exact hs
  refine⟨rfl,?_,hf,rfl⟩
  unfold Wm.mgn;rw[hf];rfl
 ·rw[hs] at hl
  simp only[if_true] at hl
  generalize Wm.mgn l=t at *
  subst hl
  have h1:Vm.fst 112 (45 :: t)=45 :: Vm.fst 112 t:=by unfold Vm.fst;rw[List.takeWhile_cons];rfl
  refine⟨?_,?_,?_,?_⟩
  ·unfold Vm.has;simp
  ·rw[h1];rfl
  ·rw[h1];rfl
  ·unfold Vm.snd;rw[List.dropWhile_cons];rfl
def refRange (m n:Nat) (neg:Bool):Bool:=decide (m<=9007199254740991)&&(decide (n<=5000)&&(decide (-1074<=Wm.sg neg n)&&decide ((m.log2:Int)+1+Wm.sg neg n<=1024)))
theorem ji (l:List UInt8):refRange (Vm.num (Wm.mgn (Vm.fst 112 l))) (Vm.num (Wm.mgn (Vm.snd 112 l))) (Wm.sgnd (Vm.snd 112 l))=Wm.rangeOk (Wm.nmb (Vm.fst 112 l)) (Wm.nmb (Vm.snd 112 l)):=by
 generalize Vm.fst 112 l=a
 generalize Vm.snd 112 l=b
 have aa:Wm.sg (Wm.sgnd b) (Vm.num (Wm.mgn b))=if Wm.sgnd b then -(Vm.num (Wm.mgn b):Int) else Vm.num (Wm.mgn b):=by unfold Wm.sg;cases Wm.sgnd b <;> simp
 unfold refRange
 rw[aa]
 unfold Wm.nmb
 generalize Vm.num (Wm.mgn a)=m at *
 generalize Vm.num (Wm.mgn b)=n at *
 by_cases hm:m<=9007199254740991
 ·rw[decide_eq_true hm,Bool.true_and]
  have hF:∀ g:Bool,(if g=true then (if m<=9223372036854775808 then -(m:Int) else -9223372036854775808) else (if m<9223372036854775808 then (m:Int) else 9223372036854775807))=if g then -(m:Int) else m:=by
   intro g;cases g <;> simp only[Bool.false_eq_true,if_false,if_true] <;> rw[if_pos (by omega)]
  rw[hF]
  rw[Wm.je (by split <;> omega) (by split <;> omega)]
  have ab:(if Wm.sgnd a=true then -(m:Int) else m).natAbs=m:=by split <;> omega
  rw[ab]
  rw[Bool.eq_iff_iff]
  simp only[Bool.and_eq_true,decide_eq_true_eq]
  cases Wm.sgnd b
  ·simp only[Bool.false_eq_true,if_false]
   split <;> omega
  ·simp only[if_true]
   split <;> omega
 ·rw[decide_eq_false hm,Bool.false_and]
  symm
  cases Wm.sgnd a
  ·simp only[Bool.false_eq_true,if_false]
   exact Wm.kE (by split <;> omega)
  ·simp only[if_true]
   exact Wm.kD (by split <;> omega)
theorem refVal (l:List UInt8)(h:formOk l=true)(hr:Wm.rangeOk (Wm.nmb (Vm.fst 112 l)) (Wm.nmb (Vm.snd 112 l))=true) :
  Wm.prodVal (Wm.nmb (Vm.fst 112 l)) (Wm.nmb (Vm.snd 112 l))=Wm.word (Wm.sgnd l) (Wm.rungOf (Vm.num (Vm.fst 112 (Wm.mgn l))) (Wm.sg (Wm.sgnd (Vm.snd 112 l)) (Vm.num (Wm.mgn (Vm.snd 112 l)))))/\Vm.num (Vm.fst 112 (Wm.mgn l)) % 2=1:=by
 obtain⟨q1,q2,q3,q4⟩:=kP l
 rw[<-q2,<-q3]
 have hf:=h
 unfold formOk at hf
 simp only[Bool.and_eq_true] at hf
 obtain⟨_,h2,_,h4⟩:=hf
 have aa:=vh _ h2 h4
 have ab:=ji l
 rw[hr] at ab
 unfold refRange at ab
 simp only[Bool.and_eq_true,decide_eq_true_eq] at ab
 obtain⟨r1,r2,_⟩:=ab
 generalize Vm.fst 112 l=a at *
 generalize Vm.snd 112 l=b at *
 have hF:Wm.nmb a=if Wm.sgnd a then -(Vm.num (Wm.mgn a):Int) else Vm.num (Wm.mgn a):=by
  unfold Wm.nmb;cases Wm.sgnd a <;> simp only[Bool.false_eq_true,if_false,if_true] <;> rw[if_pos (by omega)]
 have hP:Wm.nmb b=Wm.sg (Wm.sgnd b) (Vm.num (Wm.mgn b)):=by
  unfold Wm.nmb Wm.sg;cases Wm.sgnd b <;> simp only[Bool.false_eq_true,if_false,if_true] <;> rw[if_pos (by omega)] <;> omega
 rw[hP]
 rw[hF] at aa ⊢
 unfold Wm.prodVal
 generalize Vm.num (Wm.mgn a)=m at *
 cases Wm.sgnd a
 ·simp only[Bool.false_eq_true,if_false] at aa ⊢
  rw[decide_eq_false (by omega),Int.natAbs_natCast]
  exact⟨rfl,by omega⟩
 ·simp only[if_true] at aa ⊢
  rw[decide_eq_true (by omega),Int.natAbs_neg,Int.natAbs_natCast]
  exact⟨rfl,by omega⟩
theorem ya (l:List UInt8)(hn:l≠[110,97,110]):outW l<Wm.W/\Wm.nan (outW l)=false:=by
 have ac:(0:Nat)<Wm.W/\Wm.nan 0=false:=⟨by decide,by decide⟩
 rcases mM l with rfl | rfl | rfl | rfl | rfl | ⟨_,_,_,_,_,he,hv⟩
 ·exact⟨by decide +kernel,by decide +kernel⟩
 ·exact⟨by decide +kernel,by decide +kernel⟩
 ·exact absurd rfl hn
 ·exact⟨by decide +kernel,by decide +kernel⟩
 ·exact⟨by decide +kernel,by decide +kernel⟩
 ·unfold outW
  by_cases h:errW l=0
  ·rw[if_pos h,hv]
   rw[he] at h
   unfold prodOf
   rw[if_pos h]
   unfold prodErr at h
   cases hf:formOk l
   ·rw[hf] at h;simp at h
   ·rw[hf] at h
    simp only[if_true] at h
    cases hr:Wm.rangeOk (Wm.nmb (Vm.fst 112 l)) (Wm.nmb (Vm.snd 112 l))
    ·rw[hr] at h;simp at h
    ·obtain⟨v1,v2⟩:=refVal l hf hr
     rw[v1]
     have ab:=ji l
     rw[hr] at ab
     unfold refRange at ab
     simp only[Bool.and_eq_true,decide_eq_true_eq] at ab
     obtain⟨r1,r2,r3,r4⟩:=ab
     obtain⟨q1,q2,q3,q4⟩:=kP l
     rw[q2] at r1 r4
     have hb:=Wm.iq (k:=Vm.num (Vm.fst 112 (Wm.mgn l))) (e:=Wm.sg (Wm.sgnd (Vm.snd 112 l)) (Vm.num (Wm.mgn (Vm.snd 112 l)))) (by omega) (by omega) (by omega)
     have aa:Fin (Wm.rungOf (Vm.num (Vm.fst 112 (Wm.mgn l))) (Wm.sg (Wm.sgnd (Vm.snd 112 l)) (Vm.num (Wm.mgn (Vm.snd 112 l))))):=hb
     exact⟨(bY aa _).1,(bY aa _).2.1⟩
  ·rw[if_neg h];exact ac
theorem zK (l:List UInt8):outW l<Wm.W:=by
 by_cases hn:l=[110,97,110]
 ·subst hn;decide +kernel
 ·exact (ya l hn).1
end
end Go.Proofs.YtgnaiidgjmicaaaGreatDoor
