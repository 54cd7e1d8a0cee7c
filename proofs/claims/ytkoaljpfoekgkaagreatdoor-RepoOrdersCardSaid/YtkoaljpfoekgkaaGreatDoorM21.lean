/- Part 21 of what the laws lean on. -/
import Derived.Test.YtkoaljpfoekgkaaGreatDoorM19
set_option maxRecDepth 100000
set_option maxHeartbeats 3200000
namespace Go.Proofs.YtkoaljpfoekgkaaGreatDoor
section
open Go.RowKit Rs At Pg
theorem Pg.aaT {w W1 u:World}{T:TypeId}{a b:Value}(h1:w.alloc (.cells #[a,b] T)=W1)(hb:Below W1.heap.size W1 u):∀ j,2<=j->u.cell? ⟨w.heap.size,j,none⟩=none:=fun j hj=>by
 have e1:u.heap[w.heap.size]?=some (.cells #[a,b] T (0,0)):=(hb.block _ (by rw[<-h1];simp)).trans (by rw[<-h1];exact heap_alloc_new w _)
 simp[World.cell?,e1];omega
def Pg.AtomRet (w:World) (i:Int) (R:Except Int Atm) (e:Ending) (w':World):Prop:=Below w.heap.size w w'/\match R with
 | .ok a=>∃ C m d,e=.returned (.agg #[.string ⟨a.name.toArray⟩,.slice C m d])/\a.rng.length=m/\SRow w' C a.rng
 | .error k=>e=panAt i k
theorem Pg.yJ {u:World}{b:Nat}{n:List UInt8}{C:Option Addr}{m d:Nat}{x y:Value}{tmps:Array Value}(k0:u.cell? ⟨b,0,none⟩=some x)(k1:u.cell? ⟨b,1,none⟩=some y)(h:tmps.getD 2 undef=.pointer (some ⟨b,0,none⟩)) :
  (results Tryz.f187 tmps).run Tryz.prog (stA u b n C m d)=.ok (.agg #[.string ⟨n.toArray⟩,.slice C m d]) (stA u b n C m d):=by
 have g0:(stA u b n C m d).cell? ⟨b,0,none⟩=some (.string ⟨n.toArray⟩):=by simp[stA,go_sem,k0]
 have g1:(stA u b n C m d).cell? ⟨b,1,none⟩=some (.slice C m d):=by simp[stA,go_sem,k1]
 have hr:Tryz.f187.results=#[.cell 2 54]:=Tryz.results187
 simp only[results,hr]
 generalize stA u b n C m d=V at *
 simp only[Array.getD_eq_getD_getElem?] at h ⊢
 simp[go_sem,h,g0,g1]
attribute [local go_sem ↓] Go.wp_at_zero Go.wp_at_succ
theorem pf (t:List UInt8)(i:Int)(w:World)(hw:MaxOk w)(ht:t.length<=1000) :
  Calls Tryz.prog 187 #[.agg #[.string ⟨t.toArray⟩,.int .i64 i]] w (Pg.AtomRet w i (atomR t)):=by
 obtain⟨E,hE⟩:=ex (atomR t)
 rw[hE]
 unfold atomR at hE
 obtain⟨V,hV⟩:=ex (w.alloc (.cells #[.string ⟨t.toArray⟩,.int .i64 i] 206))
 obtain⟨U,hU⟩:=ex (V.alloc (.cells #[.string ⟨#[]⟩,.slice none 0 0] 54))
 have ad:Hid (Below w.heap.size w V):=ab hV
 have ae:Hid (Below V.heap.size V U):=ab hU
 have HB:Hid (Below w.heap.size w U):=bt ad.out ae.out
 have HP:=zh (fun W (h:Below U.heap.size U W)=>ao hV (bt ae.out h))
 have HG:=zh (fun W (h:Below U.heap.size U W)=>cZ hU h)
 have HN:=zh (fun W (h:Below U.heap.size U W)=>aaT hU h)
 have HC:=zh (oY t U (aa hw HB.out) (Nat.le_trans ht (by decide)))
 have af:Hid (w.heap.size<=V.heap.size):=ad.out.size
 obtain⟨c0,c1⟩:=HP.out _ (Below.refl _ _)
 obtain⟨X,hX⟩:=ex (parseA t)
 rw[hX] at hE HC
 obtain⟨k,nm,l⟩:=X
 dsimp only at hE
 have HE:=zh hE
 clear hE hw ht hX
 go_enter Tryz.func187,Tryz.ntmps187
 go_wp2_with fail
 clear hV hU
 refine HC.out.mono ?_
 rintro _ u ⟨C,m,d,rfl,hm,hr,hb⟩
 have am:=zh hb
 have HM:=zh hm
 have HR:=zh hr
 dsimp only
 clear hb hm hr HC c0 c1
 obtain⟨G,hG⟩:=ex (u.alloc (.cells #[.string ⟨nm.toArray⟩,.slice C m d] 54))
 have ag:Hid (Below u.heap.size u G):=ab hG
 have ah:Hid (Below U.heap.size U G):=bt am.out ag.out
 have HQ:=zh (fun W (h:Below G.heap.size G W)=>ao hG h)
 obtain⟨c0,c1⟩:=HP.out _ ah.out
 go_wp2_with fail
 clear hG
 refine (cW t i k _).mono ?_
 rintro _ u2 ⟨rfl,hb⟩
 have ai:=zh hb
 have ac:Hid (Below U.heap.size U u2):=bt ah.out hb
 clear hb c0 c1
 by_cases h0:k=0
 case neg =>
  rw[gM h0]
  have HF:Hid (E=.error k):=by show _=_;rw[<-HE.out,if_neg h0]
  clear h0
  go_wp2_with fail
  refine⟨rfl,bt HB.out ac.out,?_⟩
  rw[HF.out]
 subst h0
 rw[ef]
 have HF:Hid (E=.ok ⟨nm,l⟩):=by show _=_;rw[<-HE.out];rfl
 obtain⟨p0,p1⟩:=HQ.out _ ai.out
 obtain⟨k0,k1,z0,z1⟩:=HG.out _ ac.out
 have ak:Hid (SRow u2 C l):=aj HR.out (bt ag.out ai.out)
 have al:=zh (fO ak.out (HN.out _ ac.out))
 go_wp2_with fail
 (try simp only[Exit.inBlock,Exit.then])
 refine bodyPost_ret (yJ k0 k1 rfl) rfl ?_
 refine⟨((bt HB.out ac.out).setCell af.out _).setCell af.out _,?_⟩
 rw[HF.out]
 exact⟨C,m,d,rfl,HM.out,dH (dH ak.out al.out) al.out⟩
theorem iC (s sep:List UInt8)(n:Nat)(w:World)(hm:MaxOk w)(hl:s.length<=900000)(h1:1<=sep.length)(hn:1<=n)(hn2:n<=1000) :
  Calls Tryz.prog 220 #[.string ⟨s.toArray⟩,.string ⟨sep.toArray⟩,.int .i64 n] w fun e w'=>∃ A m c,e=.returned (.slice A m c)/\(Lib.splitN s sep n).length=m/\m<=1000/\Rg.Row encT 1 w' A (Lib.splitN s sep n)/\Below w.heap.size w w':=by
 obtain⟨m,hm⟩:=hm
 refine (Tryz.strings_SplitN ⟨s.toArray⟩ ⟨sep.toArray⟩ n m w (by show s.length<_;omega) hm h1 hn (by omega)).mono ?_
 rintro e w' ⟨rfl,rfl⟩
 have hd:(Lib.splitB ⟨sep.toArray⟩ 0 (min n (s.length+1)-1) ⟨s.toArray⟩).map (·.data.toList)=Lib.splitN s sep n:=Lib.splitB_data _ _ _ _
 have hlen:=Lib.splitB_length_le ⟨sep.toArray⟩ 0 (min n (s.length+1)-1) ⟨s.toArray⟩
 obtain⟨ps,ab⟩:=ex (Lib.splitB ⟨sep.toArray⟩ 0 (min n (s.length+1)-1) ⟨s.toArray⟩)
 have aa:(⟨s.toArray⟩:ByteArray).size=s.length:=by show s.toArray.size=_;simp
 rw[aa]
 rw[ab] at hd hlen ⊢
 rw[<-hd]
 refine⟨_,_,_,rfl,by rw[List.length_map],by omega,fun _=>⟨_,rfl,by simp,fun i hi j v hv=>?_⟩,(Below.refl _ _).alloc (Nat.le_refl _) _⟩
 have hj:j=0:=by have h:=(List.getElem?_eq_some_iff.1 hv).1;simp only[encT,List.length_cons,List.length_nil] at h;omega
 subst hj
 rw[List.length_map] at hi
 rw[if_pos rfl,Nat.mul_one]
 have ha:(⟨w.heap.size,0,none⟩:Addr).add i=⟨w.heap.size,i,none⟩:=by unfold Addr.add;split <;> simp_all
 rw[ha,cell_of_row _ w.heap.size i _ _ (0,0) (heap_alloc_new w _)]
 rw[List.getElem_map] at hv
 unfold Lib.cellsOf
 rw[List.getElem?_toArray,List.getElem?_append_left (by rw[List.length_map];exact hi),List.getElem?_map,List.getElem?_eq_getElem hi]
 exact hv
theorem Pg.sliceA:Rg.SliceT Tryz.prog encA 2 35 54:=⟨fitsA,by decide,by kernel_rfl,Rg.bL (z:=.agg #[.string ByteArray.empty,.slice none 0 0]) (b:=40) (by kernel_rfl) (by rfl) (by decide)⟩
theorem Pg.yK:∀ i,Tryz.prog.info? 54=some i->∀ z,i.zero=some z->∀ u∈z.cells,NoB u:=jT (z0:=.agg #[.string ByteArray.empty,.slice none 0 0]) (by kernel_rfl) (fun u hu b e=>by subst e;simp[Value.cells] at hu)
theorem Pg.aaU:∀ x:AtD,∀ u∈encA x,NoB u:=fun x u hu b e=>by subst e;simp[encA] at hu
def Pg.AOwn (w:World) (B:Nat) (T:TypeId) (v:Value) (ds:List AtD) (l:List Atm):Prop:=Rg.Own encA 2 w B T v ds/\AIn w ds l/\Pure NoB w v
theorem Pg.aaV (w:World)(B:Nat)(T:TypeId):AOwn w B T (.slice none 0 0) [] []:=⟨Rg.aw _ _ _,⟨rfl,fun i d a h=>by simp at h⟩,pure_nil _ _⟩
theorem Pg.eI {w w':World}{B:Nat}{T:TypeId}{v:Value}{ds:List AtD}{l:List Atm}(h:AOwn w B T v ds l)(hb:Below w.heap.size w w'):AOwn w' B T v ds l:=⟨Rg.own_below h.1 hb,nZ h.2.1 hb,cQ h.2.2 h.1 hb⟩
theorem Pg.aaW {w:World}{ds:List AtD}{l:List Atm}{d:AtD}{a:Atm}(h:AIn w ds l)(h1:d.1=a.name)(h2:d.2.2.1=a.rng.length)(h3:SRow w d.2.1 a.rng):AIn w (ds++[d]) (l++[a]):=by
 refine⟨by rw[List.length_append,List.length_append,h.1];rfl,fun i x y e1 e2=>?_⟩
 rcases aI e1 with⟨q1,q2⟩ | ⟨q1,q2⟩
 ·rcases aI e2 with⟨_,p2⟩ | ⟨p1,_⟩
  ·exact h.2 i x y q2 p2
  ·have:=h.1;omega
 ·rcases aI e2 with⟨p1,_⟩ | ⟨_,p2⟩
  ·have:=h.1;omega
  ·subst q2 p2;exact⟨h1,h2,h3⟩
theorem Pg.aaX {w w':World}{B:Nat}{T:TypeId}{v v':Value}{ds:List AtD}{l:List Atm}{C:Option Addr}{m c:Nat}{a:Atm}(h:AOwn w B T v ds l)(hr:SRow w C a.rng)(hm:a.rng.length=m)(ho:Rg.Own encA 2 w' B T v' (ds++[(a.name,C,m,c)]))(hp:Pure NoB w' v')(hg:w.grownBy w' v.ownBlock):AOwn w' B T v' (ds++[(a.name,C,m,c)]) (l++[a]):=by
 have hb:But v.ownBlock w w':=cM hg
 refine⟨ho,aaW (nf h.2.1 hb h.2.2) rfl hm.symm (rC hr hb fun h0 q hq e=>?_),hp⟩
 cases hv:v.ownBlock with
 | none=>rw[hv] at e;cases e
 | some g=>rw[hv] at e;exact rD hr (h.2.2 g hv) h0 q hq e
theorem Pg.aaY {w:World}{B:Nat}{T:TypeId}{v:Value}{ds:List AtD}{l:List Atm}(h:AOwn w B T v ds l):∃ A c,v=.slice A l.length c/\ARow w A l/\∀ a,A=some a->B<=a.block:=by
 obtain⟨A,c,hv,hr,_,_⟩:=Rg.aA fitsA h.1
 rw[h.2.1.1] at hv
 exact⟨A,c,hv,⟨ds,hr,h.2.1⟩,fun a ha=>by subst ha;exact (Rg.bC h.1 a.block (by rw[hv];rfl)).1⟩
def Pg.Fit (sep t:List UInt8):Prop:=t.length<=200000/\∀ p∈Lib.split t sep,p.length<=1000
theorem Pg.jB {sep t:List UInt8}(h:t.length<=1000):Fit sep t:=⟨by omega,fun p hp=>Nat.le_trans (cm sep _ t p hp) h⟩
def Pg.ValFit (key t:List UInt8):Prop:=(key=kDep->t.length<=200000/\∀ p∈Lib.split t semi,Fit orT p)/\(key=kCon->Fit semi t)/\(key=kPro->Fit semi t)/\(key≠kDep->key≠kCon->key≠kPro->t.length<=1000)
theorem Pg.fq {key t:List UInt8}(h:t.length<=1000):ValFit key t:=⟨fun _=>⟨by omega,fun p hp=>jB (Nat.le_trans (cm semi _ t p hp) h)⟩,fun _=>jB h,fun _=>jB h,fun _ _ _=>h⟩
def Pg.PartsRet {β:Type} (M:World->Option Addr->List β->Prop) (w:World) (i:Int) (R:Except Int (List β)) (e:Ending) (w':World):Prop:=Below w.heap.size w w'/\match R with
 | .ok l=>∃ A n c,e=.returned (.slice A n c)/\l.length=n/\M w' A l/\∀ a,A=some a->w.heap.size<=a.block
 | .error k=>e=panAt i k
theorem gP (t sep:List UInt8)(i:Int)(most:Nat)(w:World)(hw:MaxOk w)(ht:Fit sep t)(h1:1<=sep.length)(hmo:most<=100) :
  Calls Tryz.prog 186 #[.agg #[.string ⟨t.toArray⟩,.int .i64 i],.string ⟨sep.toArray⟩,.int .i64 most,.func (.func 187) #[] #[]] w (Pg.PartsRet ARow w i (partsR atomR sep most t)):=by
 obtain⟨R,hR⟩:=ex (partsR atomR sep most t)
 rw[hR]
 unfold partsR at hR
 obtain⟨V,hV⟩:=ex (w.alloc (.cells #[.string ⟨t.toArray⟩,.int .i64 i] 206))
 have HB:Hid (Below w.heap.size w V):=ab hV
 have HP:=zh (fun W (h:Below V.heap.size V W)=>ao hV h)
 have HM:=zh (fun W (h:Below V.heap.size V W)=>aa (aa hw HB.out) h)
 have HC:Hid (Calls Tryz.prog 220 #[.string ⟨t.toArray⟩,.string ⟨sep.toArray⟩,.int .i64 ((most:Int)+1)] V fun e w'=>∃ A m c,e=.returned (.slice A m c)/\(Lib.splitN t sep (most+1)).length=m/\m<=1000/\Rg.Row encT 1 w' A (Lib.splitN t sep (most+1))/\Below V.heap.size V w') :=
  iC t sep (most+1) V (HM.out _ (Below.refl _ _)) (Nat.le_trans ht.1 (by decide)) h1 (by omega) (by omega)
 have av:∀ p∈Lib.split t sep,p.length<=1000:=ht.2
 obtain⟨f1,f2⟩:=iv (s:=t) (sep:=sep) (fun e=>by rw[e] at h1;simp at h1) most
 obtain⟨ps,aF⟩:=ex (Lib.split t sep)
 obtain⟨qs,aG⟩:=ex (Lib.splitN t sep (most+1))
 rw[aF] at hR f1 f2 av
 rw[aG] at f1 f2 HC
 have iw:IntKind.i64.wrap ((most:Int)+1)=(most:Int)+1:=IntWalk.i64_in _ (by omega)
 obtain⟨c0,c1⟩:=HP.out _ (Below.refl _ _)
 have HR:=zh hR
 have aw:=zh f1
 have aC:=zh f2
 have aM:=zh av
 clear hw hR av f1 f2 aF aG
 go_enter Tryz.func186,Tryz.ntmps186
 go_wp2_with fail
 clear hV
 refine HC.out.mono ?_
 rintro _ z1 ⟨A,n,c,rfl,hn,aV,an,aH⟩
 have HN:=zh hn
 have af:=zh an
 have ap:=zh aH
 clear hn an aH HC c0 c1 iw
 obtain⟨c0,c1⟩:=HP.out _ ap.out
 by_cases ag:n<=most
 case neg =>
  have ax:Hid (R=.error 4):=by
   show _=_
   rw[<-HR.out,if_neg]
   intro hh
   have:=aw.out hh
   rw[this] at HN
   have:=HN.out
   omega
  have d0:decide (n<=most)=false:=decide_eq_false ag
  clear ag
  go_wp2_with fail
  refine (aJ t i false 4 _).mono ?_
  rintro _ u ⟨rfl,hb⟩
  have HU:Hid (Below w.heap.size w u):=HB.out.trans ((bt ap.out hb).mono HB.out.size)
  clear hb
  go_wp2_with fail
  exact⟨rfl,HU.out,by rw[ax.out]⟩
 have aN:qs=ps:=by
  rcases Nat.lt_or_ge most ps.length with h | h
  ·have:=aC.out h
   have:=HN.out
   omega
  ·exact aw.out h
 subst aN
 have ax:Hid (rdL atomR [] qs=R):=by
  show _=_
  rw[<-HR.out,if_pos (by rw[HN.out];exact ag)]
 have d0:decide (n<=most)=true:=decide_eq_true ag
 clear ag aw aC HR
 go_wp2_with fail
 refine (aJ t i true 4 _).mono ?_
 rintro _ z2 ⟨rfl,hb⟩
 have az:Hid (Below V.heap.size V z2):=bt ap.out hb
 have ai:=zh (Rg.ah af.out hb)
 clear hb af d0 c0 c1 ap
 go_wp2_with fail
 go_loopw [10,27] (fun v i wr=>∃ (k:Nat) (acc:List Atm) (ds:List AtD),k<=n/\i=.int .i64 k/\Hid (AOwn wr z2.heap.size 54 v ds acc)/\Hid (Below z2.heap.size z2 wr/\z2.heap.size<=wr.heap.size)/\Hid (acc.length=k)/\Hid (rdL atomR acc (qs.drop k)=R)) (fun _ i _=>n-(intOf i).toNat)
 case atStart=>exact⟨0,[],[],Nat.zero_le _,rfl,aaV _ _ _,⟨Below.refl _ _,Nat.le_refl _⟩,rfl,by show rdL _ _ (qs.drop 0)=R;rw[List.drop_zero,ax.out]⟩
 case round =>
  obtain⟨k,acc,ds,hk,rfl,HO,ae,HA,HE⟩:=hrel
  have ak:Hid (Below V.heap.size V wr):=az.out.trans (ae.out.1.mono az.out.size)
  by_cases aD:k<n
  ·have aE:=zh aD
   have aA:k<qs.length:=by rw[HN.out];exact aD
   obtain⟨ad,rfl,_,q0⟩:=cU (Rg.ah ai.out ae.out.1) k aA
   have aq:=aM.out _ (List.getElem_mem aA)
   have he:=HE.out
   rw[List.drop_eq_getElem_cons aA] at he
   obtain⟨p,hp⟩:=ex (qs[k])
   rw[hp] at aq he q0
   have aO:Hid (ds.length+1<=1000000):=by have h1:=HA.out;have h2:=HO.out.2.1.1;show _<=_;omega
   have ar:=zh (pf p i wr (HM.out _ ak.out) aq)
   obtain⟨c0,c1⟩:=HP.out _ ak.out
   obtain⟨E,hE⟩:=ex (atomR p)
   rw[hE] at ar
   cases E with
   | error e =>
    have al:Hid (R=.error e):=by show _=_;rw[<-he];exact dp hE
    clear he hp aq hE
    go_wp2_with fail
    refine ar.out.mono ?_
    rintro e z3 ⟨hb,rfl⟩
    have ac:Hid (Below w.heap.size w z3):=HB.out.trans ((bt ak.out hb).mono HB.out.size)
    clear hb
    go_wp2_with fail
    exact⟨rfl,ac.out,by rw[al.out]⟩
   | ok a =>
    have aP:Hid (rdL atomR (acc++[a]) (qs.drop (k+1))=R):=by show _=_;rw[<-he];exact (gO hE).symm
    clear he hp aq hE
    go_wp2_with fail
    refine ar.out.mono ?_
    rintro e z3 ⟨hb,C,m,d,rfl,hm,hr⟩
    have ac:=zh hb
    have aQ:=zh hm
    have al:=zh hr
    clear hb hm hr c0 c1 q0 ar
    go_wp2_with (at_builtin;refine Pg.dx sliceA yK aaU rfl (.tmp 31) (.tmp 38) rfl z2.heap.size _ ds [(a.name,C,m,d)] rfl (eI HO.out (ac.out.alloc ac.out.size _)).1 (eI HO.out (ac.out.alloc ac.out.size _)).2.2 _ _ rfl (Rg.ay z3 _ _ _ (by rfl)) (Nat.zero_lt_succ _) aO.out ?b2 ?_)
    case b2=>have:=ae.out.2;have:=ac.out.size;simp;omega
    intro v5 W5 aI aK aB aU
    have am:Below wr.heap.size wr (z3.alloc (.cells #[.string ⟨a.name.toArray⟩,.slice C m d] 54)):=ac.out.alloc ac.out.size _
    have aR:=zh (aaX (eI HO.out am) (aj al.out ((Below.refl _ _).alloc (Nat.le_refl _) _)) aQ.out aI aK aB)
    have aS:Hid (Below z2.heap.size z2 W5/\z2.heap.size<=W5.heap.size):=by
     have h2:=ae.out.1.trans ((am.mono ae.out.2).trans (Rg.au (eI HO.out am).1 (Nat.le_trans ae.out.2 am.size) aB))
     exact⟨h2,h2.size⟩
    clear aI aK aB aU am HO ac ae ak
    go_wp2_with fail
    go_roundw
    case rel=>exact⟨k+1,acc++[a],_,(by have:=aE.out;omega),by go_num,aR,aS,by show (acc++[a]).length=_;rw[List.length_append,HA.out];rfl,aP⟩
    case measure=>have:=aE.out;simp[intOf];omega
  ·obtain rfl:k=n:=by omega
   have al:Hid (R=.ok acc):=by show _=_;rw[<-HE.out,List.drop_eq_nil_of_le (by rw[HN.out];exact Nat.le_refl _)];rfl
   obtain⟨C,d,rfl,aL,hf⟩:=aaY HO.out
   have aT:=zh aL
   have HF:=zh hf
   clear aL hf
   go_wp2_with fail
   go_ret
   refine⟨bt HB.out ak.out,?_⟩
   rw[al.out]
   exact⟨C,_,d,rfl,rfl,aT.out,fun a ha=>Nat.le_trans (Nat.le_trans HB.out.size az.out.size) (HF.out a ha)⟩
end
section
open Go.RowKit Go.ChangeShapes Go.WideShapes Go.Joins Rs At Pg
namespace Pg
instance:Inhabited Atm:=⟨⟨[],[]⟩⟩
instance:Inhabited Gv:=⟨⟨[],[]⟩⟩
end Pg
end
section
open Go.RowKit Rs At Pg
attribute [local go_sem ↓] Go.wp_at_zero Go.wp_at_succ
theorem Pg.aaZ (t:List UInt8):(Lib.cut t [32,61,32]).1.length<=t.length:=by
 unfold Lib.cut
 split
 ·show (t.take _).length<=_
  rw[List.length_take];omega
 ·exact Nat.le_refl _
theorem pj (t:List UInt8)(i:Int)(w:World)(hw:MaxOk w)(ht:t.length<=1000) :
  Calls Tryz.prog 189 #[.agg #[.string ⟨t.toArray⟩,.int .i64 i]] w fun r w'=>Below w.heap.size w w'/\match gvR t with
   | .ok a=>r=.returned (.agg #[.string ⟨a.name.toArray⟩,.string ⟨a.ver.toArray⟩])
   | .error k=>r=panAt i k :=
 (o8 t i w hw (by omega) (Nat.le_trans (Nat.le_trans (aaZ t) ht) (by decide))).mono fun r w' ⟨h1,h2⟩=>by
  refine⟨h2,?_⟩
  rw[yx] at h1
  cases h:gvR t with
  | ok a=>rw[h] at h1;exact h1
  | error k=>rw[h] at h1;exact h1
theorem Pg.sliceG:Rg.SliceT Tryz.prog encG 2 36 128:=⟨fitsG,by decide,by kernel_rfl,Rg.bL (z:=.agg #[.string ByteArray.empty,.string ByteArray.empty]) (b:=32) (by kernel_rfl) (by rfl) (by decide)⟩
theorem Pg.aa0 {w:World}{B:Nat}{T:TypeId}{v:Value}{l:List Gv}(h:Rg.Own encG 2 w B T v l):∃ A c,v=.slice A l.length c/\GRow w A l/\∀ a,A=some a->B<=a.block:=by
 obtain⟨A,c,hv,hr,_,_⟩:=Rg.aA fitsG h
 exact⟨A,c,hv,hr,fun a ha=>by subst ha;exact (Rg.bC h a.block (by rw[hv];rfl)).1⟩
theorem nn (t sep:List UInt8)(i:Int)(most:Nat)(w:World)(hw:MaxOk w)(ht:Fit sep t)(h1:1<=sep.length)(hmo:most<=100) :
  Calls Tryz.prog 188 #[.agg #[.string ⟨t.toArray⟩,.int .i64 i],.string ⟨sep.toArray⟩,.int .i64 most,.func (.func 189) #[] #[]] w (Pg.PartsRet GRow w i (partsR gvR sep most t)):=by
 obtain⟨R,hR⟩:=ex (partsR gvR sep most t)
 rw[hR]
 unfold partsR at hR
 obtain⟨V,hV⟩:=ex (w.alloc (.cells #[.string ⟨t.toArray⟩,.int .i64 i] 206))
 have HB:Hid (Below w.heap.size w V):=ab hV
 have HP:=zh (fun W (h:Below V.heap.size V W)=>ao hV h)
 have HM:=zh (fun W (h:Below V.heap.size V W)=>aa (aa hw HB.out) h)
 have HC:Hid (Calls Tryz.prog 220 #[.string ⟨t.toArray⟩,.string ⟨sep.toArray⟩,.int .i64 ((most:Int)+1)] V fun e w'=>∃ A m c,e=.returned (.slice A m c)/\(Lib.splitN t sep (most+1)).length=m/\m<=1000/\Rg.Row encT 1 w' A (Lib.splitN t sep (most+1))/\Below V.heap.size V w') :=
  iC t sep (most+1) V (HM.out _ (Below.refl _ _)) (Nat.le_trans ht.1 (by decide)) h1 (by omega) (by omega)
 have aq:∀ p∈Lib.split t sep,p.length<=1000:=ht.2
 obtain⟨f1,f2⟩:=iv (s:=t) (sep:=sep) (fun e=>by rw[e] at h1;simp at h1) most
 obtain⟨ps,aE⟩:=ex (Lib.split t sep)
 obtain⟨qs,aF⟩:=ex (Lib.splitN t sep (most+1))
 rw[aE] at hR f1 f2 aq
 rw[aF] at f1 f2 HC
 have iw:IntKind.i64.wrap ((most:Int)+1)=(most:Int)+1:=IntWalk.i64_in _ (by omega)
 obtain⟨c0,c1⟩:=HP.out _ (Below.refl _ _)
 have HR:=zh hR
 have ar:=zh f1
 have aB:=zh f2
 have aL:=zh aq
 clear hw hR aq f1 f2 aE aF
 go_enter Tryz.func188,Tryz.ntmps188
 go_wp2_with fail
 clear hV
 refine HC.out.mono ?_
 rintro _ z1 ⟨A,n,c,rfl,hn,aU,ak,aG⟩
 have HN:=zh hn
 have af:=zh ak
 have al:=zh aG
 clear hn ak aG HC c0 c1 iw
 obtain⟨c0,c1⟩:=HP.out _ al.out
 by_cases ag:n<=most
 case neg =>
  have av:Hid (R=.error 4):=by
   show _=_
   rw[<-HR.out,if_neg]
   intro hh
   have:=ar.out hh
   rw[this] at HN
   have:=HN.out
   omega
  have d0:decide (n<=most)=false:=decide_eq_false ag
  clear ag
  go_wp2_with fail
  refine (aJ t i false 4 _).mono ?_
  rintro _ u ⟨rfl,hb⟩
  have HU:Hid (Below w.heap.size w u):=HB.out.trans ((bt al.out hb).mono HB.out.size)
  clear hb
  go_wp2_with fail
  exact⟨rfl,HU.out,by rw[av.out]⟩
 have aM:qs=ps:=by
  rcases Nat.lt_or_ge most ps.length with h | h
  ·have:=aB.out h
   have:=HN.out
   omega
  ·exact ar.out h
 subst aM
 have av:Hid (rdL gvR [] qs=R):=by
  show _=_
  rw[<-HR.out,if_pos (by rw[HN.out];exact ag)]
 have d0:decide (n<=most)=true:=decide_eq_true ag
 clear ag ar aB HR
 go_wp2_with fail
 refine (aJ t i true 4 _).mono ?_
 rintro _ z2 ⟨rfl,hb⟩
 have ax:Hid (Below V.heap.size V z2):=bt al.out hb
 have ai:=zh (Rg.ah af.out hb)
 clear hb af d0 c0 c1 al
 go_wp2_with fail
 go_loopw [10,27] (fun v i wr=>∃ (k:Nat) (acc:List Gv),k<=n/\i=.int .i64 k/\Hid (Rg.Own encG 2 wr z2.heap.size 128 v acc)/\Hid (Below z2.heap.size z2 wr/\z2.heap.size<=wr.heap.size)/\Hid (acc.length=k)/\Hid (rdL gvR acc (qs.drop k)=R)) (fun _ i _=>n-(intOf i).toNat)
 case atStart=>exact⟨0,[],Nat.zero_le _,rfl,Rg.aw _ _ _,⟨Below.refl _ _,Nat.le_refl _⟩,rfl,by show rdL _ _ (qs.drop 0)=R;rw[List.drop_zero,av.out]⟩
 case round =>
  obtain⟨k,acc,hk,rfl,HO,ae,HA,HE⟩:=hrel
  have aj:Hid (Below V.heap.size V wr):=ax.out.trans (ae.out.1.mono ax.out.size)
  by_cases aC:k<n
  ·have aD:=zh aC
   have az:k<qs.length:=by rw[HN.out];exact aC
   obtain⟨ad,rfl,_,q0⟩:=cU (Rg.ah ai.out ae.out.1) k az
   have am:=aL.out _ (List.getElem_mem az)
   have he:=HE.out
   rw[List.drop_eq_getElem_cons az] at he
   obtain⟨p,hp⟩:=ex (qs[k])
   rw[hp] at am he q0
   have aN:Hid (acc.length+1<=1000000):=by have h1:=HA.out;show _<=_;omega
   have an:=zh (pj p i wr (HM.out _ aj.out) am)
   obtain⟨c0,c1⟩:=HP.out _ aj.out
   obtain⟨E,hE⟩:=ex (gvR p)
   rw[hE] at an
   cases E with
   | error e =>
    have aA:Hid (R=.error e):=by show _=_;rw[<-he];exact dp hE
    clear he hp am hE
    go_wp2_with fail
    refine an.out.mono ?_
    rintro e z3 ⟨hb,rfl⟩
    have ac:Hid (Below w.heap.size w z3):=HB.out.trans ((bt aj.out hb).mono HB.out.size)
    clear hb
    go_wp2_with fail
    exact⟨rfl,ac.out,by rw[aA.out]⟩
   | ok a =>
    have aP:Hid (rdL gvR (acc++[a]) (qs.drop (k+1))=R):=by show _=_;rw[<-he];exact (gO hE).symm
    clear he hp am hE
    go_wp2_with fail
    refine an.out.mono ?_
    rintro e z3 ⟨hb,rfl⟩
    have ac:=zh hb
    clear hb c0 c1 q0 an
    go_wp2_with (at_builtin;refine Rg.aO sliceG rfl (.tmp 31) (.tmp 38) rfl z2.heap.size _ acc [a] rfl (Rg.own_below HO.out (ac.out.alloc ac.out.size _)) _ _ rfl (Rg.ay z3 _ _ _ (by rfl)) (Nat.zero_lt_succ _) aN.out ?b2 ?_)
    case b2=>have:=ae.out.2;have:=ac.out.size;simp;omega
    intro v5 W5 aH aI aT
    have ap:Below wr.heap.size wr (z3.alloc (.cells #[.string ⟨a.name.toArray⟩,.string ⟨a.ver.toArray⟩] 128)):=ac.out.alloc ac.out.size _
    have aQ:Hid (Rg.Own encG 2 W5 z2.heap.size 128 v5 (acc++[a])):=aH
    have aR:Hid (Below z2.heap.size z2 W5/\z2.heap.size<=W5.heap.size):=by
     have h2:=ae.out.1.trans ((ap.mono ae.out.2).trans (Rg.au (Rg.own_below HO.out ap) (Nat.le_trans ae.out.2 ap.size) aI))
     exact⟨h2,h2.size⟩
    clear aH aI aT ap HO ac ae aj
    go_wp2_with fail
    go_roundw
    case rel=>exact⟨k+1,acc++[a],(by have:=aD.out;omega),by go_num,aQ,aR,by show (acc++[a]).length=_;rw[List.length_append,HA.out];rfl,aP⟩
    case measure=>have:=aD.out;simp[intOf];omega
  ·obtain rfl:k=n:=by omega
   have aA:Hid (R=.ok acc):=by show _=_;rw[<-HE.out,List.drop_eq_nil_of_le (by rw[HN.out];exact Nat.le_refl _)];rfl
   obtain⟨C,d,rfl,aK,hf⟩:=aa0 HO.out
   have aS:=zh aK
   have HF:=zh hf
   clear aK hf
   go_wp2_with fail
   go_ret
   refine⟨bt HB.out aj.out,?_⟩
   rw[aA.out]
   exact⟨C,_,d,rfl,rfl,aS.out,fun a ha=>Nat.le_trans (Nat.le_trans HB.out.size ax.out.size) (HF.out a ha)⟩
def Pg.DFresh (B:Nat) (ds:List Desc):Prop:=∀ (i:Nat) (d:Desc),ds[i]?=some d->∀ a,d.1=some a->B<=a.block
def Pg.DRowF (B:Nat) (w:World) (A:Option Addr) (t:List (List Atm)):Prop:=∃ ds,Rg.Row encO 1 w A ds/\DIn w ds t/\DFresh B ds
theorem Pg.iD {B B':Nat}{w:World}{A:Option Addr}{t:List (List Atm)}(h:Pg.DRowF B w A t)(hB:B'<=B):Pg.DRowF B' w A t:=by
 obtain⟨ds,h1,h2,h3⟩:=h
 exact⟨ds,h1,h2,fun i d e a ha=>Nat.le_trans hB (h3 i d e a ha)⟩
def Pg.DOwnF (w:World) (B:Nat) (T:TypeId) (v:Value) (ds:List Desc) (t:List (List Atm)):Prop:=Rg.Own encO 1 w B T v ds/\DIn w ds t/\DFresh B ds/\Pure IsSl w v
theorem Pg.aa1 (w:World)(B:Nat)(T:TypeId):DOwnF w B T (.slice none 0 0) [] []:=⟨Rg.aw _ _ _,⟨rfl,fun i a d h=>by simp at h⟩,fun i a h=>by simp at h,pure_nil _ _⟩
theorem Pg.eJ {w w':World}{B:Nat}{T:TypeId}{v:Value}{ds:List Desc}{t:List (List Atm)}(h:DOwnF w B T v ds t)(hb:Below w.heap.size w w'):DOwnF w' B T v ds t:=⟨Rg.own_below h.1 hb,fP h.2.1 hb,h.2.2.1,cQ h.2.2.2 h.1 hb⟩
theorem Pg.oC {w w':World}{v:Value}{A:Option Addr}{l:List Atm}(h:ARow w A l)(hp:Pure IsSl w v)(hb:But v.ownBlock w w'):ARow w' A l:=by
 refine dL h hb ?_ fun g hg j x hx=>adp (hp g hg j x hx)
 cases hv:v.ownBlock with
 | none=>exact fun _ a _ e=>by cases e
 | some g=>exact acu h (hp g hv)
theorem Pg.aa2 {w w':World}{B:Nat}{T:TypeId}{v v':Value}{ds:List Desc}{t:List (List Atm)}{C:Option Addr}{m c:Nat}{l:List Atm}(h:DOwnF w B T v ds t)(hr:ARow w C l)(hm:l.length=m)(hf:∀ a,C=some a->B<=a.block)(ho:Rg.Own encO 1 w' B T v' (ds++[(C,m,c)]))(hp:Pure IsSl w' v')(hg:w.grownBy w' v.ownBlock):DOwnF w' B T v' (ds++[(C,m,c)]) (t++[l]):=by
 have hb:But v.ownBlock w w':=cM hg
 refine⟨ho,⟨by rw[List.length_append,List.length_append,h.2.1.1];rfl,fun i x y e1 e2=>?_⟩,fun i x e1=>?_,hp⟩
 ·rcases aI e1 with⟨q1,q2⟩ | ⟨q1,q2⟩
  ·rcases aI e2 with⟨_,p2⟩ | ⟨p1,_⟩
   ·exact⟨(h.2.1.2 i x y q2 p2).1,oC (h.2.1.2 i x y q2 p2).2 h.2.2.2 hb⟩
   ·have:=h.2.1.1;omega
  ·rcases aI e2 with⟨p1,_⟩ | ⟨_,p2⟩
   ·have:=h.2.1.1;omega
   ·subst q2 p2;exact⟨hm.symm,oC hr h.2.2.2 hb⟩
 ·rcases aI e1 with⟨q1,q2⟩ | ⟨q1,q2⟩
  ·exact h.2.2.1 i x q2
  ·subst q2;exact hf
theorem Pg.down_row {w:World}{B:Nat}{T:TypeId}{v:Value}{ds:List Desc}{t:List (List Atm)}(h:DOwnF w B T v ds t):∃ A c,v=.slice A t.length c/\Pg.DRowF B w A t/\∀ a,A=some a->B<=a.block:=by
 obtain⟨A,c,hv,hr,_,_⟩:=Rg.aA fitsO h.1
 rw[h.2.1.1] at hv
 exact⟨A,c,hv,⟨ds,hr,h.2.1,h.2.2.1⟩,fun a ha=>by subst ha;exact (Rg.bC h.1 a.block (by rw[hv];rfl)).1⟩
theorem Pg.sliceD6:Rg.SliceT Tryz.prog encO 1 34 65:=⟨fitsO,by decide,by kernel_rfl,Rg.bL (z:=.slice none 0 0) (b:=24) (by kernel_rfl) (by rfl) (by decide)⟩
theorem Pg.aa3:∀ i,Tryz.prog.info? 65=some i->∀ z,i.zero=some z->∀ u∈z.cells,IsSl u:=jT (z0:=.slice none 0 0) (by kernel_rfl) (fun u hu=>by simp[Value.cells] at hu;exact⟨_,_,_,hu⟩)
theorem Pg.vb:∀ x:Desc,∀ u∈encO x,IsSl u:=fun _ _ hu=>⟨_,_,_,List.mem_singleton.1 hu⟩
theorem rQ (t:List UInt8)(i:Int)(w:World)(hw:MaxOk w)(ht:Fit orT t) :
  Calls Tryz.prog 185 #[.agg #[.string ⟨t.toArray⟩,.int .i64 i]] w (Pg.PartsRet ARow w i (depR t)):=by
 obtain⟨E,hE⟩:=ex (depR t)
 rw[hE]
 obtain⟨V,hV⟩:=ex (w.alloc (.cells #[.string ⟨t.toArray⟩,.int .i64 i] 206))
 have HB:Hid (Below w.heap.size w V):=ab hV
 obtain⟨c0,c1⟩:=ao hV (Below.refl _ _)
 have HC:Hid (Calls Tryz.prog 186 #[.agg #[.string ⟨t.toArray⟩,.int .i64 i],.string ⟨#[32,111,114,32]⟩,.int .i64 8,.func (.func 187) #[] #[]] V (Pg.PartsRet ARow V i E)):=by
  have h:=gP t orT i 8 V (aa hw HB.out) ht (by decide) (by decide)
  rw[show partsR atomR orT 8 t=E from hE] at h
  exact h
 clear hw ht hE
 go_enter Tryz.func185,Tryz.ntmps185
 go_wp2_with fail
 clear hV
 refine HC.out.mono ?_
 rintro r u ⟨hb,hr⟩
 have HU:Hid (Below w.heap.size w u):=bt HB.out hb
 clear hb HC c0 c1
 cases E with
 | error k =>
  obtain rfl:r=panAt i k:=hr
  go_wp2_with fail
  exact⟨rfl,HU.out,rfl⟩
 | ok l =>
  obtain⟨A,n,c,rfl,hn,ac,hf⟩:=hr
  have HN:=zh hn
  have HR:=zh ac
  have HF:Hid (∀ a,A=some a->w.heap.size<=a.block):=fun a ha=>Nat.le_trans HB.out.size (hf a ha)
  clear hn ac hf
  go_wp2_with fail
  go_ret
  exact⟨HU.out,A,n,c,rfl,HN.out,HR.out,HF.out⟩
theorem pk (t sep:List UInt8)(i:Int)(most:Nat)(w:World)(hw:MaxOk w)(ht:t.length<=200000/\∀ p∈Lib.split t sep,Fit orT p)(h1:1<=sep.length)(hmo:most<=100) :
  Calls Tryz.prog 184 #[.agg #[.string ⟨t.toArray⟩,.int .i64 i],.string ⟨sep.toArray⟩,.int .i64 most,.func (.func 185) #[] #[]] w (Pg.PartsRet (fun u A l=>Pg.DRowF w.heap.size u A l) w i (partsR depR sep most t)):=by
 obtain⟨R,hR⟩:=ex (partsR depR sep most t)
 rw[hR]
 unfold partsR at hR
 obtain⟨V,hV⟩:=ex (w.alloc (.cells #[.string ⟨t.toArray⟩,.int .i64 i] 206))
 have HB:Hid (Below w.heap.size w V):=ab hV
 have HP:=zh (fun W (h:Below V.heap.size V W)=>ao hV h)
 have HM:=zh (fun W (h:Below V.heap.size V W)=>aa (aa hw HB.out) h)
 have HC:Hid (Calls Tryz.prog 220 #[.string ⟨t.toArray⟩,.string ⟨sep.toArray⟩,.int .i64 ((most:Int)+1)] V fun e w'=>∃ A m c,e=.returned (.slice A m c)/\(Lib.splitN t sep (most+1)).length=m/\m<=1000/\Rg.Row encT 1 w' A (Lib.splitN t sep (most+1))/\Below V.heap.size V w') :=
  iC t sep (most+1) V (HM.out _ (Below.refl _ _)) (Nat.le_trans ht.1 (by decide)) h1 (by omega) (by omega)
 have av:∀ p∈Lib.split t sep,Fit orT p:=ht.2
 obtain⟨f1,f2⟩:=iv (s:=t) (sep:=sep) (fun e=>by rw[e] at h1;simp at h1) most
 obtain⟨ps,aF⟩:=ex (Lib.split t sep)
 obtain⟨qs,aG⟩:=ex (Lib.splitN t sep (most+1))
 rw[aF] at hR f1 f2 av
 rw[aG] at f1 f2 HC
 have iw:IntKind.i64.wrap ((most:Int)+1)=(most:Int)+1:=IntWalk.i64_in _ (by omega)
 obtain⟨c0,c1⟩:=HP.out _ (Below.refl _ _)
 have HR:=zh hR
 have aw:=zh f1
 have aC:=zh f2
 have aN:=zh av
 clear hw hR av f1 f2 aF aG
 go_enter Tryz.func184,Tryz.ntmps184
 go_wp2_with fail
 clear hV
 refine HC.out.mono ?_
 rintro _ z1 ⟨A,n,c,rfl,hn,aX,am,aH⟩
 have HN:=zh hn
 have af:=zh am
 have an:=zh aH
 clear hn am aH HC c0 c1 iw
 obtain⟨c0,c1⟩:=HP.out _ an.out
 by_cases ag:n<=most
 case neg =>
  have ax:Hid (R=.error 4):=by
   show _=_
   rw[<-HR.out,if_neg]
   intro hh
   have:=aw.out hh
   rw[this] at HN
   have:=HN.out
   omega
  have d0:decide (n<=most)=false:=decide_eq_false ag
  clear ag
  go_wp2_with fail
  refine (aJ t i false 4 _).mono ?_
  rintro _ u ⟨rfl,hb⟩
  have HU:Hid (Below w.heap.size w u):=HB.out.trans ((bt an.out hb).mono HB.out.size)
  clear hb
  go_wp2_with fail
  exact⟨rfl,HU.out,by rw[ax.out]⟩
 have aO:qs=ps:=by
  rcases Nat.lt_or_ge most ps.length with h | h
  ·have:=aC.out h
   have:=HN.out
   omega
  ·exact aw.out h
 subst aO
 have ax:Hid (rdL depR [] qs=R):=by
  show _=_
  rw[<-HR.out,if_pos (by rw[HN.out];exact ag)]
 have d0:decide (n<=most)=true:=decide_eq_true ag
 clear ag aw aC HR
 go_wp2_with fail
 refine (aJ t i true 4 _).mono ?_
 rintro _ z2 ⟨rfl,hb⟩
 have ap:Hid (Below V.heap.size V z2):=bt an.out hb
 have ai:=zh (Rg.ah af.out hb)
 clear hb af d0 c0 c1 an
 go_wp2_with fail
 go_loopw [10,27] (fun v i wr=>∃ (k:Nat) (acc:List (List Atm)) (ds:List Desc),k<=n/\i=.int .i64 k/\Hid (DOwnF wr z2.heap.size 65 v ds acc)/\Hid (Below z2.heap.size z2 wr/\z2.heap.size<=wr.heap.size)/\Hid (acc.length=k)/\Hid (rdL depR acc (qs.drop k)=R)) (fun _ i _=>n-(intOf i).toNat)
 case atStart=>exact⟨0,[],[],Nat.zero_le _,rfl,aa1 _ _ _,⟨Below.refl _ _,Nat.le_refl _⟩,rfl,by show rdL _ _ (qs.drop 0)=R;rw[List.drop_zero,ax.out]⟩
 case round =>
  obtain⟨k,acc,ds,hk,rfl,HO,ae,HA,HE⟩:=hrel
  have aj:Hid (Below V.heap.size V wr):=ap.out.trans (ae.out.1.mono ap.out.size)
  by_cases aD:k<n
  ·have aE:=zh aD
   have az:k<qs.length:=by rw[HN.out];exact aD
   obtain⟨ad,rfl,_,q0⟩:=cU (Rg.ah ai.out ae.out.1) k az
   have aq:=aN.out _ (List.getElem_mem az)
   have he:=HE.out
   rw[List.drop_eq_getElem_cons az] at he
   obtain⟨p,hp⟩:=ex (qs[k])
   rw[hp] at aq he q0
   have aP:Hid (ds.length+1<=1000000):=by have h1:=HA.out;have h2:=HO.out.2.1.1;show _<=_;omega
   have ar:=zh (rQ p i wr (HM.out _ aj.out) aq)
   obtain⟨c0,c1⟩:=HP.out _ aj.out
   obtain⟨E,hE⟩:=ex (depR p)
   rw[hE] at ar
   cases E with
   | error e =>
    have ak:Hid (R=.error e):=by show _=_;rw[<-he];exact dp hE
    clear he hp aq hE
    go_wp2_with fail
    refine ar.out.mono ?_
    rintro e z3 ⟨hb,rfl⟩
    have ac:Hid (Below w.heap.size w z3):=HB.out.trans ((bt aj.out hb).mono HB.out.size)
    clear hb
    go_wp2_with fail
    exact⟨rfl,ac.out,by rw[ak.out]⟩
   | ok a =>
    have aQ:Hid (rdL depR (acc++[a]) (qs.drop (k+1))=R):=by show _=_;rw[<-he];exact (gO hE).symm
    clear he hp aq hE
    go_wp2_with fail
    refine ar.out.mono ?_
    rintro e z3 ⟨hb,C,m,d,rfl,hm,hr,aI⟩
    have ac:=zh hb
    have aR:=zh hm
    have ak:=zh hr
    have aS:Hid (∀ a,C=some a->z2.heap.size<=a.block):=fun a ha=>Nat.le_trans ae.out.2 (aI a ha)
    clear hb hm hr aI c0 c1 q0 ar
    go_wp2_with (at_builtin;refine Pg.dx sliceD6 aa3 vb rfl (.tmp 31) (.tmp 38) rfl z2.heap.size _ ds [(C,m,d)] rfl (eJ HO.out (ac.out.alloc ac.out.size _)).1 (eJ HO.out (ac.out.alloc ac.out.size _)).2.2.2 _ _ rfl (Rg.ay z3 _ [(C,m,d)] _ (by rfl)) (Nat.zero_lt_succ _) aP.out ?b2 ?_)
    case b2=>have:=ae.out.2;have:=ac.out.size;simp;omega
    intro v5 W5 aK aL aA aW
    have al:Below wr.heap.size wr (z3.alloc (.cells #[.slice C m d] 65)):=ac.out.alloc ac.out.size _
    have aT:=zh (aa2 (eJ HO.out al) (aB ak.out ((Below.refl _ _).alloc (Nat.le_refl _) _)) aR.out aS.out aK aL aA)
    have aU:Hid (Below z2.heap.size z2 W5/\z2.heap.size<=W5.heap.size):=by
     have h2:=ae.out.1.trans ((al.mono ae.out.2).trans (Rg.au (eJ HO.out al).1 (Nat.le_trans ae.out.2 al.size) aA))
     exact⟨h2,h2.size⟩
    clear aK aL aA aW al HO ac ae aj
    go_wp2_with fail
    go_roundw
    case rel=>exact⟨k+1,acc++[a],_,(by have:=aE.out;omega),by go_num,aT,aU,by show (acc++[a]).length=_;rw[List.length_append,HA.out];rfl,aQ⟩
    case measure=>have:=aE.out;simp[intOf];omega
  ·obtain rfl:k=n:=by omega
   have ak:Hid (R=.ok acc):=by show _=_;rw[<-HE.out,List.drop_eq_nil_of_le (by rw[HN.out];exact Nat.le_refl _)];rfl
   obtain⟨C,d,rfl,aM,hf⟩:=down_row HO.out
   have aV:=zh aM
   have HF:=zh hf
   clear aM hf
   go_wp2_with fail
   go_ret
   refine⟨bt HB.out aj.out,?_⟩
   rw[ak.out]
   exact⟨C,_,d,rfl,rfl,iD aV.out (Nat.le_trans HB.out.size ap.out.size),fun a ha=>Nat.le_trans (Nat.le_trans HB.out.size ap.out.size) (HF.out a ha)⟩
end
section
open Go.RowKit
theorem aa4 (l:List UInt8):l=if Wm.sgnd l then 45 :: Wm.mgn l else Wm.mgn l:=by
 unfold Wm.mgn Wm.sgnd
 cases l with
 | nil=>rfl
 | cons c t =>
  by_cases hc:c=45
  ·subst hc;simp
  ·simp[hc]
theorem mo (l:List UInt8):Vm.has 112 l=Vm.has 112 (Wm.mgn l)/\Wm.mgn (Vm.fst 112 l)=Vm.fst 112 (Wm.mgn l)/\Wm.sgnd (Vm.fst 112 l)=Wm.sgnd l/\Vm.snd 112 l=Vm.snd 112 (Wm.mgn l):=by
 have hl:=aa4 l
 cases hs:Wm.sgnd l
 ·have hm:Wm.mgn l=l:=by unfold Wm.mgn;rw[hs];rfl
  rw[hm]
  have hf:Wm.sgnd (Vm.fst 112 l)=false:=by
   unfold Vm.fst Wm.sgnd at *
   cases l with
   | nil=>rfl
   | cons c t =>
    rw[List.takeWhile_cons]
    cases c != 112
    ·rfl
    ·exact hs
  refine⟨rfl,?_,hf,rfl⟩
  unfold Wm.mgn;rw[hf];rfl
 ·rw[hs] at hl
  simp only[if_true] at hl
  generalize Wm.mgn l=t at *
  subst hl
  have h1:Vm.fst 112 (45 :: t)=45 :: Vm.fst 112 t:=by unfold Vm.fst;rw[List.takeWhile_cons];rfl
  refine⟨?_,?_,?_,?_⟩
  ·unfold Vm.has;simp
  ·rw[h1];rfl
  ·rw[h1];rfl
  ·unfold Vm.snd;rw[List.dropWhile_cons];rfl
def refRange (m n:Nat) (neg:Bool):Bool:=decide (m<=9007199254740991)&&(decide (n<=5000)&&(decide (-1074<=Wm.sg neg n)&&decide ((m.log2:Int)+1+Wm.sg neg n<=1024)))
theorem kp (l:List UInt8):refRange (Vm.num (Wm.mgn (Vm.fst 112 l))) (Vm.num (Wm.mgn (Vm.snd 112 l))) (Wm.sgnd (Vm.snd 112 l))=Wm.rangeOk (Wm.nmb (Vm.fst 112 l)) (Wm.nmb (Vm.snd 112 l)):=by
 generalize Vm.fst 112 l=a
 generalize Vm.snd 112 l=b
 have aa:Wm.sg (Wm.sgnd b) (Vm.num (Wm.mgn b))=if Wm.sgnd b then -(Vm.num (Wm.mgn b):Int) else Vm.num (Wm.mgn b):=by unfold Wm.sg;cases Wm.sgnd b <;> simp
 unfold refRange
 rw[aa]
 unfold Wm.nmb
 generalize Vm.num (Wm.mgn a)=m at *
 generalize Vm.num (Wm.mgn b)=n at *
 by_cases hm:m<=9007199254740991
 ·rw[decide_eq_true hm,Bool.true_and]
  have hF:∀ g:Bool,(if g=true then (if m<=9223372036854775808 then -(m:Int) else -9223372036854775808) else (if m<9223372036854775808 then (m:Int) else 9223372036854775807))=if g then -(m:Int) else m:=by
   intro g;cases g <;> simp only[Bool.false_eq_true,if_false,if_true] <;> rw[if_pos (by omega)]
  rw[hF]
  rw[Wm.kj (by split <;> omega) (by split <;> omega)]
  have ab:(if Wm.sgnd a=true then -(m:Int) else m).natAbs=m:=by split <;> omega
  rw[ab]
  rw[Bool.eq_iff_iff]
  simp only[Bool.and_eq_true,decide_eq_true_eq]
  cases Wm.sgnd b
  ·simp only[Bool.false_eq_true,if_false]
   split <;> omega
  ·simp only[if_true]
   split <;> omega
 ·rw[decide_eq_false hm,Bool.false_and]
  symm
  cases Wm.sgnd a
  ·simp only[Bool.false_eq_true,if_false]
   exact Wm.ma (by split <;> omega)
  ·simp only[if_true]
   exact Wm.l9 (by split <;> omega)
theorem refVal (l:List UInt8)(h:formOk l=true)(hr:Wm.rangeOk (Wm.nmb (Vm.fst 112 l)) (Wm.nmb (Vm.snd 112 l))=true) :
  Wm.prodVal (Wm.nmb (Vm.fst 112 l)) (Wm.nmb (Vm.snd 112 l))=Wm.word (Wm.sgnd l) (Wm.rungOf (Vm.num (Vm.fst 112 (Wm.mgn l))) (Wm.sg (Wm.sgnd (Vm.snd 112 l)) (Vm.num (Wm.mgn (Vm.snd 112 l)))))/\Vm.num (Vm.fst 112 (Wm.mgn l)) % 2=1:=by
 obtain⟨q1,q2,q3,q4⟩:=mo l
 rw[<-q2,<-q3]
 have hf:=h
 unfold formOk at hf
 simp only[Bool.and_eq_true] at hf
 obtain⟨_,h2,_,h4⟩:=hf
 have aa:=yl _ h2 h4
 have ab:=kp l
 rw[hr] at ab
 unfold refRange at ab
 simp only[Bool.and_eq_true,decide_eq_true_eq] at ab
 obtain⟨r1,r2,_⟩:=ab
 generalize Vm.fst 112 l=a at *
 generalize Vm.snd 112 l=b at *
 have hF:Wm.nmb a=if Wm.sgnd a then -(Vm.num (Wm.mgn a):Int) else Vm.num (Wm.mgn a):=by
  unfold Wm.nmb;cases Wm.sgnd a <;> simp only[Bool.false_eq_true,if_false,if_true] <;> rw[if_pos (by omega)]
 have hP:Wm.nmb b=Wm.sg (Wm.sgnd b) (Vm.num (Wm.mgn b)):=by
  unfold Wm.nmb Wm.sg;cases Wm.sgnd b <;> simp only[Bool.false_eq_true,if_false,if_true] <;> rw[if_pos (by omega)] <;> omega
 rw[hP]
 rw[hF] at aa ⊢
 unfold Wm.prodVal
 generalize Vm.num (Wm.mgn a)=m at *
 cases Wm.sgnd a
 ·simp only[Bool.false_eq_true,if_false] at aa ⊢
  rw[decide_eq_false (by omega),Int.natAbs_natCast]
  exact⟨rfl,by omega⟩
 ·simp only[if_true] at aa ⊢
  rw[decide_eq_true (by omega),Int.natAbs_neg,Int.natAbs_natCast]
  exact⟨rfl,by omega⟩
theorem aa5 (l:List UInt8)(hn:l≠[110,97,110]):outW l<Wm.W/\Wm.nan (outW l)=false:=by
 have ac:(0:Nat)<Wm.W/\Wm.nan 0=false:=⟨by decide,by decide⟩
 rcases oe l with rfl | rfl | rfl | rfl | rfl | ⟨_,_,_,_,_,he,hv⟩
 ·exact⟨by decide +kernel,by decide +kernel⟩
 ·exact⟨by decide +kernel,by decide +kernel⟩
 ·exact absurd rfl hn
 ·exact⟨by decide +kernel,by decide +kernel⟩
 ·exact⟨by decide +kernel,by decide +kernel⟩
 ·unfold outW
  by_cases h:errW l=0
  ·rw[if_pos h,hv]
   rw[he] at h
   unfold prodOf
   rw[if_pos h]
   unfold prodErr at h
   cases hf:formOk l
   ·rw[hf] at h;simp at h
   ·rw[hf] at h
    simp only[if_true] at h
    cases hr:Wm.rangeOk (Wm.nmb (Vm.fst 112 l)) (Wm.nmb (Vm.snd 112 l))
    ·rw[hr] at h;simp at h
    ·obtain⟨v1,v2⟩:=refVal l hf hr
     rw[v1]
     have ab:=kp l
     rw[hr] at ab
     unfold refRange at ab
     simp only[Bool.and_eq_true,decide_eq_true_eq] at ab
     obtain⟨r1,r2,r3,r4⟩:=ab
     obtain⟨q1,q2,q3,q4⟩:=mo l
     rw[q2] at r1 r4
     have hb:=Wm.jl (k:=Vm.num (Vm.fst 112 (Wm.mgn l))) (e:=Wm.sg (Wm.sgnd (Vm.snd 112 l)) (Vm.num (Wm.mgn (Vm.snd 112 l)))) (by omega) (by omega) (by omega)
     have aa:Fin (Wm.rungOf (Vm.num (Vm.fst 112 (Wm.mgn l))) (Wm.sg (Wm.sgnd (Vm.snd 112 l)) (Vm.num (Wm.mgn (Vm.snd 112 l))))):=hb
     exact⟨(bm aa _).1,(bm aa _).2.1⟩
  ·rw[if_neg h];exact ac
theorem acC (l:List UInt8):outW l<Wm.W:=by
 by_cases hn:l=[110,97,110]
 ·subst hn;decide +kernel
 ·exact (aa5 l hn).1
end
end Go.Proofs.YtkoaljpfoekgkaaGreatDoor
