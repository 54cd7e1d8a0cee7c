/- Part 27 of what the laws lean on. -/
import Derived.Test.YtpfkphmldalmmaaGreatDoorL26
set_option maxRecDepth 100000
set_option maxHeartbeats 3200000
namespace Go.Proofs.YtpfkphmldalmmaaGreatDoor
section
open Go.RowKit Rs At Pg
theorem Pg.aci {w W1 u:World}{T:TypeId}{a b:Value}(h1:w.alloc (.cells #[a,b] T)=W1)(hb:Below W1.heap.size W1 u):∀ j,2<=j->u.cell? ⟨w.heap.size,j,none⟩=none:=fun j hj=>by
 have e1:u.heap[w.heap.size]?=some (.cells #[a,b] T (0,0)):=(hb.block _ (by rw[<-h1];simp)).trans (by rw[<-h1];exact heap_alloc_new w _)
 simp[World.cell?,e1];omega
def Pg.AtomRet (w:World) (i:Int) (R:Except Int Atm) (e:Ending) (w':World):Prop:=Below w.heap.size w w'/\match R with
 | .ok a=>∃ C m d,e=.returned (.agg #[.string ⟨a.name.toArray⟩,.slice C m d])/\a.rng.length=m/\SRow w' C a.rng
 | .error k=>e=panAt i k
theorem Pg.aas {u:World}{b:Nat}{n:List UInt8}{C:Option Addr}{m d:Nat}{x y:Value}{tmps:Array Value}(k0:u.cell? ⟨b,0,none⟩=some x)(k1:u.cell? ⟨b,1,none⟩=some y)(h:tmps.getD 2 undef=.pointer (some ⟨b,0,none⟩)) :
  (results Tryz.f136 tmps).run Tryz.prog (stA u b n C m d)=.ok (.agg #[.string ⟨n.toArray⟩,.slice C m d]) (stA u b n C m d):=by
 have g0:(stA u b n C m d).cell? ⟨b,0,none⟩=some (.string ⟨n.toArray⟩):=by simp[stA,go_sem,k0]
 have g1:(stA u b n C m d).cell? ⟨b,1,none⟩=some (.slice C m d):=by simp[stA,go_sem,k1]
 have hr:Tryz.f136.results=#[.cell 2 66]:=Tryz.results136
 simp only[results,hr]
 generalize stA u b n C m d=V at *
 simp only[Array.getD_eq_getD_getElem?] at h ⊢
 simp[go_sem,h,g0,g1]
attribute [local go_sem ↓] Go.wp_at_zero Go.wp_at_succ
theorem rD (t:List UInt8)(i:Int)(w:World)(hw:MaxOk w)(ht:t.length<=1000) :
  Calls Tryz.prog 136 #[.agg #[.string ⟨t.toArray⟩,.int .i64 i]] w (Pg.AtomRet w i (atomR t)):=by
 obtain⟨E,hE⟩:=ex (atomR t)
 rw[hE]
 unfold atomR at hE
 obtain⟨V,hV⟩:=ex (w.alloc (.cells #[.string ⟨t.toArray⟩,.int .i64 i] 148))
 obtain⟨U,hU⟩:=ex (V.alloc (.cells #[.string ⟨#[]⟩,.slice none 0 0] 66))
 have ab:Hid (Below w.heap.size w V):=ai hV
 have ac:Hid (Below V.heap.size V U):=ai hU
 have HB:Hid (Below w.heap.size w U):=bt ab.out ac.out
 have HP:=zh (fun W (h:Below U.heap.size U W)=>aB hV (bt ac.out h))
 have HG:=zh (fun W (h:Below U.heap.size U W)=>cP hU h)
 have HN:=zh (fun W (h:Below U.heap.size U W)=>aci hU h)
 have HC:=zh (rp t U (ah hw HB.out) (Nat.le_trans ht (by decide)))
 have ad:Hid (w.heap.size<=V.heap.size):=ab.out.size
 obtain⟨c0,c1⟩:=HP.out _ (Below.refl _ _)
 obtain⟨X,hX⟩:=ex (parseA t)
 rw[hX] at hE HC
 obtain⟨k,nm,l⟩:=X
 dsimp only at hE
 have HE:=zh hE
 clear hE hw ht hX
 go_enter Tryz.func136,Tryz.ntmps136
 go_wp2_with fail
 clear hV hU
 refine HC.out.mono ?_
 rintro _ u ⟨C,m,d,rfl,hm,hr,hb⟩
 have al:=zh hb
 have HM:=zh hm
 have HR:=zh hr
 dsimp only
 clear hb hm hr HC c0 c1
 obtain⟨G,hG⟩:=ex (u.alloc (.cells #[.string ⟨nm.toArray⟩,.slice C m d] 66))
 have ae:Hid (Below u.heap.size u G):=ai hG
 have af:Hid (Below U.heap.size U G):=bt al.out ae.out
 have HQ:=zh (fun W (h:Below G.heap.size G W)=>aB hG h)
 obtain⟨c0,c1⟩:=HP.out _ af.out
 go_wp2_with fail
 clear hG
 refine (dM t i k _).mono ?_
 rintro _ u2 ⟨rfl,hb⟩
 have ag:=zh hb
 have aa:Hid (Below U.heap.size U u2):=bt af.out hb
 clear hb c0 c1
 by_cases h0:k=0
 case neg =>
  rw[iV h0]
  have HF:Hid (E=.error k):=by show _=_;rw[<-HE.out,if_neg h0]
  clear h0
  go_wp2_with fail
  refine⟨rfl,bt HB.out aa.out,?_⟩
  rw[HF.out]
 subst h0
 rw[fj]
 have HF:Hid (E=.ok ⟨nm,l⟩):=by show _=_;rw[<-HE.out];rfl
 obtain⟨p0,p1⟩:=HQ.out _ ag.out
 obtain⟨k0,k1,z0,z1⟩:=HG.out _ aa.out
 have aj:Hid (SRow u2 C l):=an HR.out (bt ae.out ag.out)
 have ak:=zh (eh aj.out (HN.out _ aa.out))
 go_wp2_with fail
 (try simp only[Exit.inBlock,Exit.then])
 refine bodyPost_ret (aas k0 k1 rfl) rfl ?_
 refine⟨((bt HB.out aa.out).setCell ad.out _).setCell ad.out _,?_⟩
 rw[HF.out]
 exact⟨C,m,d,rfl,HM.out,cB (cB aj.out ak.out) ak.out⟩
theorem jQ (s sep:List UInt8)(n:Nat)(w:World)(hm:MaxOk w)(hl:s.length<=900000)(h1:1<=sep.length)(hn:1<=n)(hn2:n<=1000) :
  Calls Tryz.prog 176 #[.string ⟨s.toArray⟩,.string ⟨sep.toArray⟩,.int .i64 n] w fun e w'=>∃ A m c,e=.returned (.slice A m c)/\(Lib.splitN s sep n).length=m/\m<=1000/\Rg.Row encT 1 w' A (Lib.splitN s sep n)/\Below w.heap.size w w':=by
 obtain⟨m,hm⟩:=hm
 refine (Tryz.strings_SplitN ⟨s.toArray⟩ ⟨sep.toArray⟩ n m w (by show s.length<_;omega) hm h1 hn (by omega)).mono ?_
 rintro e w' ⟨rfl,rfl⟩
 have hd:(Lib.splitB ⟨sep.toArray⟩ 0 (min n (s.length+1)-1) ⟨s.toArray⟩).map (·.data.toList)=Lib.splitN s sep n:=Lib.splitB_data _ _ _ _
 have hlen:=Lib.splitB_length_le ⟨sep.toArray⟩ 0 (min n (s.length+1)-1) ⟨s.toArray⟩
 obtain⟨ps,ab⟩:=ex (Lib.splitB ⟨sep.toArray⟩ 0 (min n (s.length+1)-1) ⟨s.toArray⟩)
 have aa:(⟨s.toArray⟩:ByteArray).size=s.length:=by show s.toArray.size=_;simp
 rw[aa]
 rw[ab] at hd hlen ⊢
 rw[<-hd]
 refine⟨_,_,_,rfl,by rw[List.length_map],by omega,fun _=>⟨_,rfl,by simp,fun i hi j v hv=>?_⟩,(Below.refl _ _).alloc (Nat.le_refl _) _⟩
 have hj:j=0:=by have h:=(List.getElem?_eq_some_iff.1 hv).1;simp only[encT,List.length_cons,List.length_nil] at h;omega
 subst hj
 rw[List.length_map] at hi
 rw[if_pos rfl,Nat.mul_one]
 have ha:(⟨w.heap.size,0,none⟩:Addr).add i=⟨w.heap.size,i,none⟩:=by unfold Addr.add;split <;> simp_all
 rw[ha,cell_of_row _ w.heap.size i _ _ (0,0) (heap_alloc_new w _)]
 rw[List.getElem_map] at hv
 unfold Lib.cellsOf
 rw[List.getElem?_toArray,List.getElem?_append_left (by rw[List.length_map];exact hi),List.getElem?_map,List.getElem?_eq_getElem hi]
 exact hv
theorem Pg.sliceA:Rg.SliceT Tryz.prog encA 2 31 66:=⟨fitsA,by decide,by kernel_rfl,Rg.bE (z:=.agg #[.string ByteArray.empty,.slice none 0 0]) (b:=40) (by kernel_rfl) (by rfl) (by decide)⟩
theorem Pg.qK:∀ i,Tryz.prog.info? 66=some i->∀ z,i.zero=some z->∀ u∈z.cells,NoB u:=lY (z0:=.agg #[.string ByteArray.empty,.slice none 0 0]) (by kernel_rfl) (fun u hu b e=>by subst e;simp[Value.cells] at hu)
theorem Pg.nd:∀ x:AtD,∀ u∈encA x,NoB u:=fun x u hu b e=>by subst e;simp[encA] at hu
def Pg.AOwn (w:World) (B:Nat) (T:TypeId) (v:Value) (ds:List AtD) (l:List Atm):Prop:=Rg.Own encA 2 w B T v ds/\AIn w ds l/\Pure NoB w v
theorem Pg.nf (w:World)(B:Nat)(T:TypeId):AOwn w B T (.slice none 0 0) [] []:=⟨Rg.aD _ _ _,⟨rfl,fun i d a h=>by simp at h⟩,pure_nil _ _⟩
theorem Pg.bj {w w':World}{B:Nat}{T:TypeId}{v:Value}{ds:List AtD}{l:List Atm}(h:AOwn w B T v ds l)(hb:Below w.heap.size w w'):AOwn w' B T v ds l:=⟨Rg.own_below h.1 hb,qC h.2.1 hb,oQ h.2.2 h.1 hb⟩
theorem Pg.acj {w:World}{ds:List AtD}{l:List Atm}{d:AtD}{a:Atm}(h:AIn w ds l)(h1:d.1=a.name)(h2:d.2.2.1=a.rng.length)(h3:SRow w d.2.1 a.rng):AIn w (ds++[d]) (l++[a]):=by
 refine⟨by rw[List.length_append,List.length_append,h.1];rfl,fun i x y e1 e2=>?_⟩
 rcases aR e1 with⟨q1,q2⟩ | ⟨q1,q2⟩
 ·rcases aR e2 with⟨_,p2⟩ | ⟨p1,_⟩
  ·exact h.2 i x y q2 p2
  ·have:=h.1;omega
 ·rcases aR e2 with⟨p1,_⟩ | ⟨_,p2⟩
  ·have:=h.1;omega
  ·subst q2 p2;exact⟨h1,h2,h3⟩
theorem Pg.ng {w w':World}{B:Nat}{T:TypeId}{v v':Value}{ds:List AtD}{l:List Atm}{C:Option Addr}{m c:Nat}{a:Atm}(h:AOwn w B T v ds l)(hr:SRow w C a.rng)(hm:a.rng.length=m)(ho:Rg.Own encA 2 w' B T v' (ds++[(a.name,C,m,c)]))(hp:Pure NoB w' v')(hg:w.grownBy w' v.ownBlock):AOwn w' B T v' (ds++[(a.name,C,m,c)]) (l++[a]):=by
 have hb:But v.ownBlock w w':=qI hg
 refine⟨ho,acj (xf h.2.1 hb h.2.2) rfl hm.symm (tY hr hb fun h0 q hq e=>?_),hp⟩
 cases hv:v.ownBlock with
 | none=>rw[hv] at e;cases e
 | some g=>rw[hv] at e;exact nc hr (h.2.2 g hv) h0 q hq e
theorem Pg.nh {w:World}{B:Nat}{T:TypeId}{v:Value}{ds:List AtD}{l:List Atm}(h:AOwn w B T v ds l):∃ A c,v=.slice A l.length c/\ARow w A l/\∀ a,A=some a->B<=a.block:=by
 obtain⟨A,c,hv,hr,_,_⟩:=Rg.aE fitsA h.1
 rw[h.2.1.1] at hv
 exact⟨A,c,hv,⟨ds,hr,h.2.1⟩,fun a ha=>by subst ha;exact (Rg.bD h.1 a.block (by rw[hv];rfl)).1⟩
def Pg.Fit (sep t:List UInt8):Prop:=t.length<=200000/\∀ p∈Lib.split t sep,p.length<=1000
theorem Pg.lx {sep t:List UInt8}(h:t.length<=1000):Fit sep t:=⟨by omega,fun p hp=>Nat.le_trans (cR sep _ t p hp) h⟩
def Pg.ValFit (key t:List UInt8):Prop:=(key=kDep->t.length<=200000/\∀ p∈Lib.split t semi,Fit orT p)/\(key=kCon->Fit semi t)/\(key=kPro->Fit semi t)/\(key≠kDep->key≠kCon->key≠kPro->t.length<=1000)
theorem Pg.gJ {key t:List UInt8}(h:t.length<=1000):ValFit key t:=⟨fun _=>⟨by omega,fun p hp=>lx (Nat.le_trans (cR semi _ t p hp) h)⟩,fun _=>lx h,fun _=>lx h,fun _ _ _=>h⟩
def Pg.PartsRet {β:Type} (M:World->Option Addr->List β->Prop) (w:World) (i:Int) (R:Except Int (List β)) (e:Ending) (w':World):Prop:=Below w.heap.size w w'/\match R with
 | .ok l=>∃ A n c,e=.returned (.slice A n c)/\l.length=n/\M w' A l/\∀ a,A=some a->w.heap.size<=a.block
 | .error k=>e=panAt i k
theorem iY (t sep:List UInt8)(i:Int)(most:Nat)(w:World)(hw:MaxOk w)(ht:Fit sep t)(h1:1<=sep.length)(hmo:most<=100) :
  Calls Tryz.prog 135 #[.agg #[.string ⟨t.toArray⟩,.int .i64 i],.string ⟨sep.toArray⟩,.int .i64 most,.func (.func 136) #[] #[]] w (Pg.PartsRet ARow w i (partsR atomR sep most t)):=by
 obtain⟨R,hR⟩:=ex (partsR atomR sep most t)
 rw[hR]
 unfold partsR at hR
 obtain⟨V,hV⟩:=ex (w.alloc (.cells #[.string ⟨t.toArray⟩,.int .i64 i] 148))
 have HB:Hid (Below w.heap.size w V):=ai hV
 have HP:=zh (fun W (h:Below V.heap.size V W)=>aB hV h)
 have HM:=zh (fun W (h:Below V.heap.size V W)=>ah (ah hw HB.out) h)
 have HC:Hid (Calls Tryz.prog 176 #[.string ⟨t.toArray⟩,.string ⟨sep.toArray⟩,.int .i64 ((most:Int)+1)] V fun e w'=>∃ A m c,e=.returned (.slice A m c)/\(Lib.splitN t sep (most+1)).length=m/\m<=1000/\Rg.Row encT 1 w' A (Lib.splitN t sep (most+1))/\Below V.heap.size V w') :=
  jQ t sep (most+1) V (HM.out _ (Below.refl _ _)) (Nat.le_trans ht.1 (by decide)) h1 (by omega) (by omega)
 have ar:∀ p∈Lib.split t sep,p.length<=1000:=ht.2
 obtain⟨f1,f2⟩:=jO (s:=t) (sep:=sep) (fun e=>by rw[e] at h1;simp at h1) most
 obtain⟨ps,aF⟩:=ex (Lib.split t sep)
 obtain⟨qs,aG⟩:=ex (Lib.splitN t sep (most+1))
 rw[aF] at hR f1 f2 ar
 rw[aG] at f1 f2 HC
 have iw:IntKind.i64.wrap ((most:Int)+1)=(most:Int)+1:=IntWalk.i64_in _ (by omega)
 obtain⟨c0,c1⟩:=HP.out _ (Below.refl _ _)
 have HR:=zh hR
 have au:=zh f1
 have aC:=zh f2
 have aL:=zh ar
 clear hw hR ar f1 f2 aF aG
 go_enter Tryz.func135,Tryz.ntmps135
 go_wp2_with fail
 clear hV
 refine HC.out.mono ?_
 rintro _ z1 ⟨A,n,c,rfl,hn,aV,am,aH⟩
 have HN:=zh hn
 have ac:=zh am
 have ao:=zh aH
 clear hn am aH HC c0 c1 iw
 obtain⟨c0,c1⟩:=HP.out _ ao.out
 by_cases ae:n<=most
 case neg =>
  have av:Hid (R=.error 4):=by
   show _=_
   rw[<-HR.out,if_neg]
   intro hh
   have:=au.out hh
   rw[this] at HN
   have:=HN.out
   omega
  have d0:decide (n<=most)=false:=decide_eq_false ae
  clear ae
  go_wp2_with fail
  refine (aM t i false 4 _).mono ?_
  rintro _ u ⟨rfl,hb⟩
  have HU:Hid (Below w.heap.size w u):=HB.out.trans ((bt ao.out hb).mono HB.out.size)
  clear hb
  go_wp2_with fail
  exact⟨rfl,HU.out,by rw[av.out]⟩
 have aN:qs=ps:=by
  rcases Nat.lt_or_ge most ps.length with h | h
  ·have:=aC.out h
   have:=HN.out
   omega
  ·exact au.out h
 subst aN
 have av:Hid (rdL atomR [] qs=R):=by
  show _=_
  rw[<-HR.out,if_pos (by rw[HN.out];exact ae)]
 have d0:decide (n<=most)=true:=decide_eq_true ae
 clear ae au aC HR
 go_wp2_with fail
 refine (aM t i true 4 _).mono ?_
 rintro _ z2 ⟨rfl,hb⟩
 have ax:Hid (Below V.heap.size V z2):=bt ao.out hb
 have af:=zh (Rg.ak ac.out hb)
 clear hb ac d0 c0 c1 ao
 go_wp2_with fail
 go_loopw [10,27] (fun v i wr=>∃ (k:Nat) (acc:List Atm) (ds:List AtD),k<=n/\i=.int .i64 k/\Hid (AOwn wr z2.heap.size 66 v ds acc)/\Hid (Below z2.heap.size z2 wr/\z2.heap.size<=wr.heap.size)/\Hid (acc.length=k)/\Hid (rdL atomR acc (qs.drop k)=R)) (fun _ i _=>n-(intOf i).toNat)
 case atStart=>exact⟨0,[],[],Nat.zero_le _,rfl,nf _ _ _,⟨Below.refl _ _,Nat.le_refl _⟩,rfl,by show rdL _ _ (qs.drop 0)=R;rw[List.drop_zero,av.out]⟩
 case round =>
  obtain⟨k,acc,ds,hk,rfl,HO,ab,HA,HE⟩:=hrel
  have ag:Hid (Below V.heap.size V wr):=ax.out.trans (ab.out.1.mono ax.out.size)
  by_cases aD:k<n
  ·have aE:=zh aD
   have az:k<qs.length:=by rw[HN.out];exact aD
   obtain⟨ad,rfl,_,q0⟩:=eF (Rg.ak af.out ab.out.1) k az
   have ap:=aL.out _ (List.getElem_mem az)
   have he:=HE.out
   rw[List.drop_eq_getElem_cons az] at he
   obtain⟨p,hp⟩:=ex (qs[k])
   rw[hp] at ap he q0
   have aO:Hid (ds.length+1<=1000000):=by have h1:=HA.out;have h2:=HO.out.2.1.1;show _<=_;omega
   have aq:=zh (rD p i wr (HM.out _ ag.out) ap)
   obtain⟨c0,c1⟩:=HP.out _ ag.out
   obtain⟨E,hE⟩:=ex (atomR p)
   rw[hE] at aq
   cases E with
   | error e =>
    have aj:Hid (R=.error e):=by show _=_;rw[<-he];exact ll hE
    clear he hp ap hE
    go_wp2_with fail
    refine aq.out.mono ?_
    rintro e z3 ⟨hb,rfl⟩
    have aa:Hid (Below w.heap.size w z3):=HB.out.trans ((bt ag.out hb).mono HB.out.size)
    clear hb
    go_wp2_with fail
    exact⟨rfl,aa.out,by rw[aj.out]⟩
   | ok a =>
    have aP:Hid (rdL atomR (acc++[a]) (qs.drop (k+1))=R):=by show _=_;rw[<-he];exact (oR hE).symm
    clear he hp ap hE
    go_wp2_with fail
    refine aq.out.mono ?_
    rintro e z3 ⟨hb,C,m,d,rfl,hm,hr⟩
    have aa:=zh hb
    have aQ:=zh hm
    have aj:=zh hr
    clear hb hm hr c0 c1 q0 aq
    go_wp2_with (at_builtin;refine Pg.c8 sliceA qK nd rfl (.tmp 31) (.tmp 38) rfl z2.heap.size _ ds [(a.name,C,m,d)] rfl (bj HO.out (aa.out.alloc aa.out.size _)).1 (bj HO.out (aa.out.alloc aa.out.size _)).2.2 _ _ rfl (Rg.ay z3 _ _ _ (by rfl)) (Nat.zero_lt_succ _) aO.out ?b2 ?_)
    case b2=>have:=ab.out.2;have:=aa.out.size;simp;omega
    intro v5 W5 aI aJ aA aU
    have al:Below wr.heap.size wr (z3.alloc (.cells #[.string ⟨a.name.toArray⟩,.slice C m d] 66)):=aa.out.alloc aa.out.size _
    have aR:=zh (ng (bj HO.out al) (an aj.out ((Below.refl _ _).alloc (Nat.le_refl _) _)) aQ.out aI aJ aA)
    have aS:Hid (Below z2.heap.size z2 W5/\z2.heap.size<=W5.heap.size):=by
     have h2:=ab.out.1.trans ((al.mono ab.out.2).trans (Rg.aw (bj HO.out al).1 (Nat.le_trans ab.out.2 al.size) aA))
     exact⟨h2,h2.size⟩
    clear aI aJ aA aU al HO aa ab ag
    go_wp2_with fail
    go_roundw
    case rel=>exact⟨k+1,acc++[a],_,(by have:=aE.out;omega),by go_num,aR,aS,by show (acc++[a]).length=_;rw[List.length_append,HA.out];rfl,aP⟩
    case measure=>have:=aE.out;simp[intOf];omega
  ·obtain rfl:k=n:=by omega
   have aj:Hid (R=.ok acc):=by show _=_;rw[<-HE.out,List.drop_eq_nil_of_le (by rw[HN.out];exact Nat.le_refl _)];rfl
   obtain⟨C,d,rfl,aK,hf⟩:=nh HO.out
   have aT:=zh aK
   have HF:=zh hf
   clear aK hf
   go_wp2_with fail
   go_ret
   refine⟨bt HB.out ag.out,?_⟩
   rw[aj.out]
   exact⟨C,_,d,rfl,rfl,aT.out,fun a ha=>Nat.le_trans (Nat.le_trans HB.out.size ax.out.size) (HF.out a ha)⟩
end
section
open Go.RowKit Go.ChangeShapes Go.WideShapes Go.Joins Rs
theorem vK {H:Type}{enc:TypeId × Value->H}{P:Program}{W:World}{t e ts tb:TypeId}{n0 n1 n2 n3:Field}{fuel:Nat}{cs:List Value}{x:DataW H × List MemPlace}
  (ht:P.underlying t=some (.slice e)) (he:P.underlying e=some (.struct #[n0,n1,n2,n3])) (h0:n0.type=ts/\n0.offset=0) (h1:n1.type=ts/\n1.offset=1) (h2:n2.type=tb/\n2.offset=2) (h3:n3.type=tb/\n3.offset=3)
  (hs:P.underlying ts=some .string) (hb:P.underlying tb=some .bool) (cts:P.cellsOf ts=1) (cb:P.cellsOf tb=1) (ce:P.cellsOf e=4)
  (h:DataW.trod enc P W 0 (fun _=>true) true fuel t cs=some x) :
  ∃ (A:Option Addr) (c:Nat) (l:List Sp),cs=[.slice A l.length c]/\SRow W A l/\l.length<=maxLen/\∀ s∈l,s.lo.length<=maxLen/\s.hi.length<=maxLen:=by
 rcases Go.Deep.open_slice ht h with⟨hcs,_⟩ | ⟨a,len,cap,m,n,D,Pl,hcs,_,hl,hmx,hmm,_,hi⟩
 ·exact⟨none,0,[],hcs,fun h=>absurd h (by simp),by simp,by simp⟩
 ·simp only[if_true] at hmm
  have each:∀ i,i<len->∃ s:Sp,SpAt W (a.add (i*4)) s/\s.lo.length<=maxLen/\s.hi.length<=maxLen:=fun i hil=>by
   obtain⟨ag,hc,ae⟩:=hi i (by omega)
   rw[ce] at hc
   obtain⟨y0,y1,y2,y3,m',_,aa,g0,g1,g2,g3⟩:=trod_struct4 he ae
   rw[ce] at aa
   rw[h0.1,h0.2,cts,nG aa (by omega)] at g0
   rw[h1.1,h1.2,cts,nG aa (by omega)] at g1
   rw[h2.1,h2.2,cb,nG aa (by omega)] at g2
   rw[h3.1,h3.2,cb,nG aa (by omega)] at g3
   obtain⟨s0,e0,_,m0⟩:=DataW.trod_string hs g0
   obtain⟨s1,e1,_,m1⟩:=DataW.trod_string hs g1
   obtain⟨b2,e2,_⟩:=DataW.trod_bool hb g2
   obtain⟨b3,e3,_⟩:=DataW.trod_bool hb g3
   obtain⟨_,af,ab⟩:=World.cells?_some hc
   refine⟨⟨s0.data.toList,s1.data.toList,b2,b3⟩,⟨?_,?_,?_,?_⟩,?_,?_⟩
   ·exact (ab 0 (by omega)).trans ((List.getElem?_eq_getElem (by omega)).trans (congrArg some (List.cons.inj e0).1))
   ·exact (ab 1 (by omega)).trans ((List.getElem?_eq_getElem (by omega)).trans (congrArg some (List.cons.inj e1).1))
   ·exact (ab 2 (by omega)).trans ((List.getElem?_eq_getElem (by omega)).trans (congrArg some (List.cons.inj e2).1))
   ·exact (ab 3 (by omega)).trans ((List.getElem?_eq_getElem (by omega)).trans (congrArg some (List.cons.inj e3).1))
   ·show s0.data.toList.length<=maxLen
    rw[Array.length_toList];exact m0
   ·show s1.data.toList.length<=maxLen
    rw[Array.length_toList];exact m1
  obtain⟨f,ad⟩:=Go.Deep.choose_lt each
  have hlen:((List.range len).map f).length=len:=by simp
  refine⟨some a,cap,(List.range len).map f,by rw[hlen];exact hcs,fun h=>?_,by rw[hlen];omega,fun s hs=>?_⟩
  ·rw[hlen] at h
   refine⟨a,rfl,?_,fun i ac=>?_⟩
   ·have:=dv (ad 0 h).1.1
    rwa [add_block,add_block] at this
   ·rw[hlen] at ac
    have:=(ad i ac).1
    simpa using this
  ·obtain⟨i,ac,rfl⟩:=List.mem_map.1 hs
   exact (ad i (List.mem_range.1 ac)).2
end
section
open Go.RowKit Go.ChangeShapes Go.WideShapes Go.Joins Rs At Pg
namespace Pg
def SpT (P:Program) (t e ts tb:TypeId):Prop:=P.underlying t=some (.slice e)/\P.underlying ts=some .string/\P.underlying tb=some .bool/\P.cellsOf ts=1/\P.cellsOf tb=1/\P.cellsOf e=4/\P.cellsOf t=1 /\
 ∃ n0 n1 n2 n3:Field,P.underlying e=some (.struct #[n0,n1,n2,n3])/\(n0.type=ts/\n0.offset=0)/\(n1.type=ts/\n1.offset=1)/\(n2.type=tb/\n2.offset=2)/\(n3.type=tb/\n3.offset=3)
def AtT (P:Program) (ta t e ts tb:TypeId):Prop:=SpT P t e ts tb/\P.cellsOf ta=2/\∃ f0 f1:Field,P.underlying ta=some (.struct #[f0,f1])/\(f0.type=ts/\f0.offset=0)/\(f1.type=t/\f1.offset=1)
def AWide (a:Atm):Prop:=a.name.length<=maxLen/\a.rng.length<=maxLen/\∀ s∈a.rng,s.lo.length<=maxLen/\s.hi.length<=maxLen
theorem take1 {α:Type}{cs:List α}{m n:Nat}(hl:cs.length=m)(hn:n<m):(cs.drop n).take 1=[cs[n]'(by omega)]:=by
 rw[List.drop_eq_getElem_cons (by omega)];rfl
instance:Inhabited Atm:=⟨⟨[],[]⟩⟩
instance:Inhabited Gv:=⟨⟨[],[]⟩⟩
section
variable {H:Type} {enc:TypeId × Value->H} {P:Program} {W:World} {ta t e ts tb:TypeId}
theorem mB {tl:TypeId}{fuel:Nat}{cs:List Value}{x:DataW H × List MemPlace}(hT:AtT P ta t e ts tb)(hl:P.underlying tl=some (.slice ta))(h:DataW.trod enc P W 0 (fun _=>true) true fuel tl cs=some x) :
  ∃ (A:Option Addr) (c:Nat) (l:List Atm),cs=[.slice A l.length c]/\ARow W A l/\l.length<=maxLen/\∀ a∈l,AWide a:=by
 obtain⟨⟨q1,q2,q3,q4,q5,q6,q7,n0,n1,n2,n3,q8,q9,ak,al,am⟩,ah,f0,f1,an,ai,aj⟩:=hT
 rcases Go.Deep.open_slice hl h with⟨hcs,_⟩ | ⟨a,len,cap,m,n,D,Pl,hcs,_,hlc,hmx,hmm,_,hi⟩
 ·exact⟨none,0,[],hcs,⟨[],fun h=>absurd h (by decide),rfl,fun i d a h=>by simp at h⟩,Nat.zero_le _,fun a ha=>by cases ha⟩
 ·simp only[if_true] at hmm
  have each:∀ i,i<len->∃ y:AtD × Atm,Rg.At encA W (a.add (i*2)) y.1/\(a.add (i*2)).block<W.heap.size/\y.1.1=y.2.name/\y.1.2.2.1=y.2.rng.length/\SRow W y.1.2.1 y.2.rng/\AWide y.2:=fun i af=>by
   obtain⟨aq,hc,ao⟩:=hi i (by omega)
   rw[ah] at hc
   obtain⟨y0,y1,m',_,ag,g0,g1⟩:=trod_struct2 an ao
   rw[ah] at ag
   rw[ai.1,ai.2,q4,take1 ag (by omega)] at g0
   rw[aj.1,aj.2,q7,take1 ag (by omega)] at g1
   obtain⟨s0,e0,_,m0⟩:=DataW.trod_string q2 g0
   obtain⟨C,c,r,e1,hr,hm,hw⟩:=vK q1 q8 q9 ak al am q2 q3 q4 q5 q6 g1
   obtain⟨_,ap,aa⟩:=World.cells?_some hc
   have c0:=(aa 0 (by omega)).trans ((List.getElem?_eq_getElem (by omega)).trans (congrArg some (List.cons.inj e0).1))
   have c1:=(aa 1 (by omega)).trans ((List.getElem?_eq_getElem (by omega)).trans (congrArg some (List.cons.inj e1).1))
   have ci:=dv c0
   rw[add_block] at ci
   refine⟨((s0.data.toList,C,r.length,c),⟨s0.data.toList,r⟩),fun j u hu=>?_,ci,rfl,rfl,hr,by show s0.data.toList.length<=maxLen;rw[Array.length_toList];exact m0,hm,hw⟩
   match j with
   | 0=>cases hu;rw[if_pos rfl];exact c0
   | 1=>cases hu;exact c1
   | j+2=>simp[encA] at hu
  obtain⟨f,ac⟩:=Go.Deep.choose_lt each
  have ab:((List.range len).map fun i=>(f i).1).length=len:=by simp
  have ae:((List.range len).map fun i=>(f i).2).length=len:=by simp
  refine⟨some a,cap,(List.range len).map fun i=>(f i).2,by rw[ae];exact hcs,⟨(List.range len).map fun i=>(f i).1,fun h0=>?_,by rw[ab,ae],fun i d b h1 h2=>?_⟩,by rw[ae];omega,fun b hb=>?_⟩
  ·rw[ab] at h0
   refine⟨a,rfl,?_,fun i ad=>?_⟩
   ·have:=(ac 0 h0).2.1
    rwa [add_block] at this
   ·rw[ab] at ad
    have:=(ac i ad).1
    simpa using this
  ·have af:i<len:=by have:=(List.getElem?_eq_some_iff.1 h1).1;rwa [ab] at this
   obtain⟨_,_,g1,g2,g3,_⟩:=ac i af
   rw[List.getElem?_map,List.getElem?_range af] at h1 h2
   cases h1;cases h2
   exact⟨g1,g2,g3⟩
  ·obtain⟨i,ad,rfl⟩:=List.mem_map.1 hb
   exact (ac i (List.mem_range.1 ad)).2.2.2.2.2
theorem yr {tt tl:TypeId}{fuel:Nat}{cs:List Value}{x:DataW H × List MemPlace}(hT:AtT P ta t e ts tb)(hl:P.underlying tl=some (.slice ta))(hc1:P.cellsOf tl=1)(hll:P.underlying tt=some (.slice tl))(h:DataW.trod enc P W 0 (fun _=>true) true fuel tt cs=some x) :
  ∃ (A:Option Addr) (c:Nat) (l:List (List Atm)),cs=[.slice A l.length c]/\Pg.DRow W A l/\l.length<=maxLen/\∀ d∈l,d.length<=maxLen/\∀ a∈d,AWide a:=by
 rcases Go.Deep.open_slice hll h with⟨hcs,_⟩ | ⟨a,len,cap,m,n,D,Pl,hcs,_,hlc,hmx,hmm,_,hi⟩
 ·exact⟨none,0,[],hcs,⟨[],fun h=>absurd h (by decide),rfl,fun i d a h=>by simp at h⟩,Nat.zero_le _,fun a ha=>by cases ha⟩
 ·simp only[if_true] at hmm
  have each:∀ i,i<len->∃ y:Desc × List Atm,Rg.At encO W (a.add (i*1)) y.1/\(a.add (i*1)).block<W.heap.size/\y.1.2.1=y.2.length/\ARow W y.1.1 y.2/\y.2.length<=maxLen/\∀ b∈y.2,AWide b:=fun i ae=>by
   obtain⟨ag,hc,ah⟩:=hi i (by omega)
   rw[hc1] at hc
   obtain⟨C,c,r,e1,hr,hm,hw⟩:=mB hT hl ah
   obtain⟨_,ai,af⟩:=World.cells?_some hc
   have c0:=(af 0 (by omega)).trans (show ag[0]?=some (.slice C r.length c) by rw[e1];rfl)
   have ci:=dv c0
   rw[add_block] at ci
   refine⟨((C,r.length,c),r),fun j u hu=>?_,ci,rfl,hr,hm,hw⟩
   match j with
   | 0=>cases hu;rw[if_pos rfl];exact c0
   | j+1=>simp[encO] at hu
  obtain⟨f,ab⟩:=Go.Deep.choose_lt each
  have aa:((List.range len).map fun i=>(f i).1).length=len:=by simp
  have ad:((List.range len).map fun i=>(f i).2).length=len:=by simp
  refine⟨some a,cap,(List.range len).map fun i=>(f i).2,by rw[ad];exact hcs,⟨(List.range len).map fun i=>(f i).1,fun h0=>?_,by rw[aa,ad],fun i d b h1 h2=>?_⟩,by rw[ad];omega,fun b hb=>?_⟩
  ·rw[aa] at h0
   refine⟨a,rfl,?_,fun i ac=>?_⟩
   ·have:=(ab 0 h0).2.1
    rwa [add_block] at this
   ·rw[aa] at ac
    have:=(ab i ac).1
    simpa using this
  ·have ae:i<len:=by have:=(List.getElem?_eq_some_iff.1 h1).1;rwa [aa] at this
   obtain⟨_,_,g1,g2,_⟩:=ab i ae
   rw[List.getElem?_map,List.getElem?_range ae] at h1 h2
   cases h1;cases h2
   exact⟨g1,g2⟩
  ·obtain⟨i,ac,rfl⟩:=List.mem_map.1 hb
   exact (ab i (List.mem_range.1 ac)).2.2.2.2
theorem vL {tg tl:TypeId}{f0 f1:Field}{fuel:Nat}{cs:List Value}{x:DataW H × List MemPlace}(hg:P.underlying tg=some (.struct #[f0,f1]))(hf0:f0.type=ts/\f0.offset=0)(hf1:f1.type=ts/\f1.offset=1)(cg:P.cellsOf tg=2)(hs:P.underlying ts=some .string)(cts:P.cellsOf ts=1)
  (hl:P.underlying tl=some (.slice tg)) (h:DataW.trod enc P W 0 (fun _=>true) true fuel tl cs=some x) :
  ∃ (A:Option Addr) (c:Nat) (l:List Gv),cs=[.slice A l.length c]/\GRow W A l/\l.length<=maxLen/\GFew l:=by
 rcases Go.Deep.open_slice hl h with⟨hcs,_⟩ | ⟨a,len,cap,m,n,D,Pl,hcs,_,hlc,hmx,hmm,_,hi⟩
 ·exact⟨none,0,[],hcs,fun h=>absurd h (by decide),Nat.zero_le _,fun a ha=>by cases ha⟩
 ·simp only[if_true] at hmm
  have each:∀ i,i<len->∃ y:Gv,Rg.At encG W (a.add (i*2)) y/\(a.add (i*2)).block<W.heap.size/\y.name.length<=maxLen/\y.ver.length<=maxLen:=fun i hil=>by
   obtain⟨ag,hc,ae⟩:=hi i (by omega)
   rw[cg] at hc
   obtain⟨y0,y1,m',_,ac,g0,g1⟩:=trod_struct2 hg ae
   rw[cg] at ac
   rw[hf0.1,hf0.2,cts,take1 ac (by omega)] at g0
   rw[hf1.1,hf1.2,cts,take1 ac (by omega)] at g1
   obtain⟨s0,e0,_,m0⟩:=DataW.trod_string hs g0
   obtain⟨s1,e1,_,m1⟩:=DataW.trod_string hs g1
   obtain⟨_,af,aa⟩:=World.cells?_some hc
   have c0:=(aa 0 (by omega)).trans ((List.getElem?_eq_getElem (by omega)).trans (congrArg some (List.cons.inj e0).1))
   have c1:=(aa 1 (by omega)).trans ((List.getElem?_eq_getElem (by omega)).trans (congrArg some (List.cons.inj e1).1))
   have ci:=dv c0
   rw[add_block] at ci
   refine⟨⟨s0.data.toList,s1.data.toList⟩,fun j u hu=>?_,ci,by show s0.data.toList.length<=maxLen;rw[Array.length_toList];exact m0,by show s1.data.toList.length<=maxLen;rw[Array.length_toList];exact m1⟩
   match j with
   | 0=>cases hu;rw[if_pos rfl];exact c0
   | 1=>cases hu;exact c1
   | j+2=>simp[encG] at hu
  obtain⟨f,ad⟩:=Go.Deep.choose_lt each
  have hlen:((List.range len).map f).length=len:=by simp
  refine⟨some a,cap,(List.range len).map f,by rw[hlen];exact hcs,fun h0=>?_,by rw[hlen];omega,fun s hs=>?_⟩
  ·rw[hlen] at h0
   refine⟨a,rfl,?_,fun i ab=>?_⟩
   ·have:=(ad 0 h0).2.1
    rwa [add_block] at this
   ·rw[hlen] at ab
    have:=(ad i ab).1
    simpa using this
  ·obtain⟨i,ab,rfl⟩:=List.mem_map.1 hs
   exact (ad i (List.mem_range.1 ab)).2.2
theorem yt {tf:TypeId}{fuel:Nat}{cs:List Value}{x:DataW H × List MemPlace}(ht:P.underlying tf=some (.float .f64))(h:DataW.trod enc P W 0 (fun _=>true) true fuel tf cs=some x):∃ f,cs=[Value.float .f64 f]/\f<Wm.W:=by
 have h1:∃ f,cs=[Value.float .f64 f]/\(Lit.float .f64 f).wf=true:=by
  cases fuel with
  | zero=>simp[DataW.trod] at h
  | succ n =>
   unfold DataW.trod at h
   rw[ht] at h
   split at h <;> simp_all
 obtain⟨f,h2,h3⟩:=h1
 refine⟨f,h2,?_⟩
 have h4:decide (f<2 ^ 64)=true:=h3
 have:=of_decide_eq_true h4
 unfold Wm.W
 omega
def PWide (p:Pk):Prop:=p.name.length<=maxLen/\p.ver.length<=maxLen/\p.deps.length<=maxLen/\(∀ d∈p.deps,d.length<=maxLen/\∀ a∈d,AWide a)/\p.confl.length<=maxLen/\(∀ a∈p.confl,AWide a)/\p.prov.length<=maxLen/\GFew p.prov/\p.wt<Wm.W
def PkT (P:Program) (tp tg tgl tf tl tt ta t e ts tb:TypeId):Prop:=AtT P ta t e ts tb/\P.underlying tl=some (.slice ta)/\P.cellsOf tl=1/\P.underlying tt=some (.slice tl)/\P.cellsOf tt=1/\P.underlying tgl=some (.slice tg)/\P.cellsOf tgl=1/\P.cellsOf tg=2/\P.underlying tf=some (.float .f64)/\P.cellsOf tf=1/\P.cellsOf tp=6 /\
 (∃ f0 f1:Field,P.underlying tg=some (.struct #[f0,f1])/\(f0.type=ts/\f0.offset=0)/\(f1.type=ts/\f1.offset=1)) /\
 ∃ k0 k1 k2 k3 k4 k5:Field,P.underlying tp=some (.struct #[k0,k1,k2,k3,k4,k5])/\(k0.type=ts/\k0.offset=0)/\(k1.type=ts/\k1.offset=1)/\(k2.type=tt/\k2.offset=2)/\(k3.type=tl/\k3.offset=3)/\(k4.type=tgl/\k4.offset=4)/\(k5.type=tf/\k5.offset=5)
theorem tZ {b0:Nat}{tp tg tgl tf tl tt:TypeId}{v:Value}{d:DataW H}{ps:List MemPlace}(hT:PkT P tp tg tgl tf tl tt ta t e ts tb)(hval:Value.okWide P W .any b0 tp v)(h:DataW.Trod enc P W 0 (fun _=>true) true tp v d ps) :
  ∃ (p:Pk) (D C G:Option Addr) (dc cc gc:Nat),v=.agg #[.string ⟨p.name.toArray⟩,.string ⟨p.ver.toArray⟩,.slice D p.deps.length dc,.slice C p.confl.length cc,.slice G p.prov.length gc,.float .f64 p.wt]/\Pg.DRow W D p.deps/\ARow W C p.confl/\GRow W G p.prov/\PWide p:=by
 obtain⟨hA,h2,h3,h4,h5,h6,h7,h8,h9,ae,ac,⟨f0,f1,hg,af,ag⟩,k0,k1,k2,k3,k4,k5,hp,p0,p1,p2,p3,p4,p5⟩:=hT
 have hs:=hA.1.2.1
 have ab:=hA.1.2.2.2.1
 obtain⟨cs,rfl,ad⟩:=okWide_struct hp hval
 obtain⟨fuel,hf⟩:=h
 rw[ac] at ad
 obtain⟨c0,c1,c2,c3,c4,c5,rfl⟩:∃ c0 c1 c2 c3 c4 c5,cs=#[c0,c1,c2,c3,c4,c5]:=by
  obtain⟨l⟩:=cs
  match l,ad with
  | [a,b,c,d,e,f],_=>exact⟨a,b,c,d,e,f,rfl⟩
 obtain⟨xs,n,_,_,hl,hlen,aa⟩:=DataW.trod_struct hp hf
 rw[ac] at hl
 match xs,hlen with
 | [y0,y1,y2,y3,y4,y5],_ =>
  have g0:=aa 0 k0 rfl
  have g1:=aa 1 k1 rfl
  have g2:=aa 2 k2 rfl
  have g3:=aa 3 k3 rfl
  have g4:=aa 4 k4 rfl
  have g5:=aa 5 k5 rfl
  rw[p0.1,p0.2,ab,take1 hl (by omega)] at g0
  rw[p1.1,p1.2,ab,take1 hl (by omega)] at g1
  rw[p2.1,p2.2,h5,take1 hl (by omega)] at g2
  rw[p3.1,p3.2,h3,take1 hl (by omega)] at g3
  rw[p4.1,p4.2,h7,take1 hl (by omega)] at g4
  rw[p5.1,p5.2,ae,take1 hl (by omega)] at g5
  obtain⟨s0,e0,_,m0⟩:=DataW.trod_string hs g0
  obtain⟨s1,e1,_,m1⟩:=DataW.trod_string hs g1
  obtain⟨D,dc,l2,e2,ah,ai,aj⟩:=yr hA h2 h3 h4 g2
  obtain⟨C,cc,l3,e3,ak,al,am⟩:=mB hA h2 g3
  obtain⟨G,gc,l4,e4,an,ao,ap⟩:=vL hg af ag h8 hs ab h6 g4
  obtain⟨f,e5,aq⟩:∃ f,[c5]=[Value.float .f64 f]/\f<Wm.W:=yt h9 g5
  refine⟨⟨s0.data.toList,s1.data.toList,l2,l3,l4,f⟩,D,C,G,dc,cc,gc,?_,ah,ak,an,by show s0.data.toList.length<=maxLen;rw[Array.length_toList];exact m0,by show s1.data.toList.length<=maxLen;rw[Array.length_toList];exact m1,ai,aj,al,am,ao,ap,aq⟩
  have q0:c0=.string s0:=by simpa [Value.cells] using e0
  have q1:c1=.string s1:=by simpa [Value.cells] using e1
  have q2:c2=.slice D l2.length dc:=by simpa [Value.cells] using e2
  have q3:c3=.slice C l3.length cc:=by simpa [Value.cells] using e3
  have q4:c4=.slice G l4.length gc:=by simpa [Value.cells] using e4
  have q5:c5=.float .f64 f:=by simpa using e5
  rw[q0,q1,q2,q3,q4,q5]
end
end Pg
end
section
open Go.RowKit Rs At Pg
theorem Pg.sliceRA:Rg.SliceT Tryz.prog encA 2 23 117:=⟨fitsA,by decide,by kernel_rfl,Rg.bE (z:=.agg #[.string ByteArray.empty,.slice none 0 0]) (b:=40) (by kernel_rfl) (by rfl) (by decide)⟩
theorem Pg.yu:∀ i,Tryz.prog.info? 117=some i->∀ z,i.zero=some z->∀ u∈z.cells,NoB u:=lY (z0:=.agg #[.string ByteArray.empty,.slice none 0 0]) (by kernel_rfl) (fun u hu b e=>by subst e;simp[Value.cells] at hu)
def Pg.ASmall (l:List Atm):Prop:=∀ a∈l,a.rng.length<=1000
attribute [local go_sem ↓] Go.wp_at_zero Go.wp_at_succ
theorem oS (A:Option Addr)(n c:Nat)(l:List Atm)(w:World)(hn:l.length=n)(hr:ARow w A l)(hl:n<=1000)(hf:Pg.ASmall l) :
  Calls Tryz.prog 23 #[.slice A n c] w fun e w'=>∃ C d,e=.returned (.slice C n d)/\ARow w' C l/\(∀ a,C=some a->w.heap.size<=a.block)/\Below w.heap.size w w':=by
 have HR:=zh hr
 have HN:=zh hn
 have HF:=zh hf
 clear hr hn hf
 go_enter Tryz.func23,Tryz.ntmps23
 go_wp2_with fail
 go_loopw [3,4] (fun v i wr=>∃ (k:Nat) (ds:List AtD),k<=n/\i=.int .i64 k/\Hid (AOwn wr w.heap.size 66 v ds (l.take k))/\Hid (Below w.heap.size w wr)) (fun _ i _=>n-(intOf i).toNat)
 case atStart=>exact⟨0,[],Nat.zero_le _,rfl,nf _ _ _,Below.refl _ _⟩
 case round =>
  obtain⟨k,ds,hk,rfl,HO,HB⟩:=hrel
  by_cases al:k<n
  ·have ae:k<l.length:=by rw[HN.out];exact al
   obtain⟨ad,C,m,d,rfl,hm,hs,hc⟩:=bM HR.out k ae
   obtain⟨c0,c1⟩:=hc _ HB.out
   have ac:=HF.out _ (List.getElem_mem ae)
   have af:l.take (k+1)=l.take k++[l[k]]:=by rw[List.take_succ_eq_append_getElem ae]
   have am:Hid (ds.length+1<=1000000):=by
    have h1:=HO.out.2.1.1
    rw[List.length_take] at h1
    show _<=_
    omega
   obtain⟨a,ha⟩:=ex (l[k])
   rw[ha] at hm hs c0 ac af
   obtain⟨nm,r⟩:=a
   dsimp only at hm hs c0 ac
   have ao:=zh af
   have HT:=zh (ads nm C m d r wr hm (an hs HB.out) (by rw[<-hm];exact ac))
   have HM:=zh hm
   clear hc ha hm hs ac af
   go_wp2_with fail
   refine HT.out.mono ?_
   rintro _ u2 ⟨C2,d2,rfl,ai,hb⟩
   have aa:=zh hb
   have ap:=zh ai
   clear hb ai HT
   go_wp2_with (at_builtin;refine Pg.c8 sliceA qK nd rfl (.tmp 11) (.tmp 17) rfl w.heap.size _ ds [(nm,C2,m,d2)] rfl (bj HO.out (aa.out.alloc aa.out.size _)).1 (bj HO.out (aa.out.alloc aa.out.size _)).2.2 _ _ rfl (Rg.ay u2 _ _ _ (by rfl)) (Nat.zero_lt_succ _) am.out ?b2 ?_)
   case b2=>have:=HB.out.size;have:=aa.out.size;simp;omega
   intro v5 W5 aj ak ag ax
   have ab:Below wr.heap.size wr (u2.alloc (.cells #[.string ⟨nm.toArray⟩,.slice C2 m d2] 66)):=aa.out.alloc aa.out.size _
   have aq:Hid (AOwn W5 w.heap.size 66 v5 (ds++[(nm,C2,m,d2)]) (l.take (k+1))):=by
    show AOwn _ _ _ _ _ _
    rw[ao.out]
    exact ng (a:=⟨nm,r⟩) (bj HO.out ab) (an ap.out ((Below.refl _ _).alloc (Nat.le_refl _) _)) HM.out aj ak ag
   have ar:Hid (Below w.heap.size w W5):=(bt HB.out ab).trans (Rg.aw (bj HO.out ab).1 (Nat.le_trans HB.out.size ab.size) ag)
   clear aj ak ag ax ab HO aa HB
   go_wp2_with fail
   go_roundw
   case rel=>exact⟨k+1,_,by omega,by go_num,aq,ar⟩
   case measure=>simp[intOf];omega
  ·obtain rfl:k=n:=by omega
   obtain⟨C,d,hv,ah,hf⟩:=nh HO.out
   rw[List.take_of_length_le (by rw[HN.out];exact Nat.le_refl _)] at hv ah
   rw[HN.out] at hv
   subst hv
   have au:=zh ah
   have av:=zh hf
   clear ah hf HO
   go_wp2_with fail
   go_ret
   exact⟨C,d,rfl,au.out,av.out,HB.out⟩
theorem oT (A:Option Addr)(n c:Nat)(l:List Atm)(w:World)(hn:l.length=n)(hr:ARow w A l)(hl:n<=1000)(hf:Pg.ASmall l) :
  Calls Tryz.prog 52 #[.slice A n c] w fun e w'=>∃ C d,e=.returned (.slice C n d)/\ARow w' C l/\(∀ a,C=some a->w.heap.size<=a.block)/\Below w.heap.size w w':=by
 have HR:=zh hr
 have HN:=zh hn
 have HF:=zh hf
 clear hr hn hf
 go_enter Tryz.func52,Tryz.ntmps52
 go_wp2_with fail
 go_loopw [3,4] (fun v i wr=>∃ (k:Nat) (ds:List AtD),k<=n/\i=.int .i64 k/\Hid (AOwn wr w.heap.size 117 v ds (l.take k))/\Hid (Below w.heap.size w wr)) (fun _ i _=>n-(intOf i).toNat)
 case atStart=>exact⟨0,[],Nat.zero_le _,rfl,nf _ _ _,Below.refl _ _⟩
 case round =>
  obtain⟨k,ds,hk,rfl,HO,HB⟩:=hrel
  by_cases al:k<n
  ·have ae:k<l.length:=by rw[HN.out];exact al
   obtain⟨ad,C,m,d,rfl,hm,hs,hc⟩:=bM HR.out k ae
   obtain⟨c0,c1⟩:=hc _ HB.out
   have ac:=HF.out _ (List.getElem_mem ae)
   have af:l.take (k+1)=l.take k++[l[k]]:=by rw[List.take_succ_eq_append_getElem ae]
   have am:Hid (ds.length+1<=1000000):=by
    have h1:=HO.out.2.1.1
    rw[List.length_take] at h1
    show _<=_
    omega
   obtain⟨a,ha⟩:=ex (l[k])
   rw[ha] at hm hs c0 ac af
   obtain⟨nm,r⟩:=a
   dsimp only at hm hs c0 ac
   have ao:=zh af
   have HT:=zh (adt nm C m d r wr hm (an hs HB.out) (by rw[<-hm];exact ac))
   have HM:=zh hm
   clear hc ha hm hs ac af
   go_wp2_with fail
   refine HT.out.mono ?_
   rintro _ u2 ⟨C2,d2,rfl,ai,hb⟩
   have aa:=zh hb
   have ap:=zh ai
   clear hb ai HT
   go_wp2_with (at_builtin;refine Pg.c8 sliceRA yu nd rfl (.tmp 11) (.tmp 17) rfl w.heap.size _ ds [(nm,C2,m,d2)] rfl (bj HO.out (aa.out.alloc aa.out.size _)).1 (bj HO.out (aa.out.alloc aa.out.size _)).2.2 _ _ rfl (Rg.ay u2 _ _ _ (by rfl)) (Nat.zero_lt_succ _) am.out ?b2 ?_)
   case b2=>have:=HB.out.size;have:=aa.out.size;simp;omega
   intro v5 W5 aj ak ag ax
   have ab:Below wr.heap.size wr (u2.alloc (.cells #[.string ⟨nm.toArray⟩,.slice C2 m d2] 117)):=aa.out.alloc aa.out.size _
   have aq:Hid (AOwn W5 w.heap.size 117 v5 (ds++[(nm,C2,m,d2)]) (l.take (k+1))):=by
    show AOwn _ _ _ _ _ _
    rw[ao.out]
    exact ng (a:=⟨nm,r⟩) (bj HO.out ab) (an ap.out ((Below.refl _ _).alloc (Nat.le_refl _) _)) HM.out aj ak ag
   have ar:Hid (Below w.heap.size w W5):=(bt HB.out ab).trans (Rg.aw (bj HO.out ab).1 (Nat.le_trans HB.out.size ab.size) ag)
   clear aj ak ag ax ab HO aa HB
   go_wp2_with fail
   go_roundw
   case rel=>exact⟨k+1,_,by omega,by go_num,aq,ar⟩
   case measure=>simp[intOf];omega
  ·obtain rfl:k=n:=by omega
   obtain⟨C,d,hv,ah,hf⟩:=nh HO.out
   rw[List.take_of_length_le (by rw[HN.out];exact Nat.le_refl _)] at hv ah
   rw[HN.out] at hv
   subst hv
   have au:=zh ah
   have av:=zh hf
   clear ah hf HO
   go_wp2_with fail
   go_ret
   exact⟨C,d,rfl,au.out,av.out,HB.out⟩
def Pg.fewAs (l:List Atm):Bool:=decide (l.length<=30)&&l.all fewA
theorem Pg.ni {α:Type}(p:α->Bool)(l:List α)(k:Nat)(hk:k<l.length){x:α}(hx:l[k]=x)(h:(l.take k).all p=true):(l.take (k+1)).all p=p x:=by
 rw[List.take_succ_eq_append_getElem hk,List.all_append,h,hx];simp
theorem Pg.iO {α:Type}{p:α->Bool}{l:List α}{k:Nat}(hk:k<l.length){x:α}(hx:l[k]=x)(h:p x=false):l.all p=false:=by
 rw[List.all_eq_false]
 exact⟨l[k],List.getElem_mem hk,by rw[hx,h];decide⟩
theorem kh (A:Option Addr)(n c:Nat)(l:List Atm)(w:World)(hw:MaxOk w)(hn:l.length=n)(hr:ARow w A l)(hl:n<=maxLen)(hf:∀ a∈l,AWide a) :
  Calls Tryz.prog 22 #[.slice A n c] w fun e w'=>e=.returned (.bool (Pg.fewAs l))/\Below w.heap.size w w':=by
 obtain⟨R,hR⟩:=ex (fewAs l)
 rw[hR]
 unfold fewAs at hR
 have HR:=zh hr
 have HN:=zh hn
 have HF:=zh hf
 have HM:=zh hw
 unfold maxLen at hl
 clear hr hn hf hw
 by_cases ai:30<n
 ·have HX:Hid (R=false):=by
   show _=_
   rw[<-hR,HN.out,decide_eq_false (by omega)];rfl
  have d0:decide ((30:Int)<(n:Int))=true:=decide_eq_true (by omega)
  have hp:(30:Int)<(n:Int):=by omega
  clear hR ai
  go_enter Tryz.func22,Tryz.ntmps22
  go_wp2_with fail
  go_ret
  exact⟨by rw[HX.out];rfl,Below.refl _ _⟩
 have HX:Hid (l.all fewA=R):=by
  show _=_
  rw[<-hR,HN.out,decide_eq_true (by omega)];rfl
 have hp:¬ (30:Int)<(n:Int):=by omega
 clear hR
 go_enter Tryz.func22,Tryz.ntmps22
 go_wp2_with fail
 go_loopw [3] (fun i wr=>∃ k:Nat,k<=n/\i=.int .i64 k/\Hid ((l.take k).all fewA=true)/\Hid (Below w.heap.size w wr)) (fun i _=>n-(intOf i).toNat)
 case atStart=>exact⟨0,Nat.zero_le _,rfl,rfl,Below.refl _ _⟩
 case round =>
  obtain⟨k,hk,rfl,HH,HB⟩:=hrel
  by_cases aj:k<n
  ·have ab:k<l.length:=by rw[HN.out];exact aj
   obtain⟨ad,C,m,d,rfl,hm,hs,hc⟩:=bM HR.out k ab
   obtain⟨c0,c1⟩:=hc _ HB.out
   have aa:=HF.out _ (List.getElem_mem ab)
   obtain⟨a,ha⟩:=ex (l[k])
   have h1:=ni fewA l k ab ha HH.out
   have h2:fewA a=false->l.all fewA=false:=fun h=>iO ab ha h
   rw[ha] at hm hs c0 aa
   obtain⟨nm,r⟩:=a
   dsimp only at hm hs c0
   have ae:St wr wr [⟨C,m,r⟩]:=⟨ah HM.out HB.out,Below.refl _ _,fun x hx=>by rw[List.mem_singleton.1 hx];exact⟨an hs HB.out,hm⟩⟩
   have HT:=zh (ab6 ae nm C m d r 0 rfl aa.1 (by rw[<-hm];exact aa.2.1) aa.2.2)
   have H1:=zh h1
   have H2:=zh h2
   clear hc ha hm hs aa h1 h2 ae
   obtain⟨x,hx⟩:=ex (fewA ⟨nm,r⟩)
   rw[hx] at HT H1 H2
   clear hx
   go_wp2_with fail
   refine HT.out.mono ?_
   rintro _ u2 ⟨rfl,ag⟩
   have af:Hid (Below w.heap.size w u2):=HB.out.trans (ag.2.1.mono HB.out.size)
   clear ag HT
   cases x
   ·have ac:Hid (R=false):=by show _=_;rw[<-HX.out,H2.out rfl]
    go_wp2_with fail
    go_ret
    exact⟨by rw[ac.out];rfl,af.out⟩
   ·have ak:Hid ((l.take (k+1)).all fewA=true):=H1.out
    clear H1 H2
    go_wp2_with fail
    go_roundw
    case rel=>exact⟨k+1,by omega,by go_num,ak,af⟩
    case measure=>simp[intOf];omega
  ·obtain rfl:k=n:=by omega
   have ac:Hid (R=true):=by
    show _=_
    rw[<-HX.out,<-HH.out,List.take_of_length_le (by rw[HN.out];exact Nat.le_refl _)]
   go_wp2_with fail
   go_ret
   exact⟨by rw[ac.out];rfl,HB.out⟩
end
end Go.Proofs.YtpfkphmldalmmaaGreatDoor
