/- Part 27 of what the laws lean on. -/
import Derived.Test.YtkaeamjnphaadaaGreatDoorL26
set_option maxRecDepth 100000
set_option maxHeartbeats 3200000
namespace Go.Proofs.YtkaeamjnphaadaaGreatDoor
section
open Go.RowKit Rs At Pg
theorem Pg.acC {w W1 u:World}{T:TypeId}{a b:Value}(h1:w.alloc (.cells #[a,b] T)=W1)(hb:Below W1.heap.size W1 u):∀ j,2<=j->u.cell? ⟨w.heap.size,j,none⟩=none:=fun j hj=>by
 have e1:u.heap[w.heap.size]?=some (.cells #[a,b] T (0,0)):=(hb.block _ (by rw[<-h1];simp)).trans (by rw[<-h1];exact heap_alloc_new w _)
 simp[World.cell?,e1];omega
def Pg.AtomRet (w:World) (i:Int) (R:Except Int Atm) (e:Ending) (w':World):Prop:=Below w.heap.size w w'/\match R with
 | .ok a=>∃ C m d,e=.returned (.agg #[.string ⟨a.name.toArray⟩,.slice C m d])/\a.rng.length=m/\SRow w' C a.rng
 | .error k=>e=panAt i k
theorem Pg.aaH {u:World}{b:Nat}{n:List UInt8}{C:Option Addr}{m d:Nat}{x y:Value}{tmps:Array Value}(k0:u.cell? ⟨b,0,none⟩=some x)(k1:u.cell? ⟨b,1,none⟩=some y)(h:tmps.getD 2 undef=.pointer (some ⟨b,0,none⟩)) :
  (results Tryz.f101 tmps).run Tryz.prog (stA u b n C m d)=.ok (.agg #[.string ⟨n.toArray⟩,.slice C m d]) (stA u b n C m d):=by
 have g0:(stA u b n C m d).cell? ⟨b,0,none⟩=some (.string ⟨n.toArray⟩):=by simp[stA,go_sem,k0]
 have g1:(stA u b n C m d).cell? ⟨b,1,none⟩=some (.slice C m d):=by simp[stA,go_sem,k1]
 have hr:Tryz.f101.results=#[.cell 2 64]:=Tryz.results101
 simp only[results,hr]
 generalize stA u b n C m d=V at *
 simp only[Array.getD_eq_getD_getElem?] at h ⊢
 simp[go_sem,h,g0,g1]
attribute [local go_sem ↓] Go.wp_at_zero Go.wp_at_succ
theorem rC (t:List UInt8)(i:Int)(w:World)(hw:MaxOk w)(ht:t.length<=1000) :
  Calls Tryz.prog 101 #[.agg #[.string ⟨t.toArray⟩,.int .i64 i]] w (Pg.AtomRet w i (atomR t)):=by
 obtain⟨E,hE⟩:=ex (atomR t)
 rw[hE]
 unfold atomR at hE
 obtain⟨V,hV⟩:=ex (w.alloc (.cells #[.string ⟨t.toArray⟩,.int .i64 i] 119))
 obtain⟨U,hU⟩:=ex (V.alloc (.cells #[.string ⟨#[]⟩,.slice none 0 0] 64))
 have ab:Hid (Below w.heap.size w V):=ag hV
 have ac:Hid (Below V.heap.size V U):=ag hU
 have HB:Hid (Below w.heap.size w U):=bt ab.out ac.out
 have HP:=zh (fun W (h:Below U.heap.size U W)=>aB hV (bt ac.out h))
 have HG:=zh (fun W (h:Below U.heap.size U W)=>cu hU h)
 have HN:=zh (fun W (h:Below U.heap.size U W)=>acC hU h)
 have HC:=zh (rk t U (ah hw HB.out) (Nat.le_trans ht (by decide)))
 have ad:Hid (w.heap.size<=V.heap.size):=ab.out.size
 obtain⟨c0,c1⟩:=HP.out _ (Below.refl _ _)
 obtain⟨X,hX⟩:=ex (parseA t)
 rw[hX] at hE HC
 obtain⟨k,nm,l⟩:=X
 dsimp only at hE
 have HE:=zh hE
 clear hE hw ht hX
 go_enter Tryz.func101,Tryz.ntmps101
 go_wp2_with fail
 clear hV hU
 refine HC.out.mono ?_
 rintro _ u ⟨C,m,d,rfl,hm,hr,hb⟩
 have am:=zh hb
 have HM:=zh hm
 have HR:=zh hr
 dsimp only
 clear hb hm hr HC c0 c1
 obtain⟨G,hG⟩:=ex (u.alloc (.cells #[.string ⟨nm.toArray⟩,.slice C m d] 64))
 have ae:Hid (Below u.heap.size u G):=ag hG
 have af:Hid (Below U.heap.size U G):=bt am.out ae.out
 have HQ:=zh (fun W (h:Below G.heap.size G W)=>aB hG h)
 obtain⟨c0,c1⟩:=HP.out _ af.out
 go_wp2_with fail
 clear hG
 refine (eg t i k _).mono ?_
 rintro _ u2 ⟨rfl,hb⟩
 have ai:=zh hb
 have aa:Hid (Below U.heap.size U u2):=bt af.out hb
 clear hb c0 c1
 by_cases h0:k=0
 case neg =>
  rw[jv h0]
  have HF:Hid (E=.error k):=by show _=_;rw[<-HE.out,if_neg h0]
  clear h0
  go_wp2_with fail
  refine⟨rfl,bt HB.out aa.out,?_⟩
  rw[HF.out]
 subst h0
 rw[fK]
 have HF:Hid (E=.ok ⟨nm,l⟩):=by show _=_;rw[<-HE.out];rfl
 obtain⟨p0,p1⟩:=HQ.out _ ai.out
 obtain⟨k0,k1,z0,z1⟩:=HG.out _ aa.out
 have aj:Hid (SRow u2 C l):=ak HR.out (bt ae.out ai.out)
 have al:=zh (eD aj.out (HN.out _ aa.out))
 go_wp2_with fail
 (try simp only[Exit.inBlock,Exit.then])
 refine bodyPost_ret (aaH k0 k1 rfl) rfl ?_
 refine⟨((bt HB.out aa.out).setCell ad.out _).setCell ad.out _,?_⟩
 rw[HF.out]
 exact⟨C,m,d,rfl,HM.out,cO (cO aj.out al.out) al.out⟩
theorem kj (s sep:List UInt8)(n:Nat)(w:World)(hm:MaxOk w)(hl:s.length<=900000)(h1:1<=sep.length)(hn:1<=n)(hn2:n<=1000) :
  Calls Tryz.prog 146 #[.string ⟨s.toArray⟩,.string ⟨sep.toArray⟩,.int .i64 n] w fun e w'=>∃ A m c,e=.returned (.slice A m c)/\(Lib.splitN s sep n).length=m/\m<=1000/\Rg.Row encT 1 w' A (Lib.splitN s sep n)/\Below w.heap.size w w':=by
 obtain⟨m,hm⟩:=hm
 refine (Tryz.strings_SplitN ⟨s.toArray⟩ ⟨sep.toArray⟩ n m w (by show s.length<_;omega) hm h1 hn (by omega)).mono ?_
 rintro e w' ⟨rfl,rfl⟩
 have hd:(Lib.splitB ⟨sep.toArray⟩ 0 (min n (s.length+1)-1) ⟨s.toArray⟩).map (·.data.toList)=Lib.splitN s sep n:=Lib.splitB_data _ _ _ _
 have hlen:=Lib.splitB_length_le ⟨sep.toArray⟩ 0 (min n (s.length+1)-1) ⟨s.toArray⟩
 obtain⟨ps,ab⟩:=ex (Lib.splitB ⟨sep.toArray⟩ 0 (min n (s.length+1)-1) ⟨s.toArray⟩)
 have aa:(⟨s.toArray⟩:ByteArray).size=s.length:=by show s.toArray.size=_;simp
 rw[aa]
 rw[ab] at hd hlen ⊢
 rw[<-hd]
 refine⟨_,_,_,rfl,by rw[List.length_map],by omega,fun _=>⟨_,rfl,by simp,fun i hi j v hv=>?_⟩,(Below.refl _ _).alloc (Nat.le_refl _) _⟩
 have hj:j=0:=by have h:=(List.getElem?_eq_some_iff.1 hv).1;simp only[encT,List.length_cons,List.length_nil] at h;omega
 subst hj
 rw[List.length_map] at hi
 rw[if_pos rfl,Nat.mul_one]
 have ha:(⟨w.heap.size,0,none⟩:Addr).add i=⟨w.heap.size,i,none⟩:=by unfold Addr.add;split <;> simp_all
 rw[ha,cell_of_row _ w.heap.size i _ _ (0,0) (heap_alloc_new w _)]
 rw[List.getElem_map] at hv
 unfold Lib.cellsOf
 rw[List.getElem?_toArray,List.getElem?_append_left (by rw[List.length_map];exact hi),List.getElem?_map,List.getElem?_eq_getElem hi]
 exact hv
theorem Pg.sliceA:Rg.SliceT Tryz.prog encA 2 27 64:=⟨fitsA,by decide,by kernel_rfl,Rg.bQ (z:=.agg #[.string ByteArray.empty,.slice none 0 0]) (b:=40) (by kernel_rfl) (by rfl) (by decide)⟩
theorem Pg.aaI:∀ i,Tryz.prog.info? 64=some i->∀ z,i.zero=some z->∀ u∈z.cells,NoB u:=mg (z0:=.agg #[.string ByteArray.empty,.slice none 0 0]) (by kernel_rfl) (fun u hu b e=>by subst e;simp[Value.cells] at hu)
theorem Pg.nu:∀ x:AtD,∀ u∈encA x,NoB u:=fun x u hu b e=>by subst e;simp[encA] at hu
def Pg.AOwn (w:World) (B:Nat) (T:TypeId) (v:Value) (ds:List AtD) (l:List Atm):Prop:=Rg.Own encA 2 w B T v ds/\AIn w ds l/\Pure NoB w v
theorem Pg.nv (w:World)(B:Nat)(T:TypeId):AOwn w B T (.slice none 0 0) [] []:=⟨Rg.az _ _ _,⟨rfl,fun i d a h=>by simp at h⟩,pure_nil _ _⟩
theorem Pg.bA {w w':World}{B:Nat}{T:TypeId}{v:Value}{ds:List AtD}{l:List Atm}(h:AOwn w B T v ds l)(hb:Below w.heap.size w w'):AOwn w' B T v ds l:=⟨Rg.own_below h.1 hb,qA h.2.1 hb,oU h.2.2 h.1 hb⟩
theorem Pg.acD {w:World}{ds:List AtD}{l:List Atm}{d:AtD}{a:Atm}(h:AIn w ds l)(h1:d.1=a.name)(h2:d.2.2.1=a.rng.length)(h3:SRow w d.2.1 a.rng):AIn w (ds++[d]) (l++[a]):=by
 refine⟨by rw[List.length_append,List.length_append,h.1];rfl,fun i x y e1 e2=>?_⟩
 rcases aG e1 with⟨q1,q2⟩ | ⟨q1,q2⟩
 ·rcases aG e2 with⟨_,p2⟩ | ⟨p1,_⟩
  ·exact h.2 i x y q2 p2
  ·have:=h.1;omega
 ·rcases aG e2 with⟨p1,_⟩ | ⟨_,p2⟩
  ·have:=h.1;omega
  ·subst q2 p2;exact⟨h1,h2,h3⟩
theorem Pg.nw {w w':World}{B:Nat}{T:TypeId}{v v':Value}{ds:List AtD}{l:List Atm}{C:Option Addr}{m c:Nat}{a:Atm}(h:AOwn w B T v ds l)(hr:SRow w C a.rng)(hm:a.rng.length=m)(ho:Rg.Own encA 2 w' B T v' (ds++[(a.name,C,m,c)]))(hp:Pure NoB w' v')(hg:w.grownBy w' v.ownBlock):AOwn w' B T v' (ds++[(a.name,C,m,c)]) (l++[a]):=by
 have hb:But v.ownBlock w w':=qH hg
 refine⟨ho,acD (wX h.2.1 hb h.2.2) rfl hm.symm (tO hr hb fun h0 q hq e=>?_),hp⟩
 cases hv:v.ownBlock with
 | none=>rw[hv] at e;cases e
 | some g=>rw[hv] at e;exact nt hr (h.2.2 g hv) h0 q hq e
theorem Pg.nx {w:World}{B:Nat}{T:TypeId}{v:Value}{ds:List AtD}{l:List Atm}(h:AOwn w B T v ds l):∃ A c,v=.slice A l.length c/\ARow w A l/\∀ a,A=some a->B<=a.block:=by
 obtain⟨A,c,hv,hr,_,_⟩:=Rg.aE fitsA h.1
 rw[h.2.1.1] at hv
 exact⟨A,c,hv,⟨ds,hr,h.2.1⟩,fun a ha=>by subst ha;exact (Rg.bz h.1 a.block (by rw[hv];rfl)).1⟩
def Pg.Fit (sep t:List UInt8):Prop:=t.length<=200000/\∀ p∈Lib.split t sep,p.length<=1000
theorem Pg.lM {sep t:List UInt8}(h:t.length<=1000):Fit sep t:=⟨by omega,fun p hp=>Nat.le_trans (bM sep _ t p hp) h⟩
def Pg.ValFit (key t:List UInt8):Prop:=(key=kDep->t.length<=200000/\∀ p∈Lib.split t semi,Fit orT p)/\(key=kCon->Fit semi t)/\(key=kPro->Fit semi t)/\(key≠kDep->key≠kCon->key≠kPro->t.length<=1000)
theorem Pg.e8 {key t:List UInt8}(h:t.length<=1000):ValFit key t:=⟨fun _=>⟨by omega,fun p hp=>lM (Nat.le_trans (bM semi _ t p hp) h)⟩,fun _=>lM h,fun _=>lM h,fun _ _ _=>h⟩
def Pg.PartsRet {β:Type} (M:World->Option Addr->List β->Prop) (w:World) (i:Int) (R:Except Int (List β)) (e:Ending) (w':World):Prop:=Below w.heap.size w w'/\match R with
 | .ok l=>∃ A n c,e=.returned (.slice A n c)/\l.length=n/\M w' A l/\∀ a,A=some a->w.heap.size<=a.block
 | .error k=>e=panAt i k
theorem jx (t sep:List UInt8)(i:Int)(most:Nat)(w:World)(hw:MaxOk w)(ht:Fit sep t)(h1:1<=sep.length)(hmo:most<=100) :
  Calls Tryz.prog 100 #[.agg #[.string ⟨t.toArray⟩,.int .i64 i],.string ⟨sep.toArray⟩,.int .i64 most,.func (.func 101) #[] #[]] w (Pg.PartsRet ARow w i (partsR atomR sep most t)):=by
 obtain⟨R,hR⟩:=ex (partsR atomR sep most t)
 rw[hR]
 unfold partsR at hR
 obtain⟨V,hV⟩:=ex (w.alloc (.cells #[.string ⟨t.toArray⟩,.int .i64 i] 119))
 have HB:Hid (Below w.heap.size w V):=ag hV
 have HP:=zh (fun W (h:Below V.heap.size V W)=>aB hV h)
 have HM:=zh (fun W (h:Below V.heap.size V W)=>ah (ah hw HB.out) h)
 have HC:Hid (Calls Tryz.prog 146 #[.string ⟨t.toArray⟩,.string ⟨sep.toArray⟩,.int .i64 ((most:Int)+1)] V fun e w'=>∃ A m c,e=.returned (.slice A m c)/\(Lib.splitN t sep (most+1)).length=m/\m<=1000/\Rg.Row encT 1 w' A (Lib.splitN t sep (most+1))/\Below V.heap.size V w') :=
  kj t sep (most+1) V (HM.out _ (Below.refl _ _)) (Nat.le_trans ht.1 (by decide)) h1 (by omega) (by omega)
 have au:∀ p∈Lib.split t sep,p.length<=1000:=ht.2
 obtain⟨f1,f2⟩:=ki (s:=t) (sep:=sep) (fun e=>by rw[e] at h1;simp at h1) most
 obtain⟨ps,aF⟩:=ex (Lib.split t sep)
 obtain⟨qs,aG⟩:=ex (Lib.splitN t sep (most+1))
 rw[aF] at hR f1 f2 au
 rw[aG] at f1 f2 HC
 have iw:IntKind.i64.wrap ((most:Int)+1)=(most:Int)+1:=IntWalk.i64_in _ (by omega)
 obtain⟨c0,c1⟩:=HP.out _ (Below.refl _ _)
 have HR:=zh hR
 have aw:=zh f1
 have aC:=zh f2
 have aL:=zh au
 clear hw hR au f1 f2 aF aG
 go_enter Tryz.func100,Tryz.ntmps100
 go_wp2_with fail
 clear hV
 refine HC.out.mono ?_
 rintro _ z1 ⟨A,n,c,rfl,hn,aV,an,aH⟩
 have HN:=zh hn
 have ac:=zh an
 have ap:=zh aH
 clear hn an aH HC c0 c1 iw
 obtain⟨c0,c1⟩:=HP.out _ ap.out
 by_cases ae:n<=most
 case neg =>
  have ax:Hid (R=.error 4):=by
   show _=_
   rw[<-HR.out,if_neg]
   intro hh
   have:=aw.out hh
   rw[this] at HN
   have:=HN.out
   omega
  have d0:decide (n<=most)=false:=decide_eq_false ae
  clear ae
  go_wp2_with fail
  refine (aR t i false 4 _).mono ?_
  rintro _ u ⟨rfl,hb⟩
  have HU:Hid (Below w.heap.size w u):=HB.out.trans ((bt ap.out hb).mono HB.out.size)
  clear hb
  go_wp2_with fail
  exact⟨rfl,HU.out,by rw[ax.out]⟩
 have aM:qs=ps:=by
  rcases Nat.lt_or_ge most ps.length with h | h
  ·have:=aC.out h
   have:=HN.out
   omega
  ·exact aw.out h
 subst aM
 have ax:Hid (rdL atomR [] qs=R):=by
  show _=_
  rw[<-HR.out,if_pos (by rw[HN.out];exact ae)]
 have d0:decide (n<=most)=true:=decide_eq_true ae
 clear ae aw aC HR
 go_wp2_with fail
 refine (aR t i true 4 _).mono ?_
 rintro _ z2 ⟨rfl,hb⟩
 have ay:Hid (Below V.heap.size V z2):=bt ap.out hb
 have af:=zh (Rg.ai ac.out hb)
 clear hb ac d0 c0 c1 ap
 go_wp2_with fail
 go_loopw [10,27] (fun v i wr=>∃ (k:Nat) (acc:List Atm) (ds:List AtD),k<=n/\i=.int .i64 k/\Hid (AOwn wr z2.heap.size 64 v ds acc)/\Hid (Below z2.heap.size z2 wr/\z2.heap.size<=wr.heap.size)/\Hid (acc.length=k)/\Hid (rdL atomR acc (qs.drop k)=R)) (fun _ i _=>n-(intOf i).toNat)
 case atStart=>exact⟨0,[],[],Nat.zero_le _,rfl,nv _ _ _,⟨Below.refl _ _,Nat.le_refl _⟩,rfl,by show rdL _ _ (qs.drop 0)=R;rw[List.drop_zero,ax.out]⟩
 case round =>
  obtain⟨k,acc,ds,hk,rfl,HO,ab,HA,HE⟩:=hrel
  have aj:Hid (Below V.heap.size V wr):=ay.out.trans (ab.out.1.mono ay.out.size)
  by_cases aD:k<n
  ·have aE:=zh aD
   have az:k<qs.length:=by rw[HN.out];exact aD
   obtain⟨ad,rfl,_,q0⟩:=bU (Rg.ai af.out ab.out.1) k az
   have aq:=aL.out _ (List.getElem_mem az)
   have he:=HE.out
   rw[List.drop_eq_getElem_cons az] at he
   obtain⟨p,hp⟩:=ex (qs[k])
   rw[hp] at aq he q0
   have aN:Hid (ds.length+1<=1000000):=by have h1:=HA.out;have h2:=HO.out.2.1.1;show _<=_;omega
   have ar:=zh (rC p i wr (HM.out _ aj.out) aq)
   obtain⟨c0,c1⟩:=HP.out _ aj.out
   obtain⟨E,hE⟩:=ex (atomR p)
   rw[hE] at ar
   cases E with
   | error e =>
    have al:Hid (R=.error e):=by show _=_;rw[<-he];exact cm hE
    clear he hp aq hE
    go_wp2_with fail
    refine ar.out.mono ?_
    rintro e z3 ⟨hb,rfl⟩
    have aa:Hid (Below w.heap.size w z3):=HB.out.trans ((bt aj.out hb).mono HB.out.size)
    clear hb
    go_wp2_with fail
    exact⟨rfl,aa.out,by rw[al.out]⟩
   | ok a =>
    have aO:Hid (rdL atomR (acc++[a]) (qs.drop (k+1))=R):=by show _=_;rw[<-he];exact (eh hE).symm
    clear he hp aq hE
    go_wp2_with fail
    refine ar.out.mono ?_
    rintro e z3 ⟨hb,C,m,d,rfl,hm,hr⟩
    have aa:=zh hb
    have aP:=zh hm
    have al:=zh hr
    clear hb hm hr c0 c1 q0 ar
    go_wp2_with (at_builtin;refine Pg.cJ sliceA aaI nu rfl (.tmp 31) (.tmp 38) rfl z2.heap.size _ ds [(a.name,C,m,d)] rfl (bA HO.out (aa.out.alloc aa.out.size _)).1 (bA HO.out (aa.out.alloc aa.out.size _)).2.2 _ _ rfl (Rg.av z3 _ _ _ (by rfl)) (Nat.zero_lt_succ _) aN.out ?b2 ?_)
    case b2=>have:=ab.out.2;have:=aa.out.size;simp;omega
    intro v5 W5 aI aJ aA aU
    have am:Below wr.heap.size wr (z3.alloc (.cells #[.string ⟨a.name.toArray⟩,.slice C m d] 64)):=aa.out.alloc aa.out.size _
    have aQ:=zh (nw (bA HO.out am) (ak al.out ((Below.refl _ _).alloc (Nat.le_refl _) _)) aP.out aI aJ aA)
    have aS:Hid (Below z2.heap.size z2 W5/\z2.heap.size<=W5.heap.size):=by
     have h2:=ab.out.1.trans ((am.mono ab.out.2).trans (Rg.ao (bA HO.out am).1 (Nat.le_trans ab.out.2 am.size) aA))
     exact⟨h2,h2.size⟩
    clear aI aJ aA aU am HO aa ab aj
    go_wp2_with fail
    go_roundw
    case rel=>exact⟨k+1,acc++[a],_,(by have:=aE.out;omega),by go_num,aQ,aS,by show (acc++[a]).length=_;rw[List.length_append,HA.out];rfl,aO⟩
    case measure=>have:=aE.out;simp[intOf];omega
  ·obtain rfl:k=n:=by omega
   have al:Hid (R=.ok acc):=by show _=_;rw[<-HE.out,List.drop_eq_nil_of_le (by rw[HN.out];exact Nat.le_refl _)];rfl
   obtain⟨C,d,rfl,aK,hf⟩:=nx HO.out
   have aT:=zh aK
   have HF:=zh hf
   clear aK hf
   go_wp2_with fail
   go_ret
   refine⟨bt HB.out aj.out,?_⟩
   rw[al.out]
   exact⟨C,_,d,rfl,rfl,aT.out,fun a ha=>Nat.le_trans (Nat.le_trans HB.out.size ay.out.size) (HF.out a ha)⟩
end
section
open Go.RowKit Go.ChangeShapes Go.WideShapes Go.Joins Rs At Pg
namespace Pg
instance:Inhabited Atm:=⟨⟨[],[]⟩⟩
instance:Inhabited Gv:=⟨⟨[],[]⟩⟩
end Pg
end
section
open Go.RowKit Rs At Pg
theorem Pg.sliceRA:Rg.SliceT Tryz.prog encA 2 39 132:=⟨fitsA,by decide,by kernel_rfl,Rg.bQ (z:=.agg #[.string ByteArray.empty,.slice none 0 0]) (b:=40) (by kernel_rfl) (by rfl) (by decide)⟩
theorem Pg.oV:∀ i,Tryz.prog.info? 132=some i->∀ z,i.zero=some z->∀ u∈z.cells,NoB u:=mg (z0:=.agg #[.string ByteArray.empty,.slice none 0 0]) (by kernel_rfl) (fun u hu b e=>by subst e;simp[Value.cells] at hu)
def Pg.ASmall (l:List Atm):Prop:=∀ a∈l,a.rng.length<=1000
attribute [local go_sem ↓] Go.wp_at_zero Go.wp_at_succ
theorem oW (A:Option Addr)(n c:Nat)(l:List Atm)(w:World)(hn:l.length=n)(hr:ARow w A l)(hl:n<=1000)(hf:Pg.ASmall l) :
  Calls Tryz.prog 27 #[.slice A n c] w fun e w'=>∃ C d,e=.returned (.slice C n d)/\ARow w' C l/\(∀ a,C=some a->w.heap.size<=a.block)/\Below w.heap.size w w':=by
 have HR:=zh hr
 have HN:=zh hn
 have HF:=zh hf
 clear hr hn hf
 go_enter Tryz.func27,Tryz.ntmps27
 go_wp2_with fail
 go_loopw [3,4] (fun v i wr=>∃ (k:Nat) (ds:List AtD),k<=n/\i=.int .i64 k/\Hid (AOwn wr w.heap.size 132 v ds (l.take k))/\Hid (Below w.heap.size w wr)) (fun _ i _=>n-(intOf i).toNat)
 case atStart=>exact⟨0,[],Nat.zero_le _,rfl,nv _ _ _,Below.refl _ _⟩
 case round =>
  obtain⟨k,ds,hk,rfl,HO,HB⟩:=hrel
  by_cases am:k<n
  ·have ae:k<l.length:=by rw[HN.out];exact am
   obtain⟨ad,C,m,d,rfl,hm,hs,hc⟩:=dz HR.out k ae
   obtain⟨c0,c1⟩:=hc _ HB.out
   have ac:=HF.out _ (List.getElem_mem ae)
   have af:l.take (k+1)=l.take k++[l[k]]:=by rw[List.take_succ_eq_append_getElem ae]
   have an:Hid (ds.length+1<=1000000):=by
    have h1:=HO.out.2.1.1
    rw[List.length_take] at h1
    show _<=_
    omega
   obtain⟨a,ha⟩:=ex (l[k])
   rw[ha] at hm hs c0 ac af
   obtain⟨nm,r⟩:=a
   dsimp only at hm hs c0 ac
   have ap:=zh af
   have HT:=zh (adU nm C m d r wr hm (ak hs HB.out) (by rw[<-hm];exact ac))
   have HM:=zh hm
   clear hc ha hm hs ac af
   go_wp2_with fail
   refine HT.out.mono ?_
   rintro _ u2 ⟨C2,d2,rfl,ai,hb⟩
   have aa:=zh hb
   have aq:=zh ai
   clear hb ai HT
   go_wp2_with (at_builtin;refine Pg.cJ sliceRA oV nu rfl (.tmp 11) (.tmp 17) rfl w.heap.size _ ds [(nm,C2,m,d2)] rfl (bA HO.out (aa.out.alloc aa.out.size _)).1 (bA HO.out (aa.out.alloc aa.out.size _)).2.2 _ _ rfl (Rg.av u2 _ _ _ (by rfl)) (Nat.zero_lt_succ _) an.out ?b2 ?_)
   case b2=>have:=HB.out.size;have:=aa.out.size;simp;omega
   intro v5 W5 aj al ag ay
   have ab:Below wr.heap.size wr (u2.alloc (.cells #[.string ⟨nm.toArray⟩,.slice C2 m d2] 132)):=aa.out.alloc aa.out.size _
   have ar:Hid (AOwn W5 w.heap.size 132 v5 (ds++[(nm,C2,m,d2)]) (l.take (k+1))):=by
    show AOwn _ _ _ _ _ _
    rw[ap.out]
    exact nw (a:=⟨nm,r⟩) (bA HO.out ab) (ak aq.out ((Below.refl _ _).alloc (Nat.le_refl _) _)) HM.out aj al ag
   have au:Hid (Below w.heap.size w W5):=(bt HB.out ab).trans (Rg.ao (bA HO.out ab).1 (Nat.le_trans HB.out.size ab.size) ag)
   clear aj al ag ay ab HO aa HB
   go_wp2_with fail
   go_roundw
   case rel=>exact⟨k+1,_,by omega,by go_num,ar,au⟩
   case measure=>simp[intOf];omega
  ·obtain rfl:k=n:=by omega
   obtain⟨C,d,hv,ah,hf⟩:=nx HO.out
   rw[List.take_of_length_le (by rw[HN.out];exact Nat.le_refl _)] at hv ah
   rw[HN.out] at hv
   subst hv
   have aw:=zh ah
   have ax:=zh hf
   clear ah hf HO
   go_wp2_with fail
   go_ret
   exact⟨C,d,rfl,aw.out,ax.out,HB.out⟩
end
section
open Go.RowKit Rs At Pg
attribute [local go_sem ↓] Go.wp_at_zero Go.wp_at_succ
theorem Pg.tR (t:List UInt8):(Lib.cut t [32,61,32]).1.length<=t.length:=by
 unfold Lib.cut
 split
 ·show (t.take _).length<=_
  rw[List.length_take];omega
 ·exact Nat.le_refl _
theorem rD (t:List UInt8)(i:Int)(w:World)(hw:MaxOk w)(ht:t.length<=1000) :
  Calls Tryz.prog 103 #[.agg #[.string ⟨t.toArray⟩,.int .i64 i]] w fun r w'=>Below w.heap.size w w'/\match gvR t with
   | .ok a=>r=.returned (.agg #[.string ⟨a.name.toArray⟩,.string ⟨a.ver.toArray⟩])
   | .error k=>r=panAt i k :=
 (rA t i w hw (by omega) (Nat.le_trans (Nat.le_trans (tR t) ht) (by decide))).mono fun r w' ⟨h1,h2⟩=>by
  refine⟨h2,?_⟩
  rw[aaG] at h1
  cases h:gvR t with
  | ok a=>rw[h] at h1;exact h1
  | error k=>rw[h] at h1;exact h1
theorem Pg.sliceG:Rg.SliceT Tryz.prog encG 2 28 55:=⟨fitsG,by decide,by kernel_rfl,Rg.bQ (z:=.agg #[.string ByteArray.empty,.string ByteArray.empty]) (b:=32) (by kernel_rfl) (by rfl) (by decide)⟩
theorem Pg.iq {w:World}{B:Nat}{T:TypeId}{v:Value}{l:List Gv}(h:Rg.Own encG 2 w B T v l):∃ A c,v=.slice A l.length c/\GRow w A l/\∀ a,A=some a->B<=a.block:=by
 obtain⟨A,c,hv,hr,_,_⟩:=Rg.aE fitsG h
 exact⟨A,c,hv,hr,fun a ha=>by subst ha;exact (Rg.bz h a.block (by rw[hv];rfl)).1⟩
theorem pP (t sep:List UInt8)(i:Int)(most:Nat)(w:World)(hw:MaxOk w)(ht:Fit sep t)(h1:1<=sep.length)(hmo:most<=100) :
  Calls Tryz.prog 102 #[.agg #[.string ⟨t.toArray⟩,.int .i64 i],.string ⟨sep.toArray⟩,.int .i64 most,.func (.func 103) #[] #[]] w (Pg.PartsRet GRow w i (partsR gvR sep most t)):=by
 obtain⟨R,hR⟩:=ex (partsR gvR sep most t)
 rw[hR]
 unfold partsR at hR
 obtain⟨V,hV⟩:=ex (w.alloc (.cells #[.string ⟨t.toArray⟩,.int .i64 i] 119))
 have HB:Hid (Below w.heap.size w V):=ag hV
 have HP:=zh (fun W (h:Below V.heap.size V W)=>aB hV h)
 have HM:=zh (fun W (h:Below V.heap.size V W)=>ah (ah hw HB.out) h)
 have HC:Hid (Calls Tryz.prog 146 #[.string ⟨t.toArray⟩,.string ⟨sep.toArray⟩,.int .i64 ((most:Int)+1)] V fun e w'=>∃ A m c,e=.returned (.slice A m c)/\(Lib.splitN t sep (most+1)).length=m/\m<=1000/\Rg.Row encT 1 w' A (Lib.splitN t sep (most+1))/\Below V.heap.size V w') :=
  kj t sep (most+1) V (HM.out _ (Below.refl _ _)) (Nat.le_trans ht.1 (by decide)) h1 (by omega) (by omega)
 have aq:∀ p∈Lib.split t sep,p.length<=1000:=ht.2
 obtain⟨f1,f2⟩:=ki (s:=t) (sep:=sep) (fun e=>by rw[e] at h1;simp at h1) most
 obtain⟨ps,aF⟩:=ex (Lib.split t sep)
 obtain⟨qs,aG⟩:=ex (Lib.splitN t sep (most+1))
 rw[aF] at hR f1 f2 aq
 rw[aG] at f1 f2 HC
 have iw:IntKind.i64.wrap ((most:Int)+1)=(most:Int)+1:=IntWalk.i64_in _ (by omega)
 obtain⟨c0,c1⟩:=HP.out _ (Below.refl _ _)
 have HR:=zh hR
 have ar:=zh f1
 have aA:=zh f2
 have aL:=zh aq
 clear hw hR aq f1 f2 aF aG
 go_enter Tryz.func102,Tryz.ntmps102
 go_wp2_with fail
 clear hV
 refine HC.out.mono ?_
 rintro _ z1 ⟨A,n,c,rfl,hn,aU,ak,aH⟩
 have HN:=zh hn
 have ac:=zh ak
 have al:=zh aH
 clear hn ak aH HC c0 c1 iw
 obtain⟨c0,c1⟩:=HP.out _ al.out
 by_cases ae:n<=most
 case neg =>
  have au:Hid (R=.error 4):=by
   show _=_
   rw[<-HR.out,if_neg]
   intro hh
   have:=ar.out hh
   rw[this] at HN
   have:=HN.out
   omega
  have d0:decide (n<=most)=false:=decide_eq_false ae
  clear ae
  go_wp2_with fail
  refine (aR t i false 4 _).mono ?_
  rintro _ u ⟨rfl,hb⟩
  have HU:Hid (Below w.heap.size w u):=HB.out.trans ((bt al.out hb).mono HB.out.size)
  clear hb
  go_wp2_with fail
  exact⟨rfl,HU.out,by rw[au.out]⟩
 have aM:qs=ps:=by
  rcases Nat.lt_or_ge most ps.length with h | h
  ·have:=aA.out h
   have:=HN.out
   omega
  ·exact ar.out h
 subst aM
 have au:Hid (rdL gvR [] qs=R):=by
  show _=_
  rw[<-HR.out,if_pos (by rw[HN.out];exact ae)]
 have d0:decide (n<=most)=true:=decide_eq_true ae
 clear ae ar aA HR
 go_wp2_with fail
 refine (aR t i true 4 _).mono ?_
 rintro _ z2 ⟨rfl,hb⟩
 have aw:Hid (Below V.heap.size V z2):=bt al.out hb
 have af:=zh (Rg.ai ac.out hb)
 clear hb ac d0 c0 c1 al
 go_wp2_with fail
 go_loopw [10,27] (fun v i wr=>∃ (k:Nat) (acc:List Gv),k<=n/\i=.int .i64 k/\Hid (Rg.Own encG 2 wr z2.heap.size 55 v acc)/\Hid (Below z2.heap.size z2 wr/\z2.heap.size<=wr.heap.size)/\Hid (acc.length=k)/\Hid (rdL gvR acc (qs.drop k)=R)) (fun _ i _=>n-(intOf i).toNat)
 case atStart=>exact⟨0,[],Nat.zero_le _,rfl,Rg.az _ _ _,⟨Below.refl _ _,Nat.le_refl _⟩,rfl,by show rdL _ _ (qs.drop 0)=R;rw[List.drop_zero,au.out]⟩
 case round =>
  obtain⟨k,acc,hk,rfl,HO,ab,HA,HE⟩:=hrel
  have aj:Hid (Below V.heap.size V wr):=aw.out.trans (ab.out.1.mono aw.out.size)
  by_cases aD:k<n
  ·have aE:=zh aD
   have ax:k<qs.length:=by rw[HN.out];exact aD
   obtain⟨ad,rfl,_,q0⟩:=bU (Rg.ai af.out ab.out.1) k ax
   have am:=aL.out _ (List.getElem_mem ax)
   have he:=HE.out
   rw[List.drop_eq_getElem_cons ax] at he
   obtain⟨p,hp⟩:=ex (qs[k])
   rw[hp] at am he q0
   have aN:Hid (acc.length+1<=1000000):=by have h1:=HA.out;show _<=_;omega
   have an:=zh (rD p i wr (HM.out _ aj.out) am)
   obtain⟨c0,c1⟩:=HP.out _ aj.out
   obtain⟨E,hE⟩:=ex (gvR p)
   rw[hE] at an
   cases E with
   | error e =>
    have ay:Hid (R=.error e):=by show _=_;rw[<-he];exact cm hE
    clear he hp am hE
    go_wp2_with fail
    refine an.out.mono ?_
    rintro e z3 ⟨hb,rfl⟩
    have aa:Hid (Below w.heap.size w z3):=HB.out.trans ((bt aj.out hb).mono HB.out.size)
    clear hb
    go_wp2_with fail
    exact⟨rfl,aa.out,by rw[ay.out]⟩
   | ok a =>
    have aO:Hid (rdL gvR (acc++[a]) (qs.drop (k+1))=R):=by show _=_;rw[<-he];exact (eh hE).symm
    clear he hp am hE
    go_wp2_with fail
    refine an.out.mono ?_
    rintro e z3 ⟨hb,rfl⟩
    have aa:=zh hb
    clear hb c0 c1 q0 an
    go_wp2_with (at_builtin;refine Rg.aC sliceG rfl (.tmp 31) (.tmp 38) rfl z2.heap.size _ acc [a] rfl (Rg.own_below HO.out (aa.out.alloc aa.out.size _)) _ _ rfl (Rg.av z3 _ _ _ (by rfl)) (Nat.zero_lt_succ _) aN.out ?b2 ?_)
    case b2=>have:=ab.out.2;have:=aa.out.size;simp;omega
    intro v5 W5 aI aJ aT
    have ap:Below wr.heap.size wr (z3.alloc (.cells #[.string ⟨a.name.toArray⟩,.string ⟨a.ver.toArray⟩] 55)):=aa.out.alloc aa.out.size _
    have aP:Hid (Rg.Own encG 2 W5 z2.heap.size 55 v5 (acc++[a])):=aI
    have aQ:Hid (Below z2.heap.size z2 W5/\z2.heap.size<=W5.heap.size):=by
     have h2:=ab.out.1.trans ((ap.mono ab.out.2).trans (Rg.ao (Rg.own_below HO.out ap) (Nat.le_trans ab.out.2 ap.size) aJ))
     exact⟨h2,h2.size⟩
    clear aI aJ aT ap HO aa ab aj
    go_wp2_with fail
    go_roundw
    case rel=>exact⟨k+1,acc++[a],(by have:=aE.out;omega),by go_num,aP,aQ,by show (acc++[a]).length=_;rw[List.length_append,HA.out];rfl,aO⟩
    case measure=>have:=aE.out;simp[intOf];omega
  ·obtain rfl:k=n:=by omega
   have ay:Hid (R=.ok acc):=by show _=_;rw[<-HE.out,List.drop_eq_nil_of_le (by rw[HN.out];exact Nat.le_refl _)];rfl
   obtain⟨C,d,rfl,aK,hf⟩:=iq HO.out
   have aS:=zh aK
   have HF:=zh hf
   clear aK hf
   go_wp2_with fail
   go_ret
   refine⟨bt HB.out aj.out,?_⟩
   rw[ay.out]
   exact⟨C,_,d,rfl,rfl,aS.out,fun a ha=>Nat.le_trans (Nat.le_trans HB.out.size aw.out.size) (HF.out a ha)⟩
def Pg.DFresh (B:Nat) (ds:List Desc):Prop:=∀ (i:Nat) (d:Desc),ds[i]?=some d->∀ a,d.1=some a->B<=a.block
def Pg.DRowF (B:Nat) (w:World) (A:Option Addr) (t:List (List Atm)):Prop:=∃ ds,Rg.Row encO 1 w A ds/\DIn w ds t/\DFresh B ds
theorem Pg.gj {B B':Nat}{w:World}{A:Option Addr}{t:List (List Atm)}(h:Pg.DRowF B w A t)(hB:B'<=B):Pg.DRowF B' w A t:=by
 obtain⟨ds,h1,h2,h3⟩:=h
 exact⟨ds,h1,h2,fun i d e a ha=>Nat.le_trans hB (h3 i d e a ha)⟩
theorem Pg.lN {B:Nat}{w:World}{A:Option Addr}{t:List (List Atm)}(h:Pg.DRowF B w A t):Pg.DRow w A t:=by
 obtain⟨ds,h1,h2,_⟩:=h
 exact⟨ds,h1,h2⟩
def Pg.DOwnF (w:World) (B:Nat) (T:TypeId) (v:Value) (ds:List Desc) (t:List (List Atm)):Prop:=Rg.Own encO 1 w B T v ds/\DIn w ds t/\DFresh B ds/\Pure IsSl w v
theorem Pg.ny (w:World)(B:Nat)(T:TypeId):DOwnF w B T (.slice none 0 0) [] []:=⟨Rg.az _ _ _,⟨rfl,fun i a d h=>by simp at h⟩,fun i a h=>by simp at h,pure_nil _ _⟩
theorem Pg.a7 {w w':World}{B:Nat}{T:TypeId}{v:Value}{ds:List Desc}{t:List (List Atm)}(h:DOwnF w B T v ds t)(hb:Below w.heap.size w w'):DOwnF w' B T v ds t:=⟨Rg.own_below h.1 hb,lD h.2.1 hb,h.2.2.1,oU h.2.2.2 h.1 hb⟩
theorem Pg.qJ {w w':World}{v:Value}{A:Option Addr}{l:List Atm}(h:ARow w A l)(hp:Pure IsSl w v)(hb:But v.ownBlock w w'):ARow w' A l:=by
 refine fq h hb ?_ fun g hg j x hx=>ae8 (hp g hg j x hx)
 cases hv:v.ownBlock with
 | none=>exact fun _ a _ e=>by cases e
 | some g=>exact aef h (hp g hv)
theorem Pg.nz {w w':World}{B:Nat}{T:TypeId}{v v':Value}{ds:List Desc}{t:List (List Atm)}{C:Option Addr}{m c:Nat}{l:List Atm}(h:DOwnF w B T v ds t)(hr:ARow w C l)(hm:l.length=m)(hf:∀ a,C=some a->B<=a.block)(ho:Rg.Own encO 1 w' B T v' (ds++[(C,m,c)]))(hp:Pure IsSl w' v')(hg:w.grownBy w' v.ownBlock):DOwnF w' B T v' (ds++[(C,m,c)]) (t++[l]):=by
 have hb:But v.ownBlock w w':=qH hg
 refine⟨ho,⟨by rw[List.length_append,List.length_append,h.2.1.1];rfl,fun i x y e1 e2=>?_⟩,fun i x e1=>?_,hp⟩
 ·rcases aG e1 with⟨q1,q2⟩ | ⟨q1,q2⟩
  ·rcases aG e2 with⟨_,p2⟩ | ⟨p1,_⟩
   ·exact⟨(h.2.1.2 i x y q2 p2).1,qJ (h.2.1.2 i x y q2 p2).2 h.2.2.2 hb⟩
   ·have:=h.2.1.1;omega
  ·rcases aG e2 with⟨p1,_⟩ | ⟨_,p2⟩
   ·have:=h.2.1.1;omega
   ·subst q2 p2;exact⟨hm.symm,qJ hr h.2.2.2 hb⟩
 ·rcases aG e1 with⟨q1,q2⟩ | ⟨q1,q2⟩
  ·exact h.2.2.1 i x q2
  ·subst q2;exact hf
theorem Pg.down_row {w:World}{B:Nat}{T:TypeId}{v:Value}{ds:List Desc}{t:List (List Atm)}(h:DOwnF w B T v ds t):∃ A c,v=.slice A t.length c/\Pg.DRowF B w A t/\∀ a,A=some a->B<=a.block:=by
 obtain⟨A,c,hv,hr,_,_⟩:=Rg.aE fitsO h.1
 rw[h.2.1.1] at hv
 exact⟨A,c,hv,⟨ds,hr,h.2.1,h.2.2.1⟩,fun a ha=>by subst ha;exact (Rg.bz h.1 a.block (by rw[hv];rfl)).1⟩
theorem Pg.sliceD6:Rg.SliceT Tryz.prog encO 1 26 52:=⟨fitsO,by decide,by kernel_rfl,Rg.bQ (z:=.slice none 0 0) (b:=24) (by kernel_rfl) (by rfl) (by decide)⟩
theorem Pg.acE:∀ i,Tryz.prog.info? 52=some i->∀ z,i.zero=some z->∀ u∈z.cells,IsSl u:=mg (z0:=.slice none 0 0) (by kernel_rfl) (fun u hu=>by simp[Value.cells] at hu;exact⟨_,_,_,hu⟩)
theorem Pg.pQ:∀ x:Desc,∀ u∈encO x,IsSl u:=fun _ _ hu=>⟨_,_,_,List.mem_singleton.1 hu⟩
theorem tS (t:List UInt8)(i:Int)(w:World)(hw:MaxOk w)(ht:Fit orT t) :
  Calls Tryz.prog 99 #[.agg #[.string ⟨t.toArray⟩,.int .i64 i]] w (Pg.PartsRet ARow w i (depR t)):=by
 obtain⟨E,hE⟩:=ex (depR t)
 rw[hE]
 obtain⟨V,hV⟩:=ex (w.alloc (.cells #[.string ⟨t.toArray⟩,.int .i64 i] 119))
 have HB:Hid (Below w.heap.size w V):=ag hV
 obtain⟨c0,c1⟩:=aB hV (Below.refl _ _)
 have HC:Hid (Calls Tryz.prog 100 #[.agg #[.string ⟨t.toArray⟩,.int .i64 i],.string ⟨#[32,111,114,32]⟩,.int .i64 8,.func (.func 101) #[] #[]] V (Pg.PartsRet ARow V i E)):=by
  have h:=jx t orT i 8 V (ah hw HB.out) ht (by decide) (by decide)
  rw[show partsR atomR orT 8 t=E from hE] at h
  exact h
 clear hw ht hE
 go_enter Tryz.func99,Tryz.ntmps99
 go_wp2_with fail
 clear hV
 refine HC.out.mono ?_
 rintro r u ⟨hb,hr⟩
 have HU:Hid (Below w.heap.size w u):=bt HB.out hb
 clear hb HC c0 c1
 cases E with
 | error k =>
  obtain rfl:r=panAt i k:=hr
  go_wp2_with fail
  exact⟨rfl,HU.out,rfl⟩
 | ok l =>
  obtain⟨A,n,c,rfl,hn,aa,hf⟩:=hr
  have HN:=zh hn
  have HR:=zh aa
  have HF:Hid (∀ a,A=some a->w.heap.size<=a.block):=fun a ha=>Nat.le_trans HB.out.size (hf a ha)
  clear hn aa hf
  go_wp2_with fail
  go_ret
  exact⟨HU.out,A,n,c,rfl,HN.out,HR.out,HF.out⟩
theorem rE (t sep:List UInt8)(i:Int)(most:Nat)(w:World)(hw:MaxOk w)(ht:t.length<=200000/\∀ p∈Lib.split t sep,Fit orT p)(h1:1<=sep.length)(hmo:most<=100) :
  Calls Tryz.prog 98 #[.agg #[.string ⟨t.toArray⟩,.int .i64 i],.string ⟨sep.toArray⟩,.int .i64 most,.func (.func 99) #[] #[]] w (Pg.PartsRet (fun u A l=>Pg.DRowF w.heap.size u A l) w i (partsR depR sep most t)):=by
 obtain⟨R,hR⟩:=ex (partsR depR sep most t)
 rw[hR]
 unfold partsR at hR
 obtain⟨V,hV⟩:=ex (w.alloc (.cells #[.string ⟨t.toArray⟩,.int .i64 i] 119))
 have HB:Hid (Below w.heap.size w V):=ag hV
 have HP:=zh (fun W (h:Below V.heap.size V W)=>aB hV h)
 have HM:=zh (fun W (h:Below V.heap.size V W)=>ah (ah hw HB.out) h)
 have HC:Hid (Calls Tryz.prog 146 #[.string ⟨t.toArray⟩,.string ⟨sep.toArray⟩,.int .i64 ((most:Int)+1)] V fun e w'=>∃ A m c,e=.returned (.slice A m c)/\(Lib.splitN t sep (most+1)).length=m/\m<=1000/\Rg.Row encT 1 w' A (Lib.splitN t sep (most+1))/\Below V.heap.size V w') :=
  kj t sep (most+1) V (HM.out _ (Below.refl _ _)) (Nat.le_trans ht.1 (by decide)) h1 (by omega) (by omega)
 have au:∀ p∈Lib.split t sep,Fit orT p:=ht.2
 obtain⟨f1,f2⟩:=ki (s:=t) (sep:=sep) (fun e=>by rw[e] at h1;simp at h1) most
 obtain⟨ps,aF⟩:=ex (Lib.split t sep)
 obtain⟨qs,aG⟩:=ex (Lib.splitN t sep (most+1))
 rw[aF] at hR f1 f2 au
 rw[aG] at f1 f2 HC
 have iw:IntKind.i64.wrap ((most:Int)+1)=(most:Int)+1:=IntWalk.i64_in _ (by omega)
 obtain⟨c0,c1⟩:=HP.out _ (Below.refl _ _)
 have HR:=zh hR
 have ax:=zh f1
 have aC:=zh f2
 have aM:=zh au
 clear hw hR au f1 f2 aF aG
 go_enter Tryz.func98,Tryz.ntmps98
 go_wp2_with fail
 clear hV
 refine HC.out.mono ?_
 rintro _ z1 ⟨A,n,c,rfl,hn,aX,am,aH⟩
 have HN:=zh hn
 have ac:=zh am
 have an:=zh aH
 clear hn am aH HC c0 c1 iw
 obtain⟨c0,c1⟩:=HP.out _ an.out
 by_cases ae:n<=most
 case neg =>
  have ay:Hid (R=.error 4):=by
   show _=_
   rw[<-HR.out,if_neg]
   intro hh
   have:=ax.out hh
   rw[this] at HN
   have:=HN.out
   omega
  have d0:decide (n<=most)=false:=decide_eq_false ae
  clear ae
  go_wp2_with fail
  refine (aR t i false 4 _).mono ?_
  rintro _ u ⟨rfl,hb⟩
  have HU:Hid (Below w.heap.size w u):=HB.out.trans ((bt an.out hb).mono HB.out.size)
  clear hb
  go_wp2_with fail
  exact⟨rfl,HU.out,by rw[ay.out]⟩
 have aN:qs=ps:=by
  rcases Nat.lt_or_ge most ps.length with h | h
  ·have:=aC.out h
   have:=HN.out
   omega
  ·exact ax.out h
 subst aN
 have ay:Hid (rdL depR [] qs=R):=by
  show _=_
  rw[<-HR.out,if_pos (by rw[HN.out];exact ae)]
 have d0:decide (n<=most)=true:=decide_eq_true ae
 clear ae ax aC HR
 go_wp2_with fail
 refine (aR t i true 4 _).mono ?_
 rintro _ z2 ⟨rfl,hb⟩
 have ap:Hid (Below V.heap.size V z2):=bt an.out hb
 have af:=zh (Rg.ai ac.out hb)
 clear hb ac d0 c0 c1 an
 go_wp2_with fail
 go_loopw [10,27] (fun v i wr=>∃ (k:Nat) (acc:List (List Atm)) (ds:List Desc),k<=n/\i=.int .i64 k/\Hid (DOwnF wr z2.heap.size 52 v ds acc)/\Hid (Below z2.heap.size z2 wr/\z2.heap.size<=wr.heap.size)/\Hid (acc.length=k)/\Hid (rdL depR acc (qs.drop k)=R)) (fun _ i _=>n-(intOf i).toNat)
 case atStart=>exact⟨0,[],[],Nat.zero_le _,rfl,ny _ _ _,⟨Below.refl _ _,Nat.le_refl _⟩,rfl,by show rdL _ _ (qs.drop 0)=R;rw[List.drop_zero,ay.out]⟩
 case round =>
  obtain⟨k,acc,ds,hk,rfl,HO,ab,HA,HE⟩:=hrel
  have aj:Hid (Below V.heap.size V wr):=ap.out.trans (ab.out.1.mono ap.out.size)
  by_cases aD:k<n
  ·have aE:=zh aD
   have az:k<qs.length:=by rw[HN.out];exact aD
   obtain⟨ad,rfl,_,q0⟩:=bU (Rg.ai af.out ab.out.1) k az
   have aq:=aM.out _ (List.getElem_mem az)
   have he:=HE.out
   rw[List.drop_eq_getElem_cons az] at he
   obtain⟨p,hp⟩:=ex (qs[k])
   rw[hp] at aq he q0
   have aO:Hid (ds.length+1<=1000000):=by have h1:=HA.out;have h2:=HO.out.2.1.1;show _<=_;omega
   have ar:=zh (tS p i wr (HM.out _ aj.out) aq)
   obtain⟨c0,c1⟩:=HP.out _ aj.out
   obtain⟨E,hE⟩:=ex (depR p)
   rw[hE] at ar
   cases E with
   | error e =>
    have ak:Hid (R=.error e):=by show _=_;rw[<-he];exact cm hE
    clear he hp aq hE
    go_wp2_with fail
    refine ar.out.mono ?_
    rintro e z3 ⟨hb,rfl⟩
    have aa:Hid (Below w.heap.size w z3):=HB.out.trans ((bt aj.out hb).mono HB.out.size)
    clear hb
    go_wp2_with fail
    exact⟨rfl,aa.out,by rw[ak.out]⟩
   | ok a =>
    have aP:Hid (rdL depR (acc++[a]) (qs.drop (k+1))=R):=by show _=_;rw[<-he];exact (eh hE).symm
    clear he hp aq hE
    go_wp2_with fail
    refine ar.out.mono ?_
    rintro e z3 ⟨hb,C,m,d,rfl,hm,hr,aI⟩
    have aa:=zh hb
    have aQ:=zh hm
    have ak:=zh hr
    have aS:Hid (∀ a,C=some a->z2.heap.size<=a.block):=fun a ha=>Nat.le_trans ab.out.2 (aI a ha)
    clear hb hm hr aI c0 c1 q0 ar
    go_wp2_with (at_builtin;refine Pg.cJ sliceD6 acE pQ rfl (.tmp 31) (.tmp 38) rfl z2.heap.size _ ds [(C,m,d)] rfl (a7 HO.out (aa.out.alloc aa.out.size _)).1 (a7 HO.out (aa.out.alloc aa.out.size _)).2.2.2 _ _ rfl (Rg.av z3 _ [(C,m,d)] _ (by rfl)) (Nat.zero_lt_succ _) aO.out ?b2 ?_)
    case b2=>have:=ab.out.2;have:=aa.out.size;simp;omega
    intro v5 W5 aJ aK aA aW
    have al:Below wr.heap.size wr (z3.alloc (.cells #[.slice C m d] 52)):=aa.out.alloc aa.out.size _
    have aT:=zh (nz (a7 HO.out al) (aw ak.out ((Below.refl _ _).alloc (Nat.le_refl _) _)) aQ.out aS.out aJ aK aA)
    have aU:Hid (Below z2.heap.size z2 W5/\z2.heap.size<=W5.heap.size):=by
     have h2:=ab.out.1.trans ((al.mono ab.out.2).trans (Rg.ao (a7 HO.out al).1 (Nat.le_trans ab.out.2 al.size) aA))
     exact⟨h2,h2.size⟩
    clear aJ aK aA aW al HO aa ab aj
    go_wp2_with fail
    go_roundw
    case rel=>exact⟨k+1,acc++[a],_,(by have:=aE.out;omega),by go_num,aT,aU,by show (acc++[a]).length=_;rw[List.length_append,HA.out];rfl,aP⟩
    case measure=>have:=aE.out;simp[intOf];omega
  ·obtain rfl:k=n:=by omega
   have ak:Hid (R=.ok acc):=by show _=_;rw[<-HE.out,List.drop_eq_nil_of_le (by rw[HN.out];exact Nat.le_refl _)];rfl
   obtain⟨C,d,rfl,aL,hf⟩:=down_row HO.out
   have aV:=zh aL
   have HF:=zh hf
   clear aL hf
   go_wp2_with fail
   go_ret
   refine⟨bt HB.out aj.out,?_⟩
   rw[ak.out]
   exact⟨C,_,d,rfl,rfl,gj aV.out (Nat.le_trans HB.out.size ap.out.size),fun a ha=>Nat.le_trans (Nat.le_trans HB.out.size ap.out.size) (HF.out a ha)⟩
end
section
open Go.RowKit
theorem kl (l:List UInt8):l=if Wm.sgnd l then 45 :: Wm.mgn l else Wm.mgn l:=by
 unfold Wm.mgn Wm.sgnd
 cases l with
 | nil=>rfl
 | cons c t =>
  by_cases hc:c=45
  ·subst hc;simp
  ·simp[hc]
theorem gl (l:List UInt8):Vm.has 112 l=Vm.has 112 (Wm.mgn l)/\Wm.mgn (Vm.fst 112 l)=Vm.fst 112 (Wm.mgn l)/\Wm.sgnd (Vm.fst 112 l)=Wm.sgnd l/\Vm.snd 112 l=Vm.snd 112 (Wm.mgn l):=by
 have hl:=kl l
 cases hs:Wm.sgnd l
 ·have hm:Wm.mgn l=l:=by unfold Wm.mgn;rw[hs];rfl
  rw[hm]
  have hf:Wm.sgnd (Vm.fst 112 l)=false:=by
   unfold Vm.fst Wm.sgnd at *
   cases l with
   | nil=>rfl
   | cons c t =>
    rw[List.takeWhile_cons]
    cases c != 112
    ·rfl
    ·exact hs
  refine⟨rfl,?_,hf,rfl⟩
  unfold Wm.mgn;rw[hf];rfl
 ·rw[hs] at hl
  simp only[if_true] at hl
  generalize Wm.mgn l=t at *
  subst hl
  have h1:Vm.fst 112 (45 :: t)=45 :: Vm.fst 112 t:=by unfold Vm.fst;rw[List.takeWhile_cons];rfl
  refine⟨?_,?_,?_,?_⟩
  ·unfold Vm.has;simp
  ·rw[h1];rfl
  ·rw[h1];rfl
  ·unfold Vm.snd;rw[List.dropWhile_cons];rfl
def plainB (l:List UInt8):Bool := !l.isEmpty&&(!(l.head? == some 48&&decide (1<l.length))&&l.all Vm.dig)
theorem km (l:List UInt8):plainB l=true↔Wm.plain l:=by
 unfold plainB Wm.plain
 cases l with
 | nil=>simp
 | cons c t =>
  cases t with
  | nil=>simp
  | cons d u =>
   simp
   constructor
   ·rintro⟨h1,h2⟩;exact⟨h2,h1⟩
   ·rintro⟨h1,h2⟩;exact⟨h2,h1⟩
def refForm (l:List UInt8):Bool :=
 Vm.has 112 (Wm.mgn l)&&(plainB (Vm.fst 112 (Wm.mgn l))&&(plainB (Wm.mgn (Vm.snd 112 l))&&(!(Wm.sgnd (Vm.snd 112 l)&&Wm.mgn (Vm.snd 112 l)==[48])&&lastOdd (Vm.fst 112 (Wm.mgn l)))))
theorem i7 (l:List UInt8)(h:Wm.mgn l≠[]):lastOdd (Wm.mgn l)=lastOdd l:=by
 have hl:=kl l
 unfold lastOdd
 cases hs:Wm.sgnd l
 ·rw[hs] at hl;simp only[Bool.false_eq_true,if_false] at hl;rw[<-hl]
 ·rw[hs] at hl;simp only[if_true] at hl
  generalize Wm.mgn l=t at *
  subst hl
  cases t with
  | nil=>exact absurd rfl h
  | cons c u=>rfl
theorem tT:lastOdd [48]=false:=by decide
theorem yx (l:List UInt8):refForm l=formOk l:=by
 obtain⟨p1,p2,p3,p4⟩:=gl l
 have e:formOk l=(Vm.has 112 l&&(Wm.decB (Vm.fst 112 l)&&(Wm.decB (Vm.snd 112 l)&&lastOdd (Vm.fst 112 l)))):=rfl
 rw[Bool.eq_iff_iff,e]
 unfold refForm
 rw[<-p1,<-p2]
 simp only[Bool.and_eq_true,km,Wm.kh,Bool.not_eq_true',Bool.and_eq_false_imp,beq_eq_false_iff_ne]
 generalize Vm.fst 112 l=a
 generalize Vm.snd 112 l=b
 unfold Wm.decOk
 constructor
 ·rintro⟨h1,h2,h3,h4,h5⟩
  rw[i7 a h2.1] at h5
  refine⟨h1,⟨h2,fun h=>?_⟩,⟨h3,fun h=>?_⟩,h5⟩
  ·have:=i7 a h2.1
   rw[h,tT,h5] at this;cases this
  ·cases hs:Wm.sgnd b
   ·rfl
   ·exact absurd h (h4 hs)
 ·rintro⟨h1,⟨h2,_⟩,⟨h3,h4⟩,h5⟩
  refine⟨h1,h2,h3,fun h h6=>?_,by rw[i7 a h2.1];exact h5⟩
  rw[h4 h6] at h;cases h
def refRange (m n:Nat) (neg:Bool):Bool:=decide (m<=9007199254740991)&&(decide (n<=5000)&&(decide (-1074<=Wm.sg neg n)&&decide ((m.log2:Int)+1+Wm.sg neg n<=1024)))
theorem i9 (l:List UInt8):refRange (Vm.num (Wm.mgn (Vm.fst 112 l))) (Vm.num (Wm.mgn (Vm.snd 112 l))) (Wm.sgnd (Vm.snd 112 l))=Wm.rangeOk (Wm.nmb (Vm.fst 112 l)) (Wm.nmb (Vm.snd 112 l)):=by
 generalize Vm.fst 112 l=a
 generalize Vm.snd 112 l=b
 have aa:Wm.sg (Wm.sgnd b) (Vm.num (Wm.mgn b))=if Wm.sgnd b then -(Vm.num (Wm.mgn b):Int) else Vm.num (Wm.mgn b):=by unfold Wm.sg;cases Wm.sgnd b <;> simp
 unfold refRange
 rw[aa]
 unfold Wm.nmb
 generalize Vm.num (Wm.mgn a)=m at *
 generalize Vm.num (Wm.mgn b)=n at *
 by_cases hm:m<=9007199254740991
 ·rw[decide_eq_true hm,Bool.true_and]
  have hF:∀ g:Bool,(if g=true then (if m<=9223372036854775808 then -(m:Int) else -9223372036854775808) else (if m<9223372036854775808 then (m:Int) else 9223372036854775807))=if g then -(m:Int) else m:=by
   intro g;cases g <;> simp only[Bool.false_eq_true,if_false,if_true] <;> rw[if_pos (by omega)]
  rw[hF]
  rw[Wm.mJ (by split <;> omega) (by split <;> omega)]
  have ab:(if Wm.sgnd a=true then -(m:Int) else m).natAbs=m:=by split <;> omega
  rw[ab]
  rw[Bool.eq_iff_iff]
  simp only[Bool.and_eq_true,decide_eq_true_eq]
  cases Wm.sgnd b
  ·simp only[Bool.false_eq_true,if_false]
   split <;> omega
  ·simp only[if_true]
   split <;> omega
 ·rw[decide_eq_false hm,Bool.false_and]
  symm
  cases Wm.sgnd a
  ·simp only[Bool.false_eq_true,if_false]
   exact Wm.oM (by split <;> omega)
  ·simp only[if_true]
   exact Wm.oL (by split <;> omega)
theorem iU (l:List UInt8)(hl:l.length<=1000)(w:World) :
  Calls Tryz.prog 113 #[.string ⟨l.toArray⟩] w fun e w'=>e=.returned (.bool (plainB l))/\w=w':=by
 by_cases h0:l=[]
 ·subst h0
  go_enter Tryz.func113,Tryz.ntmps113
  go_wp2_with fail
  go_ret
  exact⟨rfl,rfl⟩
 have ac:0<l.length:=List.length_pos_iff.2 h0
 have he:l.isEmpty=false:=by cases l <;> simp at *
 obtain⟨c,hc,ag⟩:=byte_at l 0 ac
 have hh:(l.head? == some 48)=((c.toNat:Int)==48):=by
  cases l with
  | nil=>exact absurd rfl h0
  | cons x t =>
   have:x=c:=ag
   subst this
   rw[Bool.eq_iff_iff]
   simp only[List.head?_cons,beq_iff_eq,Option.some.injEq]
   exact⟨fun h=>by rw[h];rfl,fun h=>UInt8.toNat.inj (show x.toNat=48 by omega)⟩
 have HP:Hid (plainB l=(!(((c.toNat:Int)==48)&&decide (1<l.length))&&l.all Vm.dig)):=by show _=_;unfold plainB;rw[he,hh];rfl
 clear ag hh h0
 by_cases hz:((c.toNat:Int)==48)=true/\1<l.length
 ·have HV:Hid (plainB l=false):=by show _=_;rw[HP.out,hz.1,decide_eq_true hz.2];rfl
  obtain⟨aj,ad⟩:=hz
  go_enter Tryz.func113,Tryz.ntmps113
  go_wp2_with fail
  go_ret
  exact⟨by rw[HV.out];rfl,rfl⟩
 have HV:Hid (plainB l=l.all Vm.dig):=by
  show _=_;rw[HP.out]
  cases hq:((c.toNat:Int)==48)
  ·rfl
  ·rw[decide_eq_false (fun h=>hz ⟨hq,h⟩)];rfl
 have ad:((c.toNat:Int)==48)=false\/(((c.toNat:Int)==48)=true/\¬ 1<l.length):=by
  cases hq:((c.toNat:Int)==48)
  ·exact Or.inl rfl
  ·exact Or.inr ⟨rfl,fun h=>hz ⟨hq,h⟩⟩
 clear hz HP
 have ah:((c.toNat:Int)==48)=false\/(((c.toNat:Int)==48)=true/\decide ((1:Int)<(l.length:Int))=false):=by
  rcases ad with h | ⟨h1,h2⟩
  ·exact Or.inl h
  ·exact Or.inr ⟨h1,decide_eq_false (by omega)⟩
 clear ad
 rcases ah with hq | ⟨hq,hq2⟩
 all_goals
  go_enter Tryz.func113,Tryz.ntmps113
  go_wp2_with fail
  go_loop [3] (fun i=>∃ k:Nat,k<=l.length/\i=.int .i64 k/\Hid ((l.take k).all Vm.dig=true)) (fun i=>l.length-(intOf i).toNat)
  case atStart=>exact⟨0,Nat.zero_le _,rfl,rfl⟩
  case round =>
   obtain⟨k,hk,rfl,aa⟩:=hrel
   by_cases ae:k<l.length
   ·obtain⟨d,hd,af⟩:=byte_at l k ae
    have HS:=zh (dF l Vm.dig k ae)
    rw[af] at HS
    have HF:Hid (Vm.dig d=false->l.all Vm.dig=false):=fun h=>dG l _ k ae (by rw[af];exact h)
    clear af
    go_wp2_with fail
    refine (bL d _).mono ?_
    rintro e w' ⟨g1,g2⟩;subst g2;subst g1
    cases ab:Vm.dig d
    ·have HA:=zh (HF.out ab)
     clear ab HF
     go_wp2_with fail
     go_ret
     exact⟨by rw[HV.out,HA.out];rfl,rfl⟩
    ·have ai:=zh ab
     clear ab
     go_wp2_with fail
     go_round
     case rel=>exact⟨k+1,by omega,by go_num,by show _=_;rw[HS.out,aa.out,ai.out];rfl⟩
     case measure=>simp[intOf];omega
   ·obtain rfl:k=l.length:=by omega
    have HA:Hid (l.all Vm.dig=true):=by show _=_;have:=aa.out;rwa [List.take_length] at this
    clear aa
    go_wp2_with fail
    go_ret
    exact⟨by rw[HV.out,HA.out];rfl,rfl⟩
theorem acF (l:List UInt8)(k:Nat):Vm.num (l.take k)<=Vm.num l:=by
 have h:l.take k++l.drop k=l:=List.take_append_drop k l
 have mono:∀ (m:List UInt8) (a:Nat),a<=m.foldl (fun n c=>10*n+(c.toNat-48)) a:=fun m=>by
  induction m with
  | nil=>intro a;exact Nat.le_refl _
  | cons c m ih=>intro a;rw[List.foldl_cons];exact Nat.le_trans (by omega) (ih _)
 have e:Vm.num l=(l.drop k).foldl (fun n c=>10*n+(c.toNat-48)) (Vm.num (l.take k)):=by
  conv=>lhs;rw[<-h]
  unfold Vm.num
  rw[List.foldl_append]
 rw[e]
 exact mono _ _
def valR (l:List UInt8) (most:Nat):Ending:=if Vm.num l<=most then .returned (.tuple #[.int .u64 (Vm.num l),.bool true]) else .returned (.tuple #[.int .u64 0,.bool false])
theorem qK (l:List UInt8)(most:Nat)(hl:l.length<=1000)(hd:l.all Vm.dig=true)(hm:9<=most)(hm2:most<=9007199254740991)(w:World) :
  Calls Tryz.prog 114 #[.string ⟨l.toArray⟩,.int .u64 most] w fun e w'=>e=valR l most/\w=w':=by
 go_enter Tryz.func114,Tryz.ntmps114
 go_wp2_with fail
 go_loop [6,7] (fun n i=>∃ k:Nat,k<=l.length/\i=.int .i64 k/\∃ x:Nat,n=.int .u64 x/\x<=most/\Hid (Vm.num (l.take k)=x)) (fun _ i=>l.length-(intOf i).toNat)
 case atStart=>exact⟨0,Nat.zero_le _,rfl,0,rfl,by omega,rfl⟩
 case round =>
  obtain⟨k,hk,rfl,x,rfl,hx,HS⟩:=hrel
  by_cases ab:k<l.length
  ·obtain⟨c,hc,ad⟩:=byte_at l k ab
   have ae:Vm.dig c=true:=by rw[List.all_eq_true] at hd;exact hd c (by rw[<-ad];exact List.getElem_mem ab)
   rw[Wm.jt] at ae
   have aa:Vm.num (l.take (k+1))=10*x+(c.toNat-48):=by
    rw[List.take_succ_eq_append_getElem ab,ad,Wm.tA,HS.out]
   have hle:=acF l (k+1)
   rw[aa] at hle
   have HN:=zh aa
   have HL:=zh hle
   obtain⟨d,af⟩:∃ d:Nat,c.toNat=48+d:=⟨c.toNat-48,by omega⟩
   have ag:d<=9:=by omega
   rw[af,show 48+d-48=d from by omega] at HN HL
   have ah:(c.toNat:Int)=48+d:=by omega
   clear ad ae aa hle HS
   by_cases hb:10*x+d<=most
   ·have ac:¬ ((most:Int)-d) / 10<x:=by omega
    go_wp2_with fail
    go_round
    case rel=>exact⟨k+1,by omega,by go_num,10*x+d,congrArg (Value.int .u64) (by omega),hb,HN⟩
    case measure=>simp[intOf];omega
   ·have ac:((most:Int)-d) / 10<x:=by omega
    have HR:Hid (valR l most=.returned (.tuple #[.int .u64 0,.bool false])):=by show _=_;unfold valR;rw[if_neg (by have:=HL.out;omega)]
    go_wp2_with fail
    go_ret2
    exact⟨by rw[HR.out];rfl,rfl⟩
  ·obtain rfl:k=l.length:=by omega
   have HV:Hid (Vm.num l=x):=by show _=_;have:=HS.out;rwa [List.take_length] at this
   have HR:Hid (valR l most=.returned (.tuple #[.int .u64 x,.bool true])):=by show _=_;unfold valR;rw[HV.out,if_pos hx]
   clear HS
   go_wp2_with fail
   go_ret2
   exact⟨by rw[HR.out];rfl,rfl⟩
end
section
open Go.RowKit
namespace Wm
theorem sub_zero {r:Nat}(h:0<r)(hi:r<9218868437227405312):Ieee.double.sub 0 r=some (word true r):=by
 obtain⟨a1,a2,a3⟩:=bu false (r:=r) (by omega)
 have ab:rung r=r:=a1
 have ac:neg r=false:=a2
 have e0:Ieee.double.read 0=.number false 0 (-1074):=by
  have:=ch 0 (by decide) (by decide)
  exact this
 have e1:=ch r a3 (by rw[ab];exact hi)
 rw[ab,ac] at e1
 unfold Ieee.Format.sub
 rw[e0,e1]
 have aa:min (-1074:Int) (-1074+(upOf r:Int)) = -1074:=by omega
 have hm:=eF h
 unfold Ieee.Datum.opposite Ieee.Datum.sum
 simp only[aa,lB]
 have t1:((-1074:Int) - -1074).toNat=0:=rfl
 have t2:((-1074:Int)+(upOf r:Int) - -1074).toNat=upOf r:=by omega
 rw[t1,t2]
 have hp:0<magOf r*2 ^ upOf r:=Nat.mul_pos hm (Nat.two_pow_pos _)
 have ad:(if false=true then (-1:Int) else 1)*((0*2 ^ 0:Nat):Int)+(if (!false)=true then (-1:Int) else 1)*((magOf r*2 ^ upOf r:Nat):Int) = -((magOf r*2 ^ upOf r:Nat):Int):=by simp
 rw[ad]
 generalize hM:magOf r*2 ^ upOf r=M at *
 rw[if_neg (by omega),decide_eq_true (by omega),Int.natAbs_neg,Int.natAbs_natCast]
 show some (Ieee.double.nearest true M (-1074))=_
 rw[<-hM]
 have hu:upOf r<=2045:=by unfold upOf;split <;> omega
 have ae:=bP hm (fj r)
 rw[el true (magOf r) (upOf r) (-1074) hm (fj r) (by omega) (by omega),i5 h]
theorem aaJ {v:Nat}(h:2<=v):v.log2=(v / 2).log2+1:=by
 have h0:0<v / 2:=by omega
 refine l9 ?_ ?_
 ·have:=pJ h0;rw[Nat.pow_succ];omega
 ·have:=jq (v / 2);rw[Nat.pow_succ] at *;omega
end Wm
def BitSt (n v b:Nat):Prop:=(if v=0 then b else b+(v.log2+1))=n.log2+1/\v<=n
theorem vw {n:Nat}(h:0<n):BitSt n n 0:=by
 refine⟨?_,Nat.le_refl _⟩
 rw[if_neg (by omega)];omega
theorem yy {n v b:Nat}(h:BitSt n v b)(hv:0<v):BitSt n (v / 2) (b+1):=by
 obtain⟨h1,h2⟩:=h
 rw[if_neg (by omega)] at h1
 refine⟨?_,by omega⟩
 by_cases c:v=1
 ·subst c;rw[if_pos (by decide)];have:(1:Nat).log2=0:=by decide
  omega
 ·rw[if_neg (by omega)]
  have:=Wm.aaJ (v:=v) (by omega)
  omega
end
end Go.Proofs.YtkaeamjnphaadaaGreatDoor
