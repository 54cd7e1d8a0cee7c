/- Part 35 of what the laws lean on. -/
import Derived.Test.YtgnaiidgjmicaaaGreatDoorM32
set_option maxRecDepth 100000
set_option maxHeartbeats 6400000
namespace Go.Proofs.YtgnaiidgjmicaaaGreatDoor
namespace Rp
open Rs At Pg
def runX {α:Type} [DecidableEq α] (x:α):List α->Nat
 | []=>0
 | y :: l=>if y=x then runX x l+1 else 0
theorem abT {α:Type} [DecidableEq α] (x:α):∀ l:List α,runX x l<=l.length
 | []=>Nat.le_refl _
 | y :: l=>by have:=abT x l;unfold runX;split <;> simp <;> omega
theorem abU {α:Type} [DecidableEq α] (x:α):∀ l:List α,∀ y∈l.take (runX x l),y=x
 | [],y,h=>by cases h
 | z :: l,y,h=>by
  unfold runX at h
  split at h
  next e =>
   rw[List.take_succ_cons] at h
   rcases List.mem_cons.1 h with rfl | h
   ·exact e
   ·exact abU x l y h
  next e=>cases h
theorem abV {α:Type} [DecidableEq α] (x:α):∀ l:List α,dd (some x) l=dd none (l.drop (runX x l))
 | []=>rfl
 | y :: l=>by
  unfold runX
  by_cases h:y=x
  ·subst h
   rw[if_pos rfl,List.drop_succ_cons,<-abV y l,dd,if_pos rfl]
  ·rw[if_neg h,List.drop_zero,dd,if_neg (fun e=>h (Option.some.inj e).symm),dd,if_neg (fun e=>by cases e)]
theorem nk (f:Pk->Bool):∀ (a b:List Pk) (k:Nat),numF f k (a++b)=numF f k a++numF f (k+a.length) b
 | [],b,k=>rfl
 | p :: a,b,k=>by
  rw[List.cons_append,numF,numF,nk f a b (k+1),List.length_cons,show k+1+a.length=k+(a.length+1) by omega]
  split <;> rfl
theorem lA {f:Pk->Bool}:∀ (l:List Pk) (k:Nat),(∀ p∈l,f p=false)->numF f k l=[]
 | [],_,_=>rfl
 | p :: l,k,h=>by
  rw[numF,if_neg (by rw[h p List.mem_cons_self];decide),lA l (k+1) fun q hq=>h q (List.mem_cons_of_mem _ hq)]
theorem vz {f:Pk->Bool}:∀ (l:List Pk) (k:Nat),(∀ p∈l,f p=true)->numF f k l=(List.range l.length).map fun j=>((k+j:Nat):Int)
 | [],_,_=>rfl
 | p :: l,k,h=>by
  rw[numF,if_pos (h p List.mem_cons_self),vz l (k+1) (fun q hq=>h q (List.mem_cons_of_mem _ hq)),List.length_cons,List.range_succ_eq_map,List.map_cons,List.map_map]
  congr 1
  apply List.map_congr_left
  intro j _
  show ((k+1+j:Nat):Int)=((k+(j+1):Nat):Int)
  omega
theorem abW {p q:Pk}(h:cmpP p q<0):Lib.compareBytes p.name q.name<=0:=by
 unfold cmpP Vm.both at h
 by_cases e:Lib.compareBytes p.name q.name=0
 ·omega
 ·rw[if_neg (by simpa using e)] at h;omega
theorem afo (x:List UInt8):Lib.compareBytes x x=0:=(Vm.ez x x).2 rfl
theorem adX {a b c:List UInt8}(h1:Lib.compareBytes a b<0)(h2:Lib.compareBytes b c<=0):Lib.compareBytes a c<0:=by
 have h3:=Vm.kk.2 a b c (by omega) h2
 by_cases e:Lib.compareBytes a c=0
 ·have e2:=(Vm.ez a c).1 e
  subst e2
  have:=Vm.kk.1 a b
  omega
 ·omega
theorem abX {x:List UInt8}:∀ {l:List (List UInt8)},l.Pairwise (fun a b=>Lib.compareBytes a b<=0)->(∀ y∈l,Lib.compareBytes x y<=0)->∀ y∈l.drop (runX x l),Lib.compareBytes x y<0
 | [],_,_,y,h=>by simp at h
 | z :: l,hp,hx,y,h=>by
  unfold runX at h
  by_cases e:z=x
  ·rw[if_pos e,List.drop_succ_cons] at h
   exact abX (List.pairwise_cons.1 hp).2 (fun y hy=>hx y (List.mem_cons_of_mem _ hy)) y h
  ·rw[if_neg e,List.drop_zero] at h
   have hz:Lib.compareBytes x z<0:=by
    have h1:=hx z List.mem_cons_self
    have h2:Lib.compareBytes x z≠0:=fun e2=>e ((Vm.ez x z).1 e2).symm
    omega
   rcases List.mem_cons.1 h with rfl | h
   ·exact hz
   ·exact adX hz ((List.pairwise_cons.1 hp).1 y h)
theorem vA {l:List Pk}(h:Ord l):(l.map Pk.name).Pairwise fun a b=>Lib.compareBytes a b<=0:=by
 rw[List.pairwise_iff_getElem]
 intro i j hi hj aa
 rw[List.getElem_map,List.getElem_map]
 rw[List.length_map] at hi hj
 exact abW (h i j hi hj aa)
def NmSt (l:List Pk) (L:List (List UInt8)) (i p:Nat):Prop :=
 p<=l.length/\dd none ((l.drop p).map Pk.name)=L.drop i/\(∀ a∈l.take p,∀ b∈l.drop p,Lib.compareBytes a.name b.name<0)/\(0<i->∃ a∈l.take p,L[i-1]?=some a.name)
theorem adY (l:List Pk):NmSt l (dd none (l.map Pk.name)) 0 0:=⟨Nat.zero_le _,by rw[List.drop_zero,List.drop_zero],fun a ha=>by simp at ha,fun h=>absurd h (Nat.lt_irrefl 0)⟩
theorem afp {l:List Pk}{L:List (List UInt8)}{i p:Nat}(h:NmSt l L i p)(hi:L.length<=i):p=l.length:=by
 obtain⟨h1,h2,_,_⟩:=h
 rw[List.drop_eq_nil_of_le hi] at h2
 by_cases hp:p<l.length
 ·rw[List.drop_eq_getElem_cons hp,List.map_cons,dd,if_neg (fun e=>by cases e)] at h2
  cases h2
 ·omega
theorem adZ {l:List Pk}{L:List (List UInt8)}{i p:Nat}(ho:Ord l)(h:NmSt l L i p)(hi:i<L.length):∃ c,0<c/\p+c<=l.length/\numF (fun q=>decide (q.name=L[i])) 0 l=(List.range c).map (fun j=>((p+j:Nat):Int))/\(∀ j,j<c->∃ h:p+j<l.length,l[p+j].name=L[i])/\(∀ x,0<i->L[i-1]?=some x->Lib.compareBytes x L[i]<0)/\NmSt l L (i+1) (p+c):=by
 obtain⟨h1,h2,h3,h4⟩:=h
 obtain⟨x,hx⟩:=ex (L[i])
 have hd:=List.drop_eq_getElem_cons hi
 rw[hd,hx] at h2
 have hp:p<l.length:=by
  apply Nat.lt_of_not_le
  intro hle
  rw[List.drop_eq_nil_of_le hle] at h2
  cases h2
 rw[List.drop_eq_getElem_cons hp,List.map_cons,dd,if_neg (fun e=>by cases e)] at h2
 obtain⟨ad,h2⟩:=List.cons.inj h2
 have hs:=vA ho
 have af:((l.drop p).map Pk.name).Pairwise fun a b=>Lib.compareBytes a b<=0:=by rw[List.map_drop];exact hs.sublist (List.drop_sublist p _)
 rw[List.drop_eq_getElem_cons hp,List.map_cons] at af
 obtain⟨ag,al⟩:=List.pairwise_cons.1 af
 rw[ad] at h2 ag
 obtain⟨c,hc⟩:=ex (runX x ((l.drop (p+1)).map Pk.name))
 have ah:c<=(l.drop (p+1)).length:=by rw[<-hc];have:=abT x ((l.drop (p+1)).map Pk.name);rwa [List.length_map] at this
 rw[List.length_drop] at ah
 have ab:∀ q∈(l.drop p).take (c+1),q.name=x:=fun q hq=>by
  rw[List.drop_eq_getElem_cons hp,List.take_succ_cons] at hq
  rcases List.mem_cons.1 hq with rfl | hq
  ·exact ad
  ·have:=abU x ((l.drop (p+1)).map Pk.name) q.name (by rw[hc,<-List.map_take];exact List.mem_map_of_mem hq)
   exact this
 have aa:∀ q∈l.drop (p+(c+1)),Lib.compareBytes x q.name<0:=fun q hq=>by
  have:=abX al ag q.name (by rw[hc,<-List.map_drop,List.drop_drop,show p+1+c=p+(c+1) by omega];exact List.mem_map_of_mem hq)
  exact this
 have ac:∀ q∈l.take p,Lib.compareBytes q.name x<0:=fun q hq=>by
  have:=h3 q hq l[p] (by rw[List.drop_eq_getElem_cons hp];exact List.mem_cons_self)
  rwa [ad] at this
 have ne:∀ {a b:List UInt8},Lib.compareBytes a b<0->a≠b:=fun h e=>by subst e;rw[afo] at h;omega
 have ae:l.take (p+(c+1))=l.take p++(l.drop p).take (c+1):=List.take_add
 refine⟨c+1,Nat.zero_lt_succ _,by omega,?_,fun j hj=>?_,fun y h0 hy=>?_,by omega,?_,fun a ha b hb=>?_,fun _=>?_⟩
 ·have hl:l=l.take p++((l.drop p).take (c+1)++l.drop (p+(c+1))):=by
   rw[<-List.append_assoc,<-ae,List.take_append_drop]
  have ai:(l.take p).length=p:=by rw[List.length_take];omega
  have aj:((l.drop p).take (c+1)).length=c+1:=by rw[List.length_take,List.length_drop];omega
  rw[hx]
  conv=>lhs;rw[hl]
  rw[nk,nk,lA _ _ (fun q hq=>decide_eq_false (ne (ac q hq))),lA _ _ (fun q hq=>decide_eq_false (ne (aa q hq)).symm),vz _ _ (fun q hq=>decide_eq_true (ab q hq)),ai,aj,List.nil_append,List.append_nil]
  apply List.map_congr_left
  intro j _
  rw[Nat.zero_add]
 ·have ak:p+j<l.length:=by omega
  refine⟨ak,?_⟩
  rw[hx]
  refine ab _ ?_
  rw[List.mem_take_iff_getElem]
  exact⟨j,by rw[List.length_drop];omega,by rw[List.getElem_drop]⟩
 ·obtain⟨a,ha,e⟩:=h4 h0
  rw[e] at hy
  rw[hx,<-Option.some.inj hy]
  exact ac a ha
 ·rw[h2.symm,abV,hc,<-List.map_drop,List.drop_drop,show p+1+c=p+(c+1) by omega]
 ·rw[ae] at ha
  rcases List.mem_append.1 ha with ha | ha
  ·refine h3 a ha b ?_
   have e:l.drop (p+(c+1))=(l.drop p).drop (c+1):=by rw[List.drop_drop]
   rw[e] at hb
   exact List.mem_of_mem_drop hb
  ·rw[ab a ha];exact aa b hb
 ·refine⟨l[p],?_,?_⟩
  ·rw[ae]
   refine List.mem_append.2 (Or.inr ?_)
   rw[List.drop_eq_getElem_cons hp,List.take_succ_cons]
   exact List.mem_cons_self
  ·rw[Nat.add_sub_cancel,List.getElem?_eq_getElem hi,hx,ad]
end Rp
section
open Go.RowKit Rs At Pg Rp
attribute [local go_sem ↓] Go.wp_at_zero Go.wp_at_succ
attribute [local go_sem] Pg.av
theorem nn (A:Option Addr)(n c:Nat)(l:List Pk)(w:World)(hk:KOk w)(hn:l.length=n)(hr:RRow w A l)(hf:∀ p∈l,PWide p) :
  Calls Tryz.prog 4 #[.slice A n c] w fun e w'=>e=.returned (.bool true)/\Below w.heap.size w w':=by
 have aP:=zh (oV w hk)
 have HK:=zh hk
 have HN:=zh hn
 have HR:=zh hr
 have HF:=zh hf
 clear hk hn hr hf
 go_enter Tryz.func4,Tryz.ntmps4
 go_wp2_with fail
 refine aP.out.mono ?_
 rintro _ z ⟨rfl,hb⟩
 have HB:=zh hb
 clear hb aP
 go_wp2_with fail
 refine (fR A n c l z (ag HK.out.1 HB.out) HN.out (bb HR.out HB.out) (fun p hp=>vu (HF.out p hp))).mono ?_
 rintro _ u1 ⟨rfl,hb⟩
 have ay:Hid (Below w.heap.size w u1):=bt HB.out hb
 clear hb
 dsimp only
 have ab:Hid ((chkR l).2=0->l.length<=64/\(∀ p∈l,checkP p=0)/\Ord l):=vj
 obtain⟨ei,a4⟩:=ex ((chkR l).1)
 obtain⟨e,he⟩:=ex ((chkR l).2)
 rw[a4,he]
 rw[he] at ab
 clear a4 he
 go_wp2_with fail
 refine (mC A n c l u1 (ag HK.out.1 ay.out) HN.out (bb HR.out ay.out) HF.out).mono ?_
 rintro _ u2 ⟨rfl,hb⟩
 have ao:Hid (Below w.heap.size w u2):=bt ay.out hb
 clear hb
 obtain⟨f,aK⟩:=ex (fewR l)
 rw[aK]
 have aQ:=zh aK
 clear aK
 cases f
 ·go_wp2_with fail
  go_ret
  exact⟨rfl,ao.out⟩
 by_cases e0:e=0
 case neg =>
  have bo:(e != 0)=true:=bne_iff_ne.2 e0
  go_wp2_with fail
  go_ret
  exact⟨rfl,ao.out⟩
 subst e0
 have aR:=zh (vi aQ.out fun p hp=>(HF.out p hp).2.2.2.2.2.2.2.2).2
 have ai:Hid (n<=64):=by show n<=64;rw[<-HN.out];exact (ab.out rfl).1
 have a7:=zh (ab.out rfl).2.1
 have a8:=zh (ab.out rfl).2.2
 clear ab aQ
 go_wp2_with fail
 refine (oT A n c l u2 HN.out (bb HR.out ao.out) (Nat.le_trans ai.out (by decide)) (fun p hp=>(aR.out p hp).2)).mono ?_
 rintro _ u3 ⟨A',c',rfl,hx,hb⟩
 have HX:=zh hx
 have aS:Hid (Below w.heap.size w u3):=bt ao.out hb
 clear hx hb
 go_wp2_with fail
 refine (fN A' n c' l u3 HN.out HX.out (Nat.le_trans ai.out (by decide)) (fun p hp=>Nat.le_trans (fF (a7.out p hp) (aR.out p hp).1.2.2.2.2.2.2.2).1 (by decide))).mono ?_
 rintro _ u4 ⟨B,bc,rfl,hx,hb⟩
 have aT:namesR l=dd none (l.map Pk.name):=oU _
 have aU:Hid (NmSt l (namesR l) 0 0):=by rw[aT];exact adY l
 obtain⟨L,hL⟩:=ex (namesR l)
 have aB:L.length<=n:=by rw[<-hL,<-HN.out];have:=j5 (l.map Pk.name);rwa [List.length_map] at this
 rw[hL] at hx aU ⊢
 obtain⟨M,hM⟩:=ex L.length
 rw[hM] at aB ⊢
 have HM:=zh hM
 have a9:=zh aB
 have aV:Hid (∀ u,Below u4.heap.size u4 u->Rg.Row encT 1 u B L):=fun u h=>Rg.aj hx h
 have aW:Hid (∀ u,Below u4.heap.size u4 u->RRow u A' l):=fun u h=>bb HX.out (bt hb h)
 have aX:Hid (Below w.heap.size w u4):=bt aS.out hb
 have aZ:Hid (∀ u,Below u4.heap.size u4 u->RRow u A l):=fun u h=>bb HR.out (bt aX.out h)
 clear hx hb aT hL aB hM HX ay ao aS HB
 go_wp2_with fail
 go_loopw [7,8,9,10] (fun nx iv _ _ wr=>∃ (i p:Nat),i<=M/\iv=.int .i64 i/\nx=.int .i64 p/\Hid (NmSt l L i p)/\Hid (Below u4.heap.size u4 wr)) (fun _ iv _ _ _=>M-(intOf iv).toNat)
 case atStart=>exact⟨0,0,Nat.zero_le _,rfl,rfl,aU.out,Below.refl _ _⟩
 case round =>
  obtain⟨i,p,hi,rfl,rfl,HS,HW⟩:=hrel
  have ba:M<=64:=Nat.le_trans a9.out ai.out
  by_cases bd:i<M
  ·have a0:i<L.length:=by rw[HM.out];exact bd
   obtain⟨q,bp,bj,aL,aM,ak,a5⟩:=adZ a8.out HS.out a0
   obtain⟨ad,y,rfl,hy,-,av⟩:=jq (aV.out _ HW.out) i a0
   rw[hy] at aL aM ak
   rw[HN.out] at bj
   have az:=zh aL
   have a1:=zh aM
   have a2:=zh a5
   have aA:Hid (∀ u,Below wr.heap.size wr u->u.cell? (ad.add i)=some (.string ⟨y.toArray⟩)):=fun u h=>(h.cell (cj av)).trans av
   have i0:(0:Int)<=(i:Int):=by omega
   have i1:(i:Int)<(M:Int):=by omega
   have ap:=av
   have be:Hid (∃ wd,Below wr.heap.size wr wd):=⟨wr,Below.refl _ _⟩
   clear aM a5 aL be
   by_cases a3:i=0
   ·have g0:decide ((0:Int)<(i:Int))=false:=decide_eq_false (by omega)
    have g5:decide (0<i)=false:=decide_eq_false (by omega)
    clear ak a3
    go_wp2_with fail
    first | (go_quiet (fail)) | fail
    have ac:Hid (Below wr.heap.size wr (wr.drewN nq)):=below_drewN (Below.refl _ _) nq
    generalize wr.drewN nq=w2 at *
    have aC:=aA.out _ ac.out
    have al:Hid (Below u4.heap.size u4 w2):=bt HW.out ac.out
    go_wp2_with fail
    refine (dX A' n c' l y w2 HN.out (aW.out _ al.out) (Nat.le_trans ai.out (by decide))).mono ?_
    rintro _ w3 h3
    obtain⟨C,cc,rfl,aa,hb⟩:=ew h3
    rw[az.out] at aa ⊢
    have am:((List.range q).map fun j=>((p+j:Nat):Int)).length=q:=by simp
    rw[am]
    have aD:=zh aa
    have aE:=zh am
    have aF:Hid (Below u4.heap.size u4 w3):=bt al.out hb
    have aG:Hid (∀ u,Below w3.heap.size w3 u->u.cell? (ad.add i)=some (.string ⟨y.toArray⟩)):=fun u h=>aA.out u (ac.out.trans ((bt hb h).mono ac.out.size))
    clear h3 aa hb am aC ac al az
    go_wp2_with fail
    clear g0 g5 i0 i1 av ap
    obtain⟨z1,aN⟩:∃ z1,z1=w3:=⟨_,rfl⟩
    subst aN
    go_loopw [7,10] (fun nx kv wr=>∃ (j s:Nat),j<=q/\s=p+j/\kv=.int .i64 j/\nx=.int .i64 s/\Hid (Below z1.heap.size z1 wr)) (fun _ kv _=>q-(intOf kv).toNat)
    case atStart=>exact⟨0,p,Nat.zero_le _,rfl,rfl,rfl,Below.refl _ _⟩
    case round =>
     obtain⟨j,s,hj,hs,rfl,rfl,HZ⟩:=hrel
     have aq:Hid (Below u4.heap.size u4 wr):=bt aF.out HZ.out
     by_cases ar:j<q
     ·obtain⟨an,aw⟩:=a1.out j ar
      obtain⟨ae,v,rfl,hv,-,bk⟩:=Rp.lT (eN aD.out HZ.out) j (by rw[aE.out];exact ar)
      have aH:v=(s:Int):=by rw[<-hv,hs];simp
      subst aH
      obtain⟨af,D,dc,C2,bl,G,gc,rfl,-,-,-,ax⟩:=aY (aZ.out _ aq.out) (p+j) an
      obtain⟨k0,-⟩:=ax _ (Below.refl _ _)
      rw[aw,<-hs] at k0
      have k1:=aG.out _ HZ.out
      have sn:s<n:=by rw[hs,<-HN.out];exact an
      have j0:(0:Int)<=(j:Int):=by omega
      have j1:(j:Int)<(q:Int):=by omega
      have i0:(0:Int)<=(i:Int):=by omega
      have i1:(i:Int)<(M:Int):=by omega
      have s0:(0:Int)<=(s:Int):=by omega
      have s1:(s:Int)<(n:Int):=by omega
      have d1:decide ((n:Int)<=(s:Int))=false:=decide_eq_false (by omega)
      have d2:decide (n<=s)=false:=decide_eq_false (by omega)
      have bf:j<64:=by have:=ai.out;omega
      have bg:s<64:=by have:=ai.out;omega
      have e1:((s:Int) != (s:Int))=false:=by simp
      have e3:(y==y)=true:=by simp
      have aI:=zh hs
      have e2:(y != y)=false:=by simp
      clear ax hv an aw hs sn
      go_wp2_with fail
      first | (go_quiet (fail)) | fail
      go_wp2_with fail
      go_roundw
      case rel=>exact⟨j+1,s+1,by omega,(by have:=aI.out;omega),by go_num,by go_num,below_drewN HZ.out _⟩
      case measure=>simp[intOf];omega
     ·obtain rfl:j=q:=by omega
      have dz:((j:Int)==0)=false:=by simp;omega
      go_wp2_with fail
      go_roundw
      case rel=>exact⟨i+1,s,by omega,by go_num,rfl,hs ▸ a2.out,aq.out⟩
      case measure=>simp[intOf];omega
   ·obtain⟨k,bm⟩:∃ k,i=k+1:=⟨i-1,by omega⟩
    have aJ:k<L.length:=by omega
    obtain⟨ah,x,aO,a6,-,bn⟩:=jq (aV.out _ HW.out) k aJ
    cases aO
    have au:=ak x (by omega) (by rw[show i-1=k by omega,List.getElem?_eq_getElem aJ,a6])
    have g0:decide ((0:Int)<(i:Int))=true:=decide_eq_true (by omega)
    have g5:decide (0<i)=true:=decide_eq_true (by omega)
    have g1:(i:Int)-1=(k:Int):=by omega
    have g2:IntKind.i64.wrap (k:Int)=(k:Int):=IntWalk.i64_in _ (by omega)
    have g3:(0:Int)<=(k:Int):=by omega
    have g4:(k:Int)<(M:Int):=by omega
    have bh:Op.bytesLess x y=true:=by rw[eT];exact decide_eq_true au
    clear ak au a6 aJ bm a3
    go_wp2_with fail
    first | (go_quiet (fail)) | fail
    have ac:Hid (Below wr.heap.size wr (wr.drewN nq)):=below_drewN (Below.refl _ _) nq
    generalize wr.drewN nq=w2 at *
    have aC:=aA.out _ ac.out
    have al:Hid (Below u4.heap.size u4 w2):=bt HW.out ac.out
    go_wp2_with fail
    refine (dX A' n c' l y w2 HN.out (aW.out _ al.out) (Nat.le_trans ai.out (by decide))).mono ?_
    rintro _ w3 h3
    obtain⟨C,cc,rfl,aa,hb⟩:=ew h3
    rw[az.out] at aa ⊢
    have am:((List.range q).map fun j=>((p+j:Nat):Int)).length=q:=by simp
    rw[am]
    have aD:=zh aa
    have aE:=zh am
    have aF:Hid (Below u4.heap.size u4 w3):=bt al.out hb
    have aG:Hid (∀ u,Below w3.heap.size w3 u->u.cell? (ad.add i)=some (.string ⟨y.toArray⟩)):=fun u h=>aA.out u (ac.out.trans ((bt hb h).mono ac.out.size))
    clear h3 aa hb am aC ac al az
    go_wp2_with fail
    clear g0 g5 g1 g2 g3 g4 bh bn i0 i1 av ap
    obtain⟨z1,aN⟩:∃ z1,z1=w3:=⟨_,rfl⟩
    subst aN
    go_loopw [7,10] (fun nx kv wr=>∃ (j s:Nat),j<=q/\s=p+j/\kv=.int .i64 j/\nx=.int .i64 s/\Hid (Below z1.heap.size z1 wr)) (fun _ kv _=>q-(intOf kv).toNat)
    case atStart=>exact⟨0,p,Nat.zero_le _,rfl,rfl,rfl,Below.refl _ _⟩
    case round =>
     obtain⟨j,s,hj,hs,rfl,rfl,HZ⟩:=hrel
     have aq:Hid (Below u4.heap.size u4 wr):=bt aF.out HZ.out
     by_cases ar:j<q
     ·obtain⟨an,aw⟩:=a1.out j ar
      obtain⟨ae,v,rfl,hv,-,bk⟩:=Rp.lT (eN aD.out HZ.out) j (by rw[aE.out];exact ar)
      have aH:v=(s:Int):=by rw[<-hv,hs];simp
      subst aH
      obtain⟨af,D,dc,C2,bl,G,gc,rfl,-,-,-,ax⟩:=aY (aZ.out _ aq.out) (p+j) an
      obtain⟨k0,-⟩:=ax _ (Below.refl _ _)
      rw[aw,<-hs] at k0
      have k1:=aG.out _ HZ.out
      have sn:s<n:=by rw[hs,<-HN.out];exact an
      have j0:(0:Int)<=(j:Int):=by omega
      have j1:(j:Int)<(q:Int):=by omega
      have i0:(0:Int)<=(i:Int):=by omega
      have i1:(i:Int)<(M:Int):=by omega
      have s0:(0:Int)<=(s:Int):=by omega
      have s1:(s:Int)<(n:Int):=by omega
      have d1:decide ((n:Int)<=(s:Int))=false:=decide_eq_false (by omega)
      have d2:decide (n<=s)=false:=decide_eq_false (by omega)
      have bf:j<64:=by have:=ai.out;omega
      have bg:s<64:=by have:=ai.out;omega
      have e1:((s:Int) != (s:Int))=false:=by simp
      have e3:(y==y)=true:=by simp
      have aI:=zh hs
      have e2:(y != y)=false:=by simp
      clear ax hv an aw hs sn
      go_wp2_with fail
      first | (go_quiet (fail)) | fail
      go_wp2_with fail
      go_roundw
      case rel=>exact⟨j+1,s+1,by omega,(by have:=aI.out;omega),by go_num,by go_num,below_drewN HZ.out _⟩
      case measure=>simp[intOf];omega
     ·obtain rfl:j=q:=by omega
      have dz:((j:Int)==0)=false:=by simp;omega
      go_wp2_with fail
      go_roundw
      case rel=>exact⟨i+1,s,by omega,by go_num,rfl,hs ▸ a2.out,aq.out⟩
      case measure=>simp[intOf];omega
  ·obtain rfl:i=M:=by omega
   have bi:p=n:=by rw[<-HN.out];exact afp HS.out (Nat.le_of_eq HM.out)
   subst bi
   have d0:((p:Int)==(p:Int))=true:=by simp
   go_wp2_with fail
   go_ret
   exact⟨rfl,bt aX.out HW.out⟩
end
end Go.Proofs.YtgnaiidgjmicaaaGreatDoor
