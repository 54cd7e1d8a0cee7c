/- Part 19 of what the laws lean on. -/
import Derived.Test.YtkaeamjnphaadaaGreatDoorL15
import Derived.Test.YtkaeamjnphaadaaGreatDoorL18
set_option maxRecDepth 100000
set_option maxHeartbeats 3200000
namespace Go.Proofs.YtkaeamjnphaadaaGreatDoor
section
open Go.RowKit Rs At
theorem ox (w:World):Calls Tryz.prog 152 #[] w (SpansRet w (allR.map spOf)):=by
 go_enter Tryz.func152,Tryz.ntmps152
 go_wp2_with fail
 go_ret
 refine⟨⟨some ⟨w.heap.size,0,none⟩,1,rfl,fun _=>⟨_,rfl,by simp,fun i hi=>?_⟩,Nat.le_refl _,fun a ha=>by cases ha;exact Nat.le_refl _⟩,(Below.refl _ _).alloc (Nat.le_refl _) _⟩
 have aa:i<1:=hi
 obtain rfl:i=0:=by omega
 have e:∀ j,((⟨w.heap.size,0,none⟩:Addr).add (0*4)).add j=⟨w.heap.size,j,none⟩:=fun j=>by
  rw[Nat.zero_mul,Rg.add_zero];unfold Addr.add;split <;> simp_all
 refine⟨?_,?_,?_,?_⟩ <;> (rw[e,World.cell?_alloc_mark];rfl)
theorem oy (na nb:List UInt8)(A B:Option Addr)(n m c d:Nat)(l k:List Sp)(w:World)(hn:l.length=n)(hm:k.length=m)(hr:SRow w A l)(hq:SRow w B k)(hl:n<=1000)(hk:m<=1000) :
  Calls Tryz.prog 62 #[.agg #[.string ⟨na.toArray⟩,.slice A n c],.agg #[.string ⟨nb.toArray⟩,.slice B m d]] w fun e w'=>e=.returned (.bool (decide ((⟨na,l⟩:Atm)=⟨nb,k⟩)))/\Below w.heap.size w w':=by
 obtain⟨R,hR⟩:=ex (decide ((⟨na,l⟩:Atm)=⟨nb,k⟩))
 rw[hR]
 have aa:Below w.heap.size w ((w.alloc (.cells #[.string ⟨na.toArray⟩,.slice A n c] 132)).alloc (.cells #[.string ⟨nb.toArray⟩,.slice B m d] 132)):=((Below.refl _ _).alloc (Nat.le_refl _) _).alloc (by simp) _
 have HB:=zh aa
 have HR:=zh (ak hr aa)
 have HQ:=zh (ak hq aa)
 subst hn hm
 clear aa hr hq
 cases he:na==nb
 ·have HF:Hid (R=false):=by
   show _=_;rw[<-hR];refine decide_eq_false fun e=>?_
   have:=(Atm.mk.inj e).1
   rw[this] at he;simp at he
  clear hR
  go_enter Tryz.func62,Tryz.ntmps62
  go_wp2_with fail
  go_ret
  exact⟨by rw[HF.out];rfl,HB.out⟩
 ·have HT:Hid (R=decide (l=k)):=by
   show _=_;rw[<-hR]
   have e1:na=nb:=by simpa using he
   rw[Bool.eq_iff_iff];simp[e1]
  clear hR
  go_enter Tryz.func62,Tryz.ntmps62
  go_wp2_with fail
  refine (q8 A c l B d k _ HR.out HQ.out (by omega) (by omega)).mono ?_
  rintro _ u ⟨rfl,hb⟩
  have ab:Hid (Below w.heap.size w u):=bt HB.out hb
  rw[<-HT.out]
  clear hb
  go_wp2_with fail
  go_ret
  exact⟨rfl,ab.out⟩
end
section
open Go.RowKit Rs At
theorem qw (c:UInt8):(At.low c=true->decide ((c.toNat:Int)<97)=false/\decide ((122:Int)<(c.toNat:Int))=false/\decide ((97:Int)<=(c.toNat:Int))=true/\decide ((c.toNat:Int)<=122)=true):=fun h=>by
 unfold At.low at h
 rw[Bool.and_eq_true,decide_eq_true_eq,decide_eq_true_eq] at h
 exact⟨decide_eq_false (by omega),decide_eq_false (by omega),decide_eq_true (by omega),decide_eq_true (by omega)⟩
theorem pI (c:UInt8)(h:At.low c=false):(c.toNat<97)\/(¬ c.toNat<97/\122<c.toNat):=by
 unfold At.low at h
 rw[Bool.and_eq_false_iff,decide_eq_false_iff_not,decide_eq_false_iff_not] at h
 omega
theorem ee (l:List UInt8)(w:World)(hm:l.length<=maxLen) :
  Calls Tryz.prog 56 #[.string ⟨l.toArray⟩] w fun e w'=>e=.returned (.bool (nameB l))/\w=w':=by
 obtain⟨R,hR⟩:=ex (nameB l)
 rw[hR]
 cases l with
 | nil =>
  obtain rfl:R=false:=hR.symm
  go_enter Tryz.func56,Tryz.ntmps56
  go_wp2_with fail
  go_ret
  exact⟨rfl,rfl⟩
 | cons c0 t =>
  have ac:0<(c0 :: t).length:=by simp
  obtain⟨l,hl⟩:=ex (c0 :: t)
  have ah:Hid (24<l.length->R=false):=fun h=>by rw[<-hR,hl];exact At.lh h
  have HC:Hid (l.length<=24->R=(At.low c0&&l.all At.nameC)):=fun h=>by rw[<-hR,<-hl];exact At.qo (by rw[hl];exact h)
  have ak:0<l.length:=by rw[<-hl];exact ac
  obtain⟨cb,ao,ad⟩:=byte_at l 0 ak
  have h0:cb=c0:=by rw[<-ad];simp[<-hl]
  subst h0
  rw[hl] at hm ⊢
  have n0:decide ((l.length:Int)<1)=false:=decide_eq_false (by omega)
  clear hR ad ac hl
  by_cases al:24<l.length
  ·obtain rfl:R=false:=ah.out al
   have d0:decide ((24:Int)<(l.length:Int))=true:=decide_eq_true (by omega)
   go_enter Tryz.func56,Tryz.ntmps56
   go_wp2_with fail
   go_ret
   exact⟨rfl,rfl⟩
  ·have HR:=zh (HC.out (by omega))
   have d0:decide ((24:Int)<(l.length:Int))=false:=decide_eq_false (by omega)
   have am:Hid (l.length<=24):=by show _<=_;omega
   clear HC ah
   cases aa:At.low cb
   ·have ai:Hid (R=false):=by show _=_;rw[HR.out,aa];rfl
    rcases pI cb aa with h1 | ⟨h1,h2⟩
    ·have a1:decide ((cb.toNat:Int)<97)=true:=decide_eq_true (by omega)
     clear aa HR h1
     go_enter Tryz.func56,Tryz.ntmps56
     go_wp2_with fail
     go_ret
     exact⟨by rw[ai.out];rfl,rfl⟩
    ·have a1:decide ((cb.toNat:Int)<97)=false:=decide_eq_false (by omega)
     have a2:decide ((122:Int)<(cb.toNat:Int))=true:=decide_eq_true (by omega)
     clear aa HR h1 h2
     go_enter Tryz.func56,Tryz.ntmps56
     go_wp2_with fail
     go_ret
     exact⟨by rw[ai.out];rfl,rfl⟩
   ·have aj:Hid (R=l.all At.nameC):=by show _=_;rw[HR.out,aa];rfl
    obtain⟨a1,a2,_,_⟩:=qw cb aa
    clear aa HR
    go_enter Tryz.func56,Tryz.ntmps56
    go_wp2_with fail
    go_loop [3,4] (fun i _=>∃ k:Nat,k<=l.length/\i=.int .i64 k/\Hid ((l.take k).all At.nameC=true)) (fun i _=>l.length-(intOf i).toNat)
    case atStart=>exact⟨0,Nat.zero_le _,rfl,rfl⟩
    case round =>
     obtain⟨k,hk,rfl,HK⟩:=hrel
     by_cases ae:k<l.length
     ·obtain⟨c,hc,ag⟩:=byte_at l k ae
      have HS:=zh (At.dF (f:=At.nameC) ae ag)
      have HN:Hid (At.nameC c=false->R=false):=fun h=>by rw[aj.out];exact At.zG ae ag h
      have HY:Hid (At.nameC c=true->(l.take (k+1)).all At.nameC=true):=fun h=>by rw[HS.out,HK.out,h];rfl
      clear ag HS HK a1 a2
      cases h1:At.low c
      ·have H1:=zh h1
       have ht:∃ b1 b2:Bool,decide ((97:Int)<=(c.toNat:Int))=b1/\decide ((c.toNat:Int)<=122)=b2/\(b1&&b2)=false:=by
        refine⟨_,_,rfl,rfl,?_⟩
        rcases pI c h1 with h | ⟨_,h⟩
        ·rw[decide_eq_false (by omega)];rfl
        ·rw[decide_eq_false (p:=(c.toNat:Int)<=122) (by omega),Bool.and_false]
       rcases pI c h1 with h | ⟨g,h⟩
       ·have b1:decide ((97:Int)<=(c.toNat:Int))=false:=decide_eq_false (by omega)
        clear h h1 ht
        go_wp2_with fail
        refine (bL c _).mono ?_
        rintro e w' ⟨rfl,rfl⟩
        cases h2:Vm.dig c
        ·have HE:=zh (At.jY H1.out h2)
         clear h2
         by_cases h3:c.toNat=45
         ·have n1:((c.toNat:Int) != 45)=false:=by simp[h3]
          have e3:c=45:=by rw[<-UInt8.toNat_inj];exact h3
          have ab:=zh (HY.out (by rw[HE.out,e3];rfl))
          clear h3 e3
          go_wp2_with fail
          go_round
          case rel=>exact⟨k+1,by omega,by go_num,ab⟩
          case measure=>simp[intOf];omega
         ·have n1:((c.toNat:Int) != 45)=true:=by simp;omega
          have af:=zh (HN.out (by rw[HE.out];rw[beq_eq_false_iff_ne];intro e;exact h3 (by rw[e];rfl)))
          clear h3
          go_wp2_with fail
          go_ret
          exact⟨by rw[af.out];rfl,rfl⟩
        ·have ab:=zh (HY.out (At.lj h2))
         clear h2
         go_wp2_with fail
         go_round
         case rel=>exact⟨k+1,by omega,by go_num,ab⟩
         case measure=>simp[intOf];omega
       ·have b1:decide ((97:Int)<=(c.toNat:Int))=true:=decide_eq_true (by omega)
        have b2:decide ((c.toNat:Int)<=122)=false:=decide_eq_false (by omega)
        clear g h h1 ht
        go_wp2_with fail
        refine (bL c _).mono ?_
        rintro e w' ⟨rfl,rfl⟩
        cases h2:Vm.dig c
        ·have HE:=zh (At.jY H1.out h2)
         clear h2
         by_cases h3:c.toNat=45
         ·have n1:((c.toNat:Int) != 45)=false:=by simp[h3]
          have e3:c=45:=by rw[<-UInt8.toNat_inj];exact h3
          have ab:=zh (HY.out (by rw[HE.out,e3];rfl))
          clear h3 e3
          go_wp2_with fail
          go_round
          case rel=>exact⟨k+1,by omega,by go_num,ab⟩
          case measure=>simp[intOf];omega
         ·have n1:((c.toNat:Int) != 45)=true:=by simp;omega
          have af:=zh (HN.out (by rw[HE.out];rw[beq_eq_false_iff_ne];intro e;exact h3 (by rw[e];rfl)))
          clear h3
          go_wp2_with fail
          go_ret
          exact⟨by rw[af.out];rfl,rfl⟩
        ·have ab:=zh (HY.out (At.lj h2))
         clear h2
         go_wp2_with fail
         go_round
         case rel=>exact⟨k+1,by omega,by go_num,ab⟩
         case measure=>simp[intOf];omega
      ·obtain⟨_,_,b1,b2⟩:=qw c h1
       have ab:=zh (HY.out (At.qp h1))
       clear h1
       go_wp2_with fail
       go_round
       case rel=>exact⟨k+1,by omega,by go_num,ab⟩
       case measure=>simp[intOf];omega
     ·obtain rfl:k=l.length:=by omega
      have an:Hid (R=true):=by show _=_;rw[aj.out];have h:=HK.out;rwa [List.take_length] at h
      go_wp2_with fail
      go_ret
      exact⟨by rw[an.out];rfl,rfl⟩
end
section
open Go.RowKit Rs At
theorem vk (s:Sp):(conds s).length=(if s.lo=[] then 0 else 1)+(if s.hi≠[]/\s.lo≠s.hi then 1 else 0):=by
 unfold conds
 by_cases h1:s.lo=s.hi
 ·by_cases h2:s.lo=[]
  ·have h3:s.hi=[]:=by rw[<-h1];exact h2
   simp[h2,h3]
  ·simp[h1,h1 ▸ h2]
 ·by_cases h2:s.lo=[]
  ·by_cases h3:s.hi=[]
   ·exact absurd (h2.trans h3.symm) h1
   ·have h4:¬ []=s.hi:=fun e=>h3 e.symm
    simp[h2,h3,h4]
  ·by_cases h3:s.hi=[] <;> simp[h1,h2,h3]
theorem oz (A:Option Addr)(n c:Nat)(l:List Sp)(w:World)(hn:l.length=n)(hr:SRow w A l)(hl:n<=1000) :
  Calls Tryz.prog 191 #[.slice A n c] w fun e w'=>e=.returned (.int .i64 (vers (termOf l)))/\Below w.heap.size w w':=by
 have HR:=zh hr
 have HN:=zh hn
 clear hr hn
 go_enter Tryz.func191,Tryz.ntmps191
 go_wp2_with fail
 go_loopw [3,4] (fun m i wr=>∃ k:Nat,k<=n/\i=.int .i64 k/\m=.int .i64 (vers (termOf (l.take k)))/\Hid (Below w.heap.size w wr)) (fun _ i _=>n-(intOf i).toNat)
 case atStart=>exact⟨0,Nat.zero_le _,rfl,rfl,Below.refl _ _⟩
 case round =>
  obtain⟨k,hk,rfl,rfl,HB⟩:=hrel
  by_cases ae:k<n
  ·have af:k<l.length:=by rw[HN.out];exact ae
   obtain⟨ad,lo,hi,li,hh,rfl,hs,_,c0,c1,c2,c3⟩:=bW (ak HR.out HB.out) k af
   have aa:vers (termOf (l.take (k+1)))=vers (termOf (l.take k))+(conds l[k]).length:=by
    unfold termOf vers
    rw[List.take_succ_eq_append_getElem af,List.map_append,List.map_append,List.sum_append];simp
   have ag:vers (termOf (l.take k))<=2000:=by
    have h:=j5 2 (termOf (l.take k)) (fun x hx=>by obtain⟨s,_,rfl⟩:=List.mem_map.1 hx;exact iH s)
    have h2:(termOf (l.take k)).length<=k:=by unfold termOf;rw[List.length_map,List.length_take];omega
    omega
   rw[hs,vk] at aa
   dsimp only at aa
   obtain⟨v,hv⟩:=ex (vers (termOf (l.take k)))
   rw[hv] at aa ag ⊢
   have ab:=zh ae
   clear hs hv
   cases e1:lo.isEmpty <;> cases e2:hi.isEmpty <;> cases e3:lo==hi
   case false.false.false =>
    have ac:Hid (vers (termOf (l.take (k+1)))=v+2):=by
     show _=_
     rw[aa]
     simp at e1 e2 e3
     simp[e1,e2,e3]
    have e4:(hi==lo)=false:=by rw[BEq.comm];exact e3
    clear aa
    go_wp2_with fail
    go_quiet (fail)
    go_wp2_with fail
    go_roundw
    case rel=>exact⟨k+1,(by have:=ab.out;omega),by go_num,by rw[ac.out];go_num,below_drewN HB.out _⟩
    case measure=>have:=ab.out;simp[intOf];omega
   case false.false.true =>
    have ac:Hid (vers (termOf (l.take (k+1)))=v+1):=by
     show _=_
     rw[aa]
     simp at e1 e2 e3
     simp[e2,e3]
    have e4:(hi==lo)=true:=by rw[BEq.comm];exact e3
    clear aa
    go_wp2_with fail
    go_quiet (fail)
    go_wp2_with fail
    go_roundw
    case rel=>exact⟨k+1,(by have:=ab.out;omega),by go_num,by rw[ac.out];go_num,below_drewN HB.out _⟩
    case measure=>have:=ab.out;simp[intOf];omega
   case false.true.false =>
    have ac:Hid (vers (termOf (l.take (k+1)))=v+1):=by
     show _=_
     rw[aa]
     simp at e1 e2 e3
     simp[e1,e2]
    have e4:(hi==lo)=false:=by rw[BEq.comm];exact e3
    clear aa
    go_wp2_with fail
    go_quiet (fail)
    go_wp2_with fail
    go_roundw
    case rel=>exact⟨k+1,(by have:=ab.out;omega),by go_num,by rw[ac.out];go_num,below_drewN HB.out _⟩
    case measure=>have:=ab.out;simp[intOf];omega
   case false.true.true =>
    exfalso
    simp at e1 e2 e3
    simp_all
   case true.false.false =>
    have ac:Hid (vers (termOf (l.take (k+1)))=v+1):=by
     show _=_
     rw[aa]
     simp at e1 e2 e3
     simp[e1,e2]
    have e4:(hi==lo)=false:=by rw[BEq.comm];exact e3
    clear aa
    go_wp2_with fail
    go_quiet (fail)
    go_wp2_with fail
    go_roundw
    case rel=>exact⟨k+1,(by have:=ab.out;omega),by go_num,by rw[ac.out];go_num,below_drewN HB.out _⟩
    case measure=>have:=ab.out;simp[intOf];omega
   case true.false.true =>
    exfalso
    simp at e1 e2 e3
    simp_all
   case true.true.false =>
    exfalso
    simp at e1 e2 e3
    simp_all
   case true.true.true =>
    have ac:Hid (vers (termOf (l.take (k+1)))=v+0):=by
     show _=_
     rw[aa]
     simp at e1 e2 e3
     simp[e1,e2]
    have e4:(hi==lo)=true:=by rw[BEq.comm];exact e3
    clear aa
    go_wp2_with fail
    go_quiet (fail)
    go_wp2_with fail
    go_roundw
    case rel=>exact⟨k+1,(by have:=ab.out;omega),by go_num,by rw[ac.out];go_num,below_drewN HB.out _⟩
    case measure=>have:=ab.out;simp[intOf];omega
  ·obtain rfl:k=n:=by omega
   have HV:Hid (l.take k=l):=List.take_of_length_le (by rw[HN.out];exact Nat.le_refl _)
   rw[HV.out]
   go_wp2_with fail
   go_ret
   exact⟨rfl,HB.out⟩
end
section
open Go.RowKit Rs At
theorem yf (l:List Sp):vers (termOf l)<=l.length*2:=by
 have h:=j5 2 (termOf l) (fun x hx=>by obtain⟨s,_,rfl⟩:=List.mem_map.1 hx;exact iH s)
 have h2:(termOf l).length=l.length:=by unfold termOf;rw[List.length_map]
 rw[h2] at h;exact h
theorem nc (name:List UInt8)(A:Option Addr)(n c:Nat)(l:List Sp)(w:World)(hw:MaxOk w)(hm:name.length<=maxLen)(hn:l.length=n)(hr:SRow w A l)(hl:n<=1000) :
  Calls Tryz.prog 157 #[.agg #[.string ⟨name.toArray⟩,.slice A n c]] w fun e w'=>e=.returned (.int .i64 (checkA ⟨name,l⟩))/\Below w.heap.size w w':=by
 obtain⟨K,hK⟩:=ex (checkA ⟨name,l⟩)
 rw[hK]
 have ai:Hid (nameB name=false->K=3):=fun h=>by rw[<-hK];unfold checkA;rw[if_neg (by rw[h];decide)]
 have ab:Hid (nameB name=true->checkR l≠0->K=checkR l):=fun h h2=>by rw[<-hK];unfold checkA;rw[if_pos h,if_neg h2]
 have aa:Hid (nameB name=true->checkR l=0->K=if 16<vers (termOf l) then 4 else 0):=fun h h2=>by rw[<-hK];unfold checkA;rw[if_pos h,if_pos h2]
 obtain⟨b,hb⟩:=ex w.heap.size
 obtain⟨W1,af⟩:=ex (w.alloc (.cells #[.string ⟨name.toArray⟩,.slice A n c] 132))
 have ap:Hid (Bx2 b name A n c W1):=by rw[<-af,<-hb];exact eB w name A n c _
 have ac:Hid (Below w.heap.size w W1):=by rw[<-af];exact (Below.refl _ _).alloc (Nat.le_refl _) _
 have aq:Hid (SRow W1 A l):=ak hr ac.out
 have aD:Hid (MaxOk W1):=ah hw ac.out
 have aw:b<W1.heap.size:=by rw[<-af,<-hb];simp
 have ax:=zh aw
 have ay:=zh hm
 have HN:=zh hn
 clear hw hr hK hm hn
 obtain⟨k0,k1⟩:=ap.out
 obtain⟨nb,an⟩:=ex (nameB name)
 obtain⟨cr,ao⟩:=ex (checkR l)
 obtain⟨v,hv⟩:=ex (vers (termOf l))
 have az:Hid (v<=2000):=by have h:=yf l;rw[hv,HN.out] at h;show _<=_;omega
 rw[an] at ai ab aa
 rw[ao] at ab aa
 rw[hv] at aa
 have aA:=zh an
 have aB:=zh ao
 have HV:=zh hv
 clear an ao hv
 go_enter Tryz.func157,Tryz.ntmps157
 go_wp2_with fail
 clear hb af
 refine (ee name _ ay.out).mono ?_
 rintro _ z1 ⟨rfl,rfl⟩
 rw[aA.out]
 cases nb
 ·have HK:=zh (ai.out rfl)
  go_wp2_with fail
  go_ret
  exact⟨by rw[HK.out];rfl,ac.out⟩
 ·have aj:=zh (ab.out rfl)
  have al:=zh (aa.out rfl)
  clear ab aa ai
  go_wp2_with fail
  refine (pG A n c l _ HN.out aq.out hl).mono ?_
  rintro _ z3 ⟨rfl,ag⟩
  rw[aB.out]
  have ar:Hid (Below w.heap.size w z3):=bt ac.out ag
  have aC:Hid (SRow z3 A l):=ak aq.out ag
  obtain⟨q0,q1⟩:=aS ap.out ax.out ag
  clear ag k0 k1
  by_cases ad:cr=0
  ·subst ad
   have HK:=zh (al.out rfl)
   go_wp2_with fail
   refine (oz A n c l _ HN.out aC.out hl).mono ?_
   rintro _ z4 ⟨rfl,av⟩
   rw[HV.out]
   have au:Hid (Below w.heap.size w z4):=bt ar.out av
   clear av
   have aE:=az.out
   by_cases ae:16<v
   ·have d0:decide ((16:Int)<(v:Int))=true:=decide_eq_true (by omega)
    have am:Hid (K=4):=by show _=_;rw[HK.out,if_pos ae]
    clear ae
    go_wp2_with fail
    go_ret
    exact⟨by rw[am.out];rfl,au.out⟩
   ·have d0:decide ((16:Int)<(v:Int))=false:=decide_eq_false (by omega)
    have am:Hid (K=0):=by show _=_;rw[HK.out,if_neg ae]
    clear ae
    go_wp2_with fail
    go_ret
    exact⟨by rw[am.out];rfl,au.out⟩
  ·have HK:=zh (aj.out ad)
   have aF:(cr != 0)=true:=bne_iff_ne.2 ad
   clear ad
   go_wp2_with fail
   go_ret
   exact⟨by rw[HK.out];rfl,ar.out⟩
end
section
open Go.RowKit Rs At
theorem refPlace (s:List UInt8)(c:UInt8)(w:World)(hm:s.length<=4000):∃ k:Int,decide (k<0) = !Vm.has c s /\
  Calls Tryz.prog 112 #[.string ⟨s.toArray⟩,.int .u8 c.toNat] w fun e w'=>e=.returned (.int .i64 k)/\w=w':=by
 cases h:Vm.has c s
 ·exact⟨-1,by decide,fg s c w hm h⟩
 ·exact⟨((Vm.fst c s).length:Int),decide_eq_false (by omega),cH s c w hm h⟩
theorem zY (s:List UInt8):wordB s=(!s.isEmpty&&(!Vm.has 32 s&&(!Vm.has 40 s&&!Vm.has 41 s))):=by
 rw[sX]
 congr 1
 unfold Vm.has
 induction s with
 | nil=>rfl
 | cons b l ih =>
  rw[List.any_cons,Bool.not_or,ih]
  have e:∀ x:UInt8,(x==b)=(b==x):=fun x=>BEq.comm
  have e0:sp3.contains b=(b==32||(b==40||(b==41||false))):=rfl
  rw[e0,List.contains_cons,List.contains_cons,List.contains_cons,e 32,e 40,e 41]
  generalize (b==32)=p1
  generalize (b==40)=p2
  generalize (b==41)=p3
  generalize l.contains 32=q1
  generalize l.contains 40=q2
  generalize l.contains 41=q3
  cases p1 <;> cases p2 <;> cases p3 <;> cases q1 <;> cases q2 <;> cases q3 <;> rfl
theorem eV (s:List UInt8)(w:World)(hs:s.length<=4000) :
  Calls Tryz.prog 151 #[.string ⟨s.toArray⟩] w fun e w'=>e=.returned (.bool (wordB s))/\w=w':=by
 obtain⟨R,hR⟩:=ex (wordB s)
 rw[hR]
 rw[zY] at hR
 obtain⟨i1,d1,p1⟩:=refPlace s 32 w hs
 obtain⟨i2,d2,p2⟩:=refPlace s 40 w hs
 obtain⟨i3,d3,p3⟩:=refPlace s 41 w hs
 rw[<-d1,<-d2,<-d3] at hR
 have P1:=zh p1
 have P2:=zh p2
 have P3:=zh p3
 clear p1 p2 p3 d1 d2 d3
 cases he:s.isEmpty
 ·rw[he] at hR
  cases g1:decide (i1<0)
  ·have aa:Hid (false=R):=by rw[g1] at hR;exact hR
   clear hR
   go_enter Tryz.func151,Tryz.ntmps151
   go_wp2_with fail
   refine P1.out.mono ?_
   rintro _ z ⟨rfl,rfl⟩
   go_wp2_with fail
   go_ret
   exact⟨by rw[<-aa.out];rfl,rfl⟩
  ·cases g2:decide (i2<0)
   ·have aa:Hid (false=R):=by rw[g1,g2] at hR;exact hR
    clear hR
    go_enter Tryz.func151,Tryz.ntmps151
    go_wp2_with fail
    refine P1.out.mono ?_
    rintro _ z ⟨rfl,rfl⟩
    go_wp2_with fail
    refine P2.out.mono ?_
    rintro _ z ⟨rfl,rfl⟩
    go_wp2_with fail
    go_ret
    exact⟨by rw[<-aa.out];rfl,rfl⟩
   ·have aa:Hid (decide (i3<0)=R):=by rw[g1,g2] at hR;exact hR
    clear hR
    go_enter Tryz.func151,Tryz.ntmps151
    go_wp2_with fail
    refine P1.out.mono ?_
    rintro _ z ⟨rfl,rfl⟩
    go_wp2_with fail
    refine P2.out.mono ?_
    rintro _ z ⟨rfl,rfl⟩
    go_wp2_with fail
    refine P3.out.mono ?_
    rintro _ z ⟨rfl,rfl⟩
    go_wp2_with fail
    go_ret
    exact⟨by rw[<-aa.out];rfl,rfl⟩
 ·rw[he] at hR
  have aa:Hid (false=R):=hR
  clear hR
  go_enter Tryz.func151,Tryz.ntmps151
  go_wp2_with fail
  go_ret
  exact⟨by rw[<-aa.out];rfl,rfl⟩
end
section
open Go.RowKit Rs At
attribute [local go_sem ↓] Go.wp_at_zero Go.wp_at_succ
theorem acj {w0 u:World}{L:List Ent}(h:St w0 u L):Calls Tryz.prog 152 #[] u (RowRet w0 L (allR.map spOf)):=(ox u).mono fun _ _ hr=>gy h hr
end
section
open Go.RowKit Rs At
theorem nd (s m:List UInt8)(f j:Nat):Lib.occAt (s.drop f) m j=Lib.occAt s m (f+j):=by unfold Lib.occAt;rw[List.drop_drop]
def CutSt (s m:List UInt8) (acc:List (List UInt8)) (f i:Nat):Prop:=f<=i/\i<=s.length/\Lib.split s m=acc++Lib.split (s.drop f) m/\∀ j,f<=j->j<i->Lib.occAt s m j=false
theorem zZ (s m:List UInt8):CutSt s m [] 0 0:=⟨Nat.le_refl _,Nat.zero_le _,rfl,fun _j _ h=>absurd h (Nat.not_lt_zero _)⟩
theorem adR {s m:List UInt8}{acc:List (List UInt8)}{f i:Nat}(hm:m≠[])(h:CutSt s m acc f i)(ho:Lib.occAt s m i=true)(hr:i+m.length<=s.length):CutSt s m (acc++[(s.drop f).take (i-f)]) (i+m.length) (i+m.length):=by
 obtain⟨h1,h2,h3,h4⟩:=h
 have hx:Lib.index (s.drop f) m=((i-f:Nat):Int):=Lib.index_first (by rw[List.length_drop];omega) (by rw[nd,show f+(i-f)=i by omega];exact ho) (fun j hj=>by rw[nd];exact h4 _ (by omega) (by omega))
 refine⟨Nat.le_refl _,hr,?_,fun j a b=>by omega⟩
 rw[h3,lg hm hx,List.drop_drop,show f+(i-f+m.length)=i+m.length by omega]
 simp
theorem ack {s m:List UInt8}{acc:List (List UInt8)}{f i:Nat}(h:CutSt s m acc f i)(hi:i<s.length)(ho:Lib.occAt s m i=false):CutSt s m acc f (i+1) :=
 ⟨Nat.le_succ_of_le h.1,hi,h.2.2.1,fun j a b=>by
  rcases Nat.lt_or_ge j i with hj | hj
  ·exact h.2.2.2 j a hj
  ·have:j=i:=by omega
   rw[this];exact ho⟩
theorem adS {s m:List UInt8}{acc:List (List UInt8)}{f i:Nat}(hm:m≠[])(h:CutSt s m acc f i)(he:s.length<i+m.length):Lib.split s m=acc++[s.drop f]:=by
 obtain⟨h1,h2,h3,h4⟩:=h
 have hx:Lib.index (s.drop f) m = -1:=Lib.index_none fun j hj=>by
  rw[nd]
  by_cases aa:f+j<i
  ·exact h4 _ (by omega) aa
  ·cases ho:Lib.occAt s m (f+j) with
   | false=>rfl
   | true =>
    rcases Lib.occAt_room ho with h | h
    ·omega
    ·exact absurd h hm
 rw[h3,om hx]
theorem hJ (s:List UInt8)(w:World) :
  Calls Tryz.prog 153 #[.string ⟨s.toArray⟩] w fun e w'=>e=.returned (.bool (signB s))/\w=w':=by
 cases h:sgnOf s with
 | some i =>
  have hb:Hid (signB s=true):=by show _=_;unfold signB;rw[h];rfl
  obtain⟨hi,rfl⟩:=gg h
  rw[hb.out]
  clear h hb
  match i,hi with
  | 0,_ | 1,_ | 2,_ | 3,_ | 4,_ | 5,_ =>
   go_enter Tryz.func153,Tryz.ntmps153
   go_wp2_with fail
   go_ret
   exact⟨rfl,rfl⟩
 | none =>
  have hb:Hid (signB s=false):=by show _=_;unfold signB;rw[h];rfl
  have hn:=jX h
  have n0:(s==[61])=false:=beq_eq_false_iff_ne.2 (hn 0 (by decide))
  have n1:(s==[33,61])=false:=beq_eq_false_iff_ne.2 (hn 1 (by decide))
  have n2:(s==[60])=false:=beq_eq_false_iff_ne.2 (hn 2 (by decide))
  have n3:(s==[60,61])=false:=beq_eq_false_iff_ne.2 (hn 3 (by decide))
  have n4:(s==[62])=false:=beq_eq_false_iff_ne.2 (hn 4 (by decide))
  have n5:(s==[62,61])=false:=beq_eq_false_iff_ne.2 (hn 5 (by decide))
  rw[hb.out]
  clear h hb hn
  go_enter Tryz.func153,Tryz.ntmps153
  go_wp2_with fail
  go_ret
  exact⟨rfl,rfl⟩
theorem j8 (s:List UInt8)(f i:Nat):(⟨s.toArray⟩:ByteArray).extract f i=⟨((s.drop f).take (i-f)).toArray⟩:=ByteArray.extract_mk ..
theorem dP (s m:List UInt8)(w:World)(hs:s.length<=4000)(hm:1<=m.length)(hm2:m.length<=10) :
  Calls Tryz.prog 58 #[.string ⟨s.toArray⟩,.string ⟨m.toArray⟩] w fun e w'=>∃ A n c,e=.returned (.slice A n c)/\(Lib.split s m).length=n/\n<=4001/\Rg.Row encT 1 w' A (Lib.split s m)/\(∀ a,A=some a->w.heap.size<=a.block)/\Below w.heap.size w w':=by
 have ap:m≠[]:=fun e=>by rw[e] at hm;simp at hm
 have ar:Hid ((Lib.split s m).length<=4001):=Nat.le_trans (lz s m hm) (by omega)
 have aq:=zh ap
 clear ap
 go_enter Tryz.func58,Tryz.ntmps58
 go_wp2_with fail
 go_loopw [5,6,7] (fun v f i wr=>∃ (a b:Nat) (acc:List (List UInt8)),f=.int .i64 a/\i=.int .i64 b/\a<=b/\b<=s.length/\Hid (acc.length<=a)/\Hid (CutSt s m acc a b)/\Hid (Rg.Own encT 1 wr w.heap.size 9 v acc)/\Hid (Below w.heap.size w wr/\w.heap.size<=wr.heap.size)) (fun _ _ i _=>s.length-(intOf i).toNat)
 case atStart=>exact⟨0,0,[],rfl,rfl,Nat.le_refl _,Nat.zero_le _,Nat.zero_le _,zZ s m,Rg.az _ _ _,Below.refl _ _,Nat.le_refl _⟩
 case round =>
  obtain⟨a,b,acc,rfl,rfl,ay,aA,af,an,HO,HB⟩:=hrel
  by_cases ag:b+m.length<=s.length
  ·have hx:=j8 s b (b+m.length)
   rw[Nat.add_sub_cancel_left] at hx
   have aa:=Lib.occAt_iff_take s m b ag
   obtain⟨q,hq⟩:=ex ((s.drop b).take m.length)
   rw[hq] at hx aa
   have ah:(b:Int)+(m.length:Int)<=(s.length:Int):=by omega
   cases ho:q==m
   ·have ae:Hid (CutSt s m acc a (b+1)):=ack an.out (by omega) (aa.trans ho)
    clear hq aa
    go_wp2_with fail
    go_roundw
    case rel=>exact⟨a,b+1,acc,rfl,by go_num,by omega,by omega,af,ae,HO,HB⟩
    case measure=>simp[intOf];omega
   ·have ae:=zh (adR aq.out an.out (aa.trans ho) ag)
    have hy:=j8 s a b
    obtain⟨r,hr⟩:=ex ((s.drop a).take (b-a))
    rw[hr] at hy ae
    have ai:Hid ((acc++[r]).length<=b+m.length):=by have:=af.out;show _<=_;rw[List.length_append];simp;omega
    have aj:Hid (acc.length+1<=1000000):=by have:=af.out;show _<=_;omega
    clear hq aa hr
    go_wp2_with (at_builtin;refine Rg.aC sliceTx rfl (.tmp 24) (.tmp 29) rfl w.heap.size _ acc [r] rfl (Rg.own_below HO.out ((Below.refl _ _).alloc (Nat.le_refl _) _)) _ _ rfl (Rg.av wr _ _ _ (by rfl)) (Nat.zero_lt_succ _) aj.out ?b2 ?_)
    case b2=>have:=HB.out.2;simp;omega
    intro v5 W5 ab ac ao
    have ak:=c6 HB (Below.refl _ _) HO ac
    have au:=zh ab
    clear ab ac ao HO HB hx hy
    go_wp2_with fail
    go_roundw
    case rel=>exact⟨b+m.length,b+m.length,acc++[r],by go_num,by go_num,Nat.le_refl _,ag,ai,ae,au,ak⟩
    case measure=>simp[intOf];omega
  ·have al:=adS aq.out an.out (by omega)
   have ah:¬ (b:Int)+(m.length:Int)<=(s.length:Int):=by omega
   have hy:=j8 s a s.length
   obtain⟨r,hr⟩:=ex (s.drop a)
   rw[hr,List.take_of_length_le (by rw[<-hr,List.length_drop];exact Nat.le_refl _)] at hy
   rw[hr] at al
   have aw:Hid (acc++[r]=Lib.split s m):=al.symm
   have aj:Hid (acc.length+1<=1000000):=by have:=af.out;show _<=_;omega
   clear hr al
   go_wp2_with (at_builtin;refine Rg.aC sliceTx rfl (.tmp 38) (.tmp 42) rfl w.heap.size _ acc [r] rfl (Rg.own_below HO.out ((Below.refl _ _).alloc (Nat.le_refl _) _)) _ _ rfl (Rg.av wr _ _ _ (by rfl)) (Nat.zero_lt_succ _) aj.out ?b2 ?_)
   case b2=>have:=HB.out.2;simp;omega
   intro v5 W5 ab ac ao
   have ak:=c6 HB (Below.refl _ _) HO ac
   rw[aw.out] at ab
   obtain⟨C,d,rfl,ad,_,_⟩:=Rg.aE fitsT ab
   have am:=zh ad
   have ax:=zh ab
   clear ab ac ao HO HB hy ad
   go_wp2_with fail
   go_ret
   exact⟨C,_,d,rfl,rfl,ar.out,am.out,fun a ha=>by subst ha;exact (Rg.bz ax.out a.block rfl).1,ak.out.1⟩
end
section
open Go.RowKit Rs At
def Ways (ps:List (List (List UInt8))) (T:List (List Cond)):Prop:=ps.length=T.length/\∀ (i:Nat) (p:List (List UInt8)) (l:List Cond),ps[i]?=some p->T[i]?=some l->p.mapM condP=some l
theorem ways_nil:Ways [] []:=⟨rfl,fun i p l h=>by simp at h⟩
theorem z8 {ps:List (List (List UInt8))}{T:List (List Cond)}{p:List (List UInt8)}{l:List Cond}(h:Ways ps T)(hp:p.mapM condP=some l):Ways (ps++[p]) (T++[l]):=by
 refine⟨by rw[List.length_append,List.length_append,h.1];rfl,fun i q m h1 h2=>?_⟩
 rcases aG h1 with⟨a1,b1⟩ | ⟨a1,b1⟩
 ·rcases aG h2 with⟨_,b2⟩ | ⟨a2,_⟩
  ·exact h.2 i q m b1 b2
  ·have:=h.1;omega
 ·rcases aG h2 with⟨a2,_⟩ | ⟨_,b2⟩
  ·have:=h.1;omega
  ·rw[b1,b2];exact hp
theorem mG (s:List UInt8):(condP s=none/\Vm.has 32 s=false)\/(condP s=none/\Vm.has 32 s=true/\signB (Vm.fst 32 s)=false)\/(condP s=none/\Vm.has 32 s=true/\signB (Vm.fst 32 s)=true/\wordB (Vm.snd 32 s)=false) \/
  (condP s=some (Vm.fst 32 s,Vm.snd 32 s)/\Vm.has 32 s=true/\signB (Vm.fst 32 s)=true/\wordB (Vm.snd 32 s)=true):=by
 unfold condP
 cases h1:Vm.has 32 s <;> cases h2:signB (Vm.fst 32 s) <;> cases h3:wordB (Vm.snd 32 s) <;> simp
theorem yg {s:List UInt8}{c:Cond}(h:condP s=some c):Vm.has 32 s=true/\c=(Vm.fst 32 s,Vm.snd 32 s):=by
 rcases mG s with⟨e,_⟩ | ⟨e,_⟩ | ⟨e,_⟩ | ⟨e,h2,_⟩
 ·rw[e] at h;cases h
 ·rw[e] at h;cases h
 ·rw[e] at h;cases h
 ·rw[e] at h;cases h;exact⟨h2,rfl⟩
theorem td {α β:Type}{f:α->Option β}:∀ {l:List α} {r:List β},l.mapM f=some r->∀ (i:Nat) (h1:i<l.length) (h2:i<r.length),f l[i]=some r[i]
 | [],_,_,i,h1,_=>by simp at h1
 | a :: l,r,h,i,h1,h2=>by
  rw[List.mapM_cons] at h
  cases hf:f a with
  | none=>rw[hf] at h;cases h
  | some b =>
   rw[hf] at h
   cases hl:l.mapM f with
   | none=>rw[hl] at h;cases h
   | some r' =>
    rw[hl] at h
    cases h
    cases i with
    | zero=>exact hf
    | succ i=>exact td hl i (by simpa using h1) (by simpa using h2)
instance pDecA:DecidableEq (Rm.P Cut):=fun a b=>decidable_of_iff (a.lo=b.lo/\a.hi=b.hi) ⟨fun h=>by cases a;cases b;simp_all,fun h=>by rw[h];exact⟨rfl,rfl⟩⟩
theorem z9 (s:List UInt8):readA s [[]]=if nameB s then (0,⟨s,allS⟩) else (3,zeroA):=by
 unfold readA
 cases h:nameB s
 ·rfl
 ·have e1:(hTerm [] [[]])=(0,allR):=by decide +kernel
  have e2:checkA ⟨s,allS⟩=0:=by
   unfold checkA
   rw[if_pos h,if_pos (show checkR allS=0 by decide +kernel),if_neg (show ¬ 16<vers (At.termOf allS) by decide +kernel)]
  have e3:allR.map spOf=allS:=rfl
  rw[if_pos rfl,if_pos rfl,if_pos (by decide),e1,if_pos rfl,e3,if_pos e2]
theorem aaa {s:List UInt8}(h:Vm.has 32 s=false):parseA s=if wordB s then (if nameB s then (0,⟨s,allS⟩) else (3,zeroA)) else (2,zeroA):=by
 have hf:=(At.mY (c:=32) (p:=s) (fun hm=>by unfold Vm.has at h;rw[List.contains_iff_mem.2 hm] at h;cases h)).1
 unfold parseA
 rw[hf,h,z9]
 cases wordB s <;> rfl
theorem yh {s:List UInt8}(h:Vm.has 32 s=true):parseA s=if wordB (Vm.fst 32 s) then (match (bodyP (Vm.snd 32 s)).bind termP with | none=>(2,zeroA) | some t=>readA (Vm.fst 32 s) t) else (2,zeroA):=by
 unfold parseA
 rw[h]
 cases wordB (Vm.fst 32 s) <;> rfl
theorem yi {t:List UInt8}(h:t.length<3):(bodyP t).bind termP=none:=by
 match t,h with
 | [],_=>rfl
 | [a],_=>unfold bodyP;rw[if_neg (by simp)];rfl
 | [a,b],_ =>
  unfold bodyP
  split
  ·show termP []=none;decide +kernel
  ·rfl
theorem aab {t:List UInt8}(h:3<=t.length){c:UInt8}(hc:t[0]'(by omega)=c)(hn:c≠40):bodyP t=none:=by
 unfold bodyP
 refine if_neg fun hh=>hn ?_
 have:=hh.2.1
 rw[List.getD_eq_getElem?_getD,List.getElem?_eq_getElem (by omega)] at this
 rw[<-hc];exact this
theorem yj {t:List UInt8}(h:3<=t.length){c:UInt8}(hc:t[t.length-1]'(by omega)=c)(hn:c≠41):bodyP t=none:=by
 unfold bodyP
 refine if_neg fun hh=>hn ?_
 have:=hh.2.2
 rw[List.getD_eq_getElem?_getD,List.getElem?_eq_getElem (by omega)] at this
 rw[<-hc];exact this
theorem acm {t:List UInt8}(h:3<=t.length)(h0:t[0]'(by omega)=40)(h1:t[t.length-1]'(by omega)=41):bodyP t=some ((t.drop 1).take (t.length-2)):=by
 unfold bodyP
 refine if_pos ⟨by omega,?_,?_⟩
 ·rw[List.getD_eq_getElem?_getD,List.getElem?_eq_getElem (by omega)];exact h0
 ·rw[List.getD_eq_getElem?_getD,List.getElem?_eq_getElem (by omega)];exact h1
end
section
open Go.RowKit Rs At
attribute [local go_sem ↓] Go.wp_at_zero Go.wp_at_succ
theorem sliceSS:Rg.SliceT Tryz.prog encO 1 225 71:=⟨fitsO,by decide,by kernel_rfl,Rg.bQ (z:=.slice none 0 0) (b:=24) (by kernel_rfl) (by rfl) (by decide)⟩
def RC (b:Nat) (u:World):Prop:=u.cell? ⟨b,0,none⟩=some (.string ⟨#[]⟩)/\u.cell? ⟨b,1,none⟩=some (.slice none 0 0)/\u.frozen? ⟨b,0,none⟩=false/\u.frozen? ⟨b,1,none⟩=false
theorem afk {w W1 u:World}(h1:w.alloc (.cells #[.string ⟨#[]⟩,.slice none 0 0] 132)=W1)(hb:Below W1.heap.size W1 u):∀ j,2<=j->u.cell? ⟨w.heap.size,j,none⟩=none:=fun j hj=>by
 have e1:u.heap[w.heap.size]?=some (.cells #[.string ⟨#[]⟩,.slice none 0 0] 132 (0,0)):=(hb.block _ (by rw[<-h1];simp)).trans (by rw[<-h1];exact heap_alloc_new w _)
 simp[World.cell?,e1];omega
abbrev stA (u:World) (b:Nat) (name:List UInt8) (C:Option Addr) (m d:Nat):World:=(u.setCell ⟨b,0,none⟩ (.string ⟨name.toArray⟩)).setCell ⟨b,1,none⟩ (.slice C m d)
theorem adT {u:World}{b:Nat}{name:List UInt8}{C:Option Addr}{m d:Nat}(h:RC b u):(stA u b name C m d).cell? ⟨b,0,none⟩=some (.string ⟨name.toArray⟩)/\(stA u b name C m d).cell? ⟨b,1,none⟩=some (.slice C m d):=by
 obtain⟨a,b,_,_⟩:=h
 constructor <;> simp[stA,go_sem,a,b]
theorem wL {w W1 u:World}(h1:w.alloc (.cells #[.string ⟨#[]⟩,.slice none 0 0] 132)=W1)(hb:Below W1.heap.size W1 u){X:Int × Atm}{name:List UInt8}{C:Option Addr}{m d:Nat}{k:Int}{l:List Sp}(hX:X=(k,⟨name,l⟩))(hm:l.length=m)(hr:SRow u C l) :
  ParseRet w X (.returned (.tuple #[.agg #[.string ⟨name.toArray⟩,.slice C m d],.int .i64 k])) (stA u w.heap.size name C m d):=by
 subst hX
 have a1:=eD hr (afk h1 hb)
 exact⟨C,m,d,rfl,hm,cO (cO hr a1) a1,(((ag h1).trans (hb.mono (ag h1).size)).setCell (Nat.le_refl _) _).setCell (Nat.le_refl _) _⟩
theorem bB {u:World}{b:Nat}{name:List UInt8}{C:Option Addr}{m d:Nat}{k:Int}{tmps:Array Value}(h:RC b u)(ht2:tmps.getD 2 undef=.pointer (some ⟨b,0,none⟩))(ht3:tmps.getD 3 undef=.int .i64 k) :
  (results Tryz.f110 tmps).run Tryz.prog (stA u b name C m d)=.ok (.tuple #[.agg #[.string ⟨name.toArray⟩,.slice C m d],.int .i64 k]) (stA u b name C m d):=by
 obtain⟨g0,g1⟩:=adT (name:=name) (C:=C) (m:=m) (d:=d) h
 rw[results_cell_tmp Tryz.results110,ht2,ht3]
 generalize stA u b name C m d=V at *
 simp[go_sem,g0,g1]
theorem bG (w:World):SRow w none []:=fun h=>absurd h (by simp)
theorem tf (s:List UInt8)(w:World)(hs:s.length<=4000)(hsp:Vm.has 32 s=false) :
  Calls Tryz.prog 110 #[.string ⟨s.toArray⟩] w (ParseRet w (parseA s)):=by
 obtain⟨X,hX⟩:=ex (parseA s)
 rw[hX]
 obtain⟨W1,af⟩:=ex (w.alloc (.cells #[.string ⟨#[]⟩,.slice none 0 0] 132))
 have aa:Hid (∀ u,Below W1.heap.size W1 u->RC w.heap.size u):=fun u hb=>cu af hb
 have ae:Hid (∀ u,Below W1.heap.size W1 u->∀ (name:List UInt8) (C:Option Addr) (m d:Nat) (k:Int) (l:List Sp),X=(k,⟨name,l⟩)->l.length=m->SRow u C l->ParseRet w X (.returned (.tuple #[.agg #[.string ⟨name.toArray⟩,.slice C m d],.int .i64 k])) (stA u w.heap.size name C m d)):=fun u hb _ _ _ _ _ _ h1 h2 h3=>wL af hb h1 h2 h3
 have ab:Hid (Below W1.heap.size W1 W1):=Below.refl _ _
 rw[aaa hsp] at hX
 have ag:=zh (fg s 32 W1 hs hsp)
 obtain⟨r0,r1,f0,f1⟩:=aa.out _ ab.out
 clear hsp
 go_enter Tryz.func110,Tryz.ntmps110
 go_wp2_with fail
 clear af
 refine ag.out.mono ?_
 rintro _ z ⟨rfl,rfl⟩
 go_wp2_with fail
 refine (eV s _ hs).mono ?_
 rintro _ z ⟨rfl,rfl⟩
 cases ac:wordB s
 ·have HX:Hid (X=(2,zeroA)):=by rw[ac] at hX;exact hX.symm
  clear hX ac
  go_wp2_with fail
  exact bodyPost_ret (bB (aa.out _ ab.out) rfl rfl) rfl (ae.out _ ab.out [] none 0 0 2 [] HX.out rfl (bG _))
 ·rw[ac] at hX
  clear ac
  go_wp2_with fail
  refine (ee s _ (by unfold maxLen;omega)).mono ?_
  rintro _ z ⟨rfl,rfl⟩
  cases ad:nameB s
  ·have HX:Hid (X=(3,zeroA)):=by rw[ad] at hX;exact hX.symm
   clear hX ad
   go_wp2_with fail
   exact bodyPost_ret (bB (aa.out _ ab.out) rfl rfl) rfl (ae.out _ ab.out [] none 0 0 3 [] HX.out rfl (bG _))
  ·have HX:Hid (X=(0,⟨s,allR.map spOf⟩)):=by rw[ad] at hX;exact hX.symm
   clear hX ad
   go_wp2_with fail
   refine (ox _).mono ?_
   rintro _ z ⟨⟨C,d,rfl,hr,_,_⟩,hb⟩
   have HB:=zh hb
   have HR:=zh hr
   clear r0 r1 f0 f1 hr hb
   obtain⟨r0,r1,f0,f1⟩:=aa.out _ HB.out
   go_wp2_with fail
   exact bodyPost_ret (bB (aa.out _ HB.out) rfl rfl) rfl (ae.out _ HB.out s C _ d 0 _ HX.out rfl HR.out)
end
end Go.Proofs.YtkaeamjnphaadaaGreatDoor
