/- Part 18 of what the laws lean on. -/
import Derived.Test.YtpfkphmldalmmaaGreatDoorL16
import Derived.Test.YtpfkphmldalmmaaGreatDoorL17
import Derived.StillTailTactics
set_option maxRecDepth 100000
set_option maxHeartbeats 3200000
namespace Go.Proofs.YtpfkphmldalmmaaGreatDoor
section
open Go.RowKit Rs At
theorem yg (w:World):Calls Tryz.prog 140 #[] w (SpansRet w (allR.map spOf)):=by
 go_enter Tryz.func140,Tryz.ntmps140
 go_wp2_with fail
 go_ret
 refine⟨⟨some ⟨w.heap.size,0,none⟩,1,rfl,fun _=>⟨_,rfl,by simp,fun i hi=>?_⟩,Nat.le_refl _,fun a ha=>by cases ha;exact Nat.le_refl _⟩,(Below.refl _ _).alloc (Nat.le_refl _) _⟩
 have aa:i<1:=hi
 obtain rfl:i=0:=by omega
 have e:∀ j,((⟨w.heap.size,0,none⟩:Addr).add (0*4)).add j=⟨w.heap.size,j,none⟩:=fun j=>by
  rw[Nat.zero_mul,Rg.add_zero];unfold Addr.add;split <;> simp_all
 refine⟨?_,?_,?_,?_⟩ <;> (rw[e,World.cell?_alloc_mark];rfl)
theorem om (na nb:List UInt8)(A B:Option Addr)(n m c d:Nat)(l k:List Sp)(w:World)(hn:l.length=n)(hm:k.length=m)(hr:SRow w A l)(hq:SRow w B k)(hl:n<=1000)(hk:m<=1000) :
  Calls Tryz.prog 76 #[.agg #[.string ⟨na.toArray⟩,.slice A n c],.agg #[.string ⟨nb.toArray⟩,.slice B m d]] w fun e w'=>e=.returned (.bool (decide ((⟨na,l⟩:Atm)=⟨nb,k⟩)))/\Below w.heap.size w w':=by
 obtain⟨R,hR⟩:=ex (decide ((⟨na,l⟩:Atm)=⟨nb,k⟩))
 rw[hR]
 have aa:Below w.heap.size w ((w.alloc (.cells #[.string ⟨na.toArray⟩,.slice A n c] 117)).alloc (.cells #[.string ⟨nb.toArray⟩,.slice B m d] 117)):=((Below.refl _ _).alloc (Nat.le_refl _) _).alloc (by simp) _
 have HB:=zh aa
 have HR:=zh (an hr aa)
 have HQ:=zh (an hq aa)
 subst hn hm
 clear aa hr hq
 cases he:na==nb
 ·have HF:Hid (R=false):=by
   show _=_;rw[<-hR];refine decide_eq_false fun e=>?_
   have:=(Atm.mk.inj e).1
   rw[this] at he;simp at he
  clear hR
  go_enter Tryz.func76,Tryz.ntmps76
  go_wp2_with fail
  go_ret
  exact⟨by rw[HF.out];rfl,HB.out⟩
 ·have HT:Hid (R=decide (l=k)):=by
   show _=_;rw[<-hR]
   have e1:na=nb:=by simpa using he
   rw[Bool.eq_iff_iff];simp[e1]
  clear hR
  go_enter Tryz.func76,Tryz.ntmps76
  go_wp2_with fail
  refine (j6 A c l B d k _ HR.out HQ.out (by omega) (by omega)).mono ?_
  rintro _ u ⟨rfl,hb⟩
  have ab:Hid (Below w.heap.size w u):=bt HB.out hb
  rw[<-HT.out]
  clear hb
  go_wp2_with fail
  go_ret
  exact⟨rfl,ab.out⟩
end
section
open Go.RowKit Rs At
theorem qy (c:UInt8):(At.low c=true->decide ((c.toNat:Int)<97)=false/\decide ((122:Int)<(c.toNat:Int))=false/\decide ((97:Int)<=(c.toNat:Int))=true/\decide ((c.toNat:Int)<=122)=true):=fun h=>by
 unfold At.low at h
 rw[Bool.and_eq_true,decide_eq_true_eq,decide_eq_true_eq] at h
 exact⟨decide_eq_false (by omega),decide_eq_false (by omega),decide_eq_true (by omega),decide_eq_true (by omega)⟩
theorem pH (c:UInt8)(h:At.low c=false):(c.toNat<97)\/(¬ c.toNat<97/\122<c.toNat):=by
 unfold At.low at h
 rw[Bool.and_eq_false_iff,decide_eq_false_iff_not,decide_eq_false_iff_not] at h
 omega
theorem iz (l:List UInt8)(w:World)(hm:l.length<=maxLen) :
  Calls Tryz.prog 27 #[.string ⟨l.toArray⟩] w fun e w'=>e=.returned (.bool (nameB l))/\w=w':=by
 obtain⟨R,hR⟩:=ex (nameB l)
 rw[hR]
 cases l with
 | nil =>
  obtain rfl:R=false:=hR.symm
  go_enter Tryz.func27,Tryz.ntmps27
  go_wp2_with fail
  go_ret
  exact⟨rfl,rfl⟩
 | cons c0 t =>
  have ac:0<(c0 :: t).length:=by simp
  obtain⟨l,hl⟩:=ex (c0 :: t)
  have ah:Hid (24<l.length->R=false):=fun h=>by rw[<-hR,hl];exact At.kQ h
  have HC:Hid (l.length<=24->R=(At.low c0&&l.all At.nameC)):=fun h=>by rw[<-hR,<-hl];exact At.qo (by rw[hl];exact h)
  have ak:0<l.length:=by rw[<-hl];exact ac
  obtain⟨cb,ao,ad⟩:=byte_at l 0 ak
  have h0:cb=c0:=by rw[<-ad];simp[<-hl]
  subst h0
  rw[hl] at hm ⊢
  have n0:decide ((l.length:Int)<1)=false:=decide_eq_false (by omega)
  clear hR ad ac hl
  by_cases al:24<l.length
  ·obtain rfl:R=false:=ah.out al
   have d0:decide ((24:Int)<(l.length:Int))=true:=decide_eq_true (by omega)
   go_enter Tryz.func27,Tryz.ntmps27
   go_wp2_with fail
   go_ret
   exact⟨rfl,rfl⟩
  ·have HR:=zh (HC.out (by omega))
   have d0:decide ((24:Int)<(l.length:Int))=false:=decide_eq_false (by omega)
   have am:Hid (l.length<=24):=by show _<=_;omega
   clear HC ah
   cases aa:At.low cb
   ·have ai:Hid (R=false):=by show _=_;rw[HR.out,aa];rfl
    rcases pH cb aa with h1 | ⟨h1,h2⟩
    ·have a1:decide ((cb.toNat:Int)<97)=true:=decide_eq_true (by omega)
     clear aa HR h1
     go_enter Tryz.func27,Tryz.ntmps27
     go_wp2_with fail
     go_ret
     exact⟨by rw[ai.out];rfl,rfl⟩
    ·have a1:decide ((cb.toNat:Int)<97)=false:=decide_eq_false (by omega)
     have a2:decide ((122:Int)<(cb.toNat:Int))=true:=decide_eq_true (by omega)
     clear aa HR h1 h2
     go_enter Tryz.func27,Tryz.ntmps27
     go_wp2_with fail
     go_ret
     exact⟨by rw[ai.out];rfl,rfl⟩
   ·have aj:Hid (R=l.all At.nameC):=by show _=_;rw[HR.out,aa];rfl
    obtain⟨a1,a2,_,_⟩:=qy cb aa
    clear aa HR
    go_enter Tryz.func27,Tryz.ntmps27
    go_wp2_with fail
    go_loop [3,4] (fun i _=>∃ k:Nat,k<=l.length/\i=.int .i64 k/\Hid ((l.take k).all At.nameC=true)) (fun i _=>l.length-(intOf i).toNat)
    case atStart=>exact⟨0,Nat.zero_le _,rfl,rfl⟩
    case round =>
     obtain⟨k,hk,rfl,HK⟩:=hrel
     by_cases ae:k<l.length
     ·obtain⟨c,hc,ag⟩:=byte_at l k ae
      have HS:=zh (At.dR (f:=At.nameC) ae ag)
      have HN:Hid (At.nameC c=false->R=false):=fun h=>by rw[aj.out];exact At.iO ae ag h
      have HY:Hid (At.nameC c=true->(l.take (k+1)).all At.nameC=true):=fun h=>by rw[HS.out,HK.out,h];rfl
      clear ag HS HK a1 a2
      cases h1:At.low c
      ·have H1:=zh h1
       have ht:∃ b1 b2:Bool,decide ((97:Int)<=(c.toNat:Int))=b1/\decide ((c.toNat:Int)<=122)=b2/\(b1&&b2)=false:=by
        refine⟨_,_,rfl,rfl,?_⟩
        rcases pH c h1 with h | ⟨_,h⟩
        ·rw[decide_eq_false (by omega)];rfl
        ·rw[decide_eq_false (p:=(c.toNat:Int)<=122) (by omega),Bool.and_false]
       rcases pH c h1 with h | ⟨g,h⟩
       ·have b1:decide ((97:Int)<=(c.toNat:Int))=false:=decide_eq_false (by omega)
        clear h h1 ht
        go_wp2_with fail
        refine (bJ c _).mono ?_
        rintro e w' ⟨rfl,rfl⟩
        cases h2:Vm.dig c
        ·have HE:=zh (At.jC H1.out h2)
         clear h2
         by_cases h3:c.toNat=45
         ·have n1:((c.toNat:Int) != 45)=false:=by simp[h3]
          have e3:c=45:=by rw[<-UInt8.toNat_inj];exact h3
          have ab:=zh (HY.out (by rw[HE.out,e3];rfl))
          clear h3 e3
          go_wp2_with fail
          go_round
          case rel=>exact⟨k+1,by omega,by go_num,ab⟩
          case measure=>simp[intOf];omega
         ·have n1:((c.toNat:Int) != 45)=true:=by simp;omega
          have af:=zh (HN.out (by rw[HE.out];rw[beq_eq_false_iff_ne];intro e;exact h3 (by rw[e];rfl)))
          clear h3
          go_wp2_with fail
          go_ret
          exact⟨by rw[af.out];rfl,rfl⟩
        ·have ab:=zh (HY.out (At.kR h2))
         clear h2
         go_wp2_with fail
         go_round
         case rel=>exact⟨k+1,by omega,by go_num,ab⟩
         case measure=>simp[intOf];omega
       ·have b1:decide ((97:Int)<=(c.toNat:Int))=true:=decide_eq_true (by omega)
        have b2:decide ((c.toNat:Int)<=122)=false:=decide_eq_false (by omega)
        clear g h h1 ht
        go_wp2_with fail
        refine (bJ c _).mono ?_
        rintro e w' ⟨rfl,rfl⟩
        cases h2:Vm.dig c
        ·have HE:=zh (At.jC H1.out h2)
         clear h2
         by_cases h3:c.toNat=45
         ·have n1:((c.toNat:Int) != 45)=false:=by simp[h3]
          have e3:c=45:=by rw[<-UInt8.toNat_inj];exact h3
          have ab:=zh (HY.out (by rw[HE.out,e3];rfl))
          clear h3 e3
          go_wp2_with fail
          go_round
          case rel=>exact⟨k+1,by omega,by go_num,ab⟩
          case measure=>simp[intOf];omega
         ·have n1:((c.toNat:Int) != 45)=true:=by simp;omega
          have af:=zh (HN.out (by rw[HE.out];rw[beq_eq_false_iff_ne];intro e;exact h3 (by rw[e];rfl)))
          clear h3
          go_wp2_with fail
          go_ret
          exact⟨by rw[af.out];rfl,rfl⟩
        ·have ab:=zh (HY.out (At.kR h2))
         clear h2
         go_wp2_with fail
         go_round
         case rel=>exact⟨k+1,by omega,by go_num,ab⟩
         case measure=>simp[intOf];omega
      ·obtain⟨_,_,b1,b2⟩:=qy c h1
       have ab:=zh (HY.out (At.qp h1))
       clear h1
       go_wp2_with fail
       go_round
       case rel=>exact⟨k+1,by omega,by go_num,ab⟩
       case measure=>simp[intOf];omega
     ·obtain rfl:k=l.length:=by omega
      have an:Hid (R=true):=by show _=_;rw[aj.out];have h:=HK.out;rwa [List.take_length] at h
      go_wp2_with fail
      go_ret
      exact⟨by rw[an.out];rfl,rfl⟩
end
section
open Go.RowKit Rs At
theorem vA (s:Sp):(conds s).length=(if s.lo=[] then 0 else 1)+(if s.hi≠[]/\s.lo≠s.hi then 1 else 0):=by
 unfold conds
 by_cases h1:s.lo=s.hi
 ·by_cases h2:s.lo=[]
  ·have h3:s.hi=[]:=by rw[<-h1];exact h2
   simp[h2,h3]
  ·simp[h1,h1 ▸ h2]
 ·by_cases h2:s.lo=[]
  ·by_cases h3:s.hi=[]
   ·exact absurd (h2.trans h3.symm) h1
   ·have h4:¬ []=s.hi:=fun e=>h3 e.symm
    simp[h2,h3,h4]
  ·by_cases h3:s.hi=[] <;> simp[h1,h2,h3]
theorem oo (A:Option Addr)(n c:Nat)(l:List Sp)(w:World)(hn:l.length=n)(hr:SRow w A l)(hl:n<=1000) :
  Calls Tryz.prog 115 #[.slice A n c] w fun e w'=>e=.returned (.int .i64 (vers (termOf l)))/\Below w.heap.size w w':=by
 have HR:=zh hr
 have HN:=zh hn
 clear hr hn
 go_enter Tryz.func115,Tryz.ntmps115
 go_wp2_with fail
 go_loopw [3,4] (fun m i wr=>∃ k:Nat,k<=n/\i=.int .i64 k/\m=.int .i64 (vers (termOf (l.take k)))/\Hid (Below w.heap.size w wr)) (fun _ i _=>n-(intOf i).toNat)
 case atStart=>exact⟨0,Nat.zero_le _,rfl,rfl,Below.refl _ _⟩
 case round =>
  obtain⟨k,hk,rfl,rfl,HB⟩:=hrel
  by_cases ae:k<n
  ·have af:k<l.length:=by rw[HN.out];exact ae
   obtain⟨ad,lo,hi,li,hh,rfl,hs,_,c0,c1,c2,c3⟩:=bB (an HR.out HB.out) k af
   have aa:vers (termOf (l.take (k+1)))=vers (termOf (l.take k))+(conds l[k]).length:=by
    unfold termOf vers
    rw[List.take_succ_eq_append_getElem af,List.map_append,List.map_append,List.sum_append];simp
   have ag:vers (termOf (l.take k))<=2000:=by
    have h:=jG 2 (termOf (l.take k)) (fun x hx=>by obtain⟨s,_,rfl⟩:=List.mem_map.1 hx;exact gX s)
    have h2:(termOf (l.take k)).length<=k:=by unfold termOf;rw[List.length_map,List.length_take];omega
    omega
   rw[hs,vA] at aa
   dsimp only at aa
   obtain⟨v,hv⟩:=ex (vers (termOf (l.take k)))
   rw[hv] at aa ag ⊢
   have ab:=zh ae
   clear hs hv
   cases e1:lo.isEmpty <;> cases e2:hi.isEmpty <;> cases e3:lo==hi
   case false.false.false =>
    have ac:Hid (vers (termOf (l.take (k+1)))=v+2):=by
     show _=_
     rw[aa]
     simp at e1 e2 e3
     simp[e1,e2,e3]
    have e4:(hi==lo)=false:=by rw[BEq.comm];exact e3
    clear aa
    go_wp2_with fail
    go_quiet (fail)
    go_wp2_with fail
    go_roundw
    case rel=>exact⟨k+1,(by have:=ab.out;omega),by go_num,by rw[ac.out];go_num,below_drewN HB.out _⟩
    case measure=>have:=ab.out;simp[intOf];omega
   case false.false.true =>
    have ac:Hid (vers (termOf (l.take (k+1)))=v+1):=by
     show _=_
     rw[aa]
     simp at e1 e2 e3
     simp[e2,e3]
    have e4:(hi==lo)=true:=by rw[BEq.comm];exact e3
    clear aa
    go_wp2_with fail
    go_quiet (fail)
    go_wp2_with fail
    go_roundw
    case rel=>exact⟨k+1,(by have:=ab.out;omega),by go_num,by rw[ac.out];go_num,below_drewN HB.out _⟩
    case measure=>have:=ab.out;simp[intOf];omega
   case false.true.false =>
    have ac:Hid (vers (termOf (l.take (k+1)))=v+1):=by
     show _=_
     rw[aa]
     simp at e1 e2 e3
     simp[e1,e2]
    have e4:(hi==lo)=false:=by rw[BEq.comm];exact e3
    clear aa
    go_wp2_with fail
    go_quiet (fail)
    go_wp2_with fail
    go_roundw
    case rel=>exact⟨k+1,(by have:=ab.out;omega),by go_num,by rw[ac.out];go_num,below_drewN HB.out _⟩
    case measure=>have:=ab.out;simp[intOf];omega
   case false.true.true =>
    exfalso
    simp at e1 e2 e3
    simp_all
   case true.false.false =>
    have ac:Hid (vers (termOf (l.take (k+1)))=v+1):=by
     show _=_
     rw[aa]
     simp at e1 e2 e3
     simp[e1,e2]
    have e4:(hi==lo)=false:=by rw[BEq.comm];exact e3
    clear aa
    go_wp2_with fail
    go_quiet (fail)
    go_wp2_with fail
    go_roundw
    case rel=>exact⟨k+1,(by have:=ab.out;omega),by go_num,by rw[ac.out];go_num,below_drewN HB.out _⟩
    case measure=>have:=ab.out;simp[intOf];omega
   case true.false.true =>
    exfalso
    simp at e1 e2 e3
    simp_all
   case true.true.false =>
    exfalso
    simp at e1 e2 e3
    simp_all
   case true.true.true =>
    have ac:Hid (vers (termOf (l.take (k+1)))=v+0):=by
     show _=_
     rw[aa]
     simp at e1 e2 e3
     simp[e1,e2]
    have e4:(hi==lo)=true:=by rw[BEq.comm];exact e3
    clear aa
    go_wp2_with fail
    go_quiet (fail)
    go_wp2_with fail
    go_roundw
    case rel=>exact⟨k+1,(by have:=ab.out;omega),by go_num,by rw[ac.out];go_num,below_drewN HB.out _⟩
    case measure=>have:=ab.out;simp[intOf];omega
  ·obtain rfl:k=n:=by omega
   have HV:Hid (l.take k=l):=List.take_of_length_le (by rw[HN.out];exact Nat.le_refl _)
   rw[HV.out]
   go_wp2_with fail
   go_ret
   exact⟨rfl,HB.out⟩
end
section
open Go.RowKit Rs At
theorem yh (l:List Sp):vers (termOf l)<=l.length*2:=by
 have h:=jG 2 (termOf l) (fun x hx=>by obtain⟨s,_,rfl⟩:=List.mem_map.1 hx;exact gX s)
 have h2:(termOf l).length=l.length:=by unfold termOf;rw[List.length_map]
 rw[h2] at h;exact h
theorem mT (name:List UInt8)(A:Option Addr)(n c:Nat)(l:List Sp)(w:World)(hw:MaxOk w)(hm:name.length<=maxLen)(hn:l.length=n)(hr:SRow w A l)(hl:n<=1000) :
  Calls Tryz.prog 72 #[.agg #[.string ⟨name.toArray⟩,.slice A n c]] w fun e w'=>e=.returned (.int .i64 (checkA ⟨name,l⟩))/\Below w.heap.size w w':=by
 obtain⟨K,hK⟩:=ex (checkA ⟨name,l⟩)
 rw[hK]
 have ai:Hid (nameB name=false->K=3):=fun h=>by rw[<-hK];unfold checkA;rw[if_neg (by rw[h];decide)]
 have ab:Hid (nameB name=true->checkR l≠0->K=checkR l):=fun h h2=>by rw[<-hK];unfold checkA;rw[if_pos h,if_neg h2]
 have aa:Hid (nameB name=true->checkR l=0->K=if 16<vers (termOf l) then 4 else 0):=fun h h2=>by rw[<-hK];unfold checkA;rw[if_pos h,if_pos h2]
 obtain⟨b,hb⟩:=ex w.heap.size
 obtain⟨W1,af⟩:=ex (w.alloc (.cells #[.string ⟨name.toArray⟩,.slice A n c] 117))
 have ap:Hid (Bx2 b name A n c W1):=by rw[<-af,<-hb];exact dz w name A n c _
 have ac:Hid (Below w.heap.size w W1):=by rw[<-af];exact (Below.refl _ _).alloc (Nat.le_refl _) _
 have aq:Hid (SRow W1 A l):=an hr ac.out
 have aD:Hid (MaxOk W1):=ah hw ac.out
 have aw:b<W1.heap.size:=by rw[<-af,<-hb];simp
 have ax:=zh aw
 have ay:=zh hm
 have HN:=zh hn
 clear hw hr hK hm hn
 obtain⟨k0,k1⟩:=ap.out
 obtain⟨nb,am⟩:=ex (nameB name)
 obtain⟨cr,ao⟩:=ex (checkR l)
 obtain⟨v,hv⟩:=ex (vers (termOf l))
 have az:Hid (v<=2000):=by have h:=yh l;rw[hv,HN.out] at h;show _<=_;omega
 rw[am] at ai ab aa
 rw[ao] at ab aa
 rw[hv] at aa
 have aA:=zh am
 have aB:=zh ao
 have HV:=zh hv
 clear am ao hv
 go_enter Tryz.func72,Tryz.ntmps72
 go_wp2_with fail
 clear hb af
 refine (iz name _ ay.out).mono ?_
 rintro _ z1 ⟨rfl,rfl⟩
 rw[aA.out]
 cases nb
 ·have HK:=zh (ai.out rfl)
  go_wp2_with fail
  go_ret
  exact⟨by rw[HK.out];rfl,ac.out⟩
 ·have aj:=zh (ab.out rfl)
  have ak:=zh (aa.out rfl)
  clear ab aa ai
  go_wp2_with fail
  refine (pG A n c l _ HN.out aq.out hl).mono ?_
  rintro _ z3 ⟨rfl,ag⟩
  rw[aB.out]
  have ar:Hid (Below w.heap.size w z3):=bt ac.out ag
  have aC:Hid (SRow z3 A l):=an aq.out ag
  obtain⟨q0,q1⟩:=aF ap.out ax.out ag
  clear ag k0 k1
  by_cases ad:cr=0
  ·subst ad
   have HK:=zh (ak.out rfl)
   go_wp2_with fail
   refine (oo A n c l _ HN.out aC.out hl).mono ?_
   rintro _ z4 ⟨rfl,av⟩
   rw[HV.out]
   have au:Hid (Below w.heap.size w z4):=bt ar.out av
   clear av
   have aE:=az.out
   by_cases ae:16<v
   ·have d0:decide ((16:Int)<(v:Int))=true:=decide_eq_true (by omega)
    have al:Hid (K=4):=by show _=_;rw[HK.out,if_pos ae]
    clear ae
    go_wp2_with fail
    go_ret
    exact⟨by rw[al.out];rfl,au.out⟩
   ·have d0:decide ((16:Int)<(v:Int))=false:=decide_eq_false (by omega)
    have al:Hid (K=0):=by show _=_;rw[HK.out,if_neg ae]
    clear ae
    go_wp2_with fail
    go_ret
    exact⟨by rw[al.out];rfl,au.out⟩
  ·have HK:=zh (aj.out ad)
   have aG:(cr != 0)=true:=bne_iff_ne.2 ad
   clear ad
   go_wp2_with fail
   go_ret
   exact⟨by rw[HK.out];rfl,ar.out⟩
end
section
open Go.RowKit Rs At
theorem cat2 (a b:List UInt8):(({ data:=a.toArray }:ByteArray)++{ data:=b.toArray })={ data:=(a++b).toArray }:=ByteArray.mk_append_mk ..
theorem cat2c (a:Array UInt8)(b:List UInt8):(({ data:=a }:ByteArray)++{ data:=b.toArray })={ data:=(a.toList++b).toArray }:=by
 have h:=cat2 a.toList b
 simpa using h
theorem mU (c:Cond):altT [c]=condT c:=by unfold altT;rw[List.map_cons,List.map_nil,Lib.join_one]
theorem ab1 (c d:Cond):altT [c,d]=condT c++[32,38,32]++condT d:=by
 unfold altT
 rw[List.map_cons,List.map_cons,List.map_nil,Lib.join_cons]
 simp[Lib.joinTail]
theorem ab2:altT []=[]:=by unfold altT;rw[List.map_nil,Lib.join_nil]
def spanB (lo hi:List UInt8) (li hn:Bool):List UInt8:=altT (conds ⟨lo,hi,li,hn⟩)
theorem tm {lo hi:List UInt8}(li hn:Bool)(h0:lo.isEmpty=false)(h:(lo==hi)=true):spanB lo hi li hn=[61,32]++lo:=by
 unfold spanB conds
 rw[if_pos ⟨by simpa using h,by simpa using h0⟩,mU];rfl
def loB (lo:List UInt8) (li:Bool):List UInt8:=(if li then [62,61,32] else [62,32])++lo
def hiB (hi:List UInt8) (hn:Bool):List UInt8:=(if hn then [60,61,32] else [60,32])++hi
theorem tn (lo:List UInt8)(li:Bool):condT (if li then [62,61] else [62],lo)=loB lo li:=by cases li <;> rfl
theorem tq (hi:List UInt8)(hn:Bool):condT (if hn then [60,61] else [60],hi)=hiB hi hn:=by cases hn <;> rfl
theorem tr {lo hi:List UInt8}(li hn:Bool)(h0:lo.isEmpty=false)(h1:hi.isEmpty=true):spanB lo hi li hn=loB lo li:=by
 have a:lo≠[]:=by simpa using h0
 have b:hi=[]:=by simpa using h1
 unfold spanB conds
 subst b
 rw[if_neg (fun h=>a h.1),if_neg a,if_pos rfl,List.append_nil,mU,tn]
theorem tu {lo hi:List UInt8}(li hn:Bool)(h0:lo.isEmpty=true)(h1:hi.isEmpty=false):spanB lo hi li hn=hiB hi hn:=by
 have a:lo=[]:=by simpa using h0
 have b:hi≠[]:=by simpa using h1
 unfold spanB conds
 subst a
 rw[if_neg (fun h=>h.2 rfl),if_pos rfl,if_neg b,List.nil_append,mU,tq]
theorem oq {lo hi:List UInt8}(li hn:Bool)(h0:lo.isEmpty=true)(h1:hi.isEmpty=true):spanB lo hi li hn=[]:=by
 have a:lo=[]:=by simpa using h0
 have b:hi=[]:=by simpa using h1
 unfold spanB conds
 subst a b
 rw[if_neg (fun h=>h.2 rfl),if_pos rfl];exact ab2
theorem ot {lo hi:List UInt8}(li hn:Bool)(h0:lo.isEmpty=false)(h1:hi.isEmpty=false)(h:(lo==hi)=false):spanB lo hi li hn=loB lo li++[32,38,32]++hiB hi hn:=by
 have a:lo≠[]:=by simpa using h0
 have b:hi≠[]:=by simpa using h1
 have c:lo≠hi:=by simpa using h
 unfold spanB conds
 rw[if_neg (fun h=>c h.1),if_neg a,if_neg b,List.singleton_append,ab1,tn,tq]
theorem tv (lo hi:List UInt8)(li hn:Bool)(w:World)(h1:lo.length<=1000)(h2:hi.length<=1000) :
  Calls Tryz.prog 141 #[.agg #[.string ⟨lo.toArray⟩,.string ⟨hi.toArray⟩,.bool li,.bool hn]] w fun e w'=>e=.returned (.string ⟨(spanB lo hi li hn).toArray⟩)/\Below w.heap.size w w':=by
 obtain⟨R,hR⟩:=ex (spanB lo hi li hn)
 rw[hR]
 obtain⟨c0,c1,c2,c3,_⟩:=d9 w lo hi li hn 200
 have HB:Hid (Below w.heap.size w (w.alloc (.cells #[.string ⟨lo.toArray⟩,.string ⟨hi.toArray⟩,.bool li,.bool hn] 200))):=(Below.refl _ _).alloc (Nat.le_refl _) _
 cases e1:lo.isEmpty
 ·cases e3:lo==hi
  ·have e4:(hi==lo)=false:=by rw[BEq.comm];exact e3
   cases e2:hi.isEmpty
   ·have HF:=zh ((ot li hn e1 e2 e3).symm.trans hR)
    have aa:({ data:=(if li then [62,61,32] else [62,32]).toArray }:ByteArray)++{ data:=lo.toArray }={ data:=(loB lo li).toArray }:=cat2 _ _
    obtain⟨q,hq⟩:=ex (loB lo li)
    have ai:q.isEmpty=false:=by rw[<-hq];unfold loB;cases li <;> rfl
    have aj:q.length<=1003:=by rw[<-hq];unfold loB;cases li <;> simp <;> omega
    rw[hq] at aa HF
    clear hR hq
    cases li <;> cases hn
    ·have ag:({ data:=#[62,32] }:ByteArray)++{ data:=lo.toArray }={ data:=q.toArray }:=aa
     have af:({ data:=q.toArray }:ByteArray)++{ data:=#[32,38,32] }={ data:=(q++[32,38,32]).toArray }:=cat2 q [32,38,32]
     have ae:({ data:=(q++[32,38,32]).toArray }:ByteArray)++{ data:=#[60,32] }={ data:=(q++[32,38,32]++[60,32]).toArray }:=cat2 _ [60,32]
     have ac:Hid (q++[32,38,32]++[60,32]++hi=R):=by rw[List.append_assoc];exact HF.out
     obtain⟨q2,ab⟩:=ex (q++[32,38,32])
     have l2:q2.length<=1006:=by rw[<-ab,List.length_append];simp;omega
     have e5:q2.isEmpty=false:=by rw[<-ab];cases q <;> rfl
     rw[ab] at af ae ac
     obtain⟨q3,ad⟩:=ex (q2++[60,32])
     have l3:q3.length<=1009:=by rw[<-ad,List.length_append];simp;omega
     rw[ad] at ae ac
     clear aa ab ad
     go_enter Tryz.func141,Tryz.ntmps141
     go_wp2_with fail
     go_ret
     exact⟨by rw[<-ac.out];exact congrArg (fun x=>Ending.returned (Value.string x)) (cat2 _ _),HB.out⟩
    ·have ag:({ data:=#[62,32] }:ByteArray)++{ data:=lo.toArray }={ data:=q.toArray }:=aa
     have af:({ data:=q.toArray }:ByteArray)++{ data:=#[32,38,32] }={ data:=(q++[32,38,32]).toArray }:=cat2 q [32,38,32]
     have ae:({ data:=(q++[32,38,32]).toArray }:ByteArray)++{ data:=#[60,61,32] }={ data:=(q++[32,38,32]++[60,61,32]).toArray }:=cat2 _ [60,61,32]
     have ac:Hid (q++[32,38,32]++[60,61,32]++hi=R):=by rw[List.append_assoc];exact HF.out
     obtain⟨q2,ab⟩:=ex (q++[32,38,32])
     have l2:q2.length<=1006:=by rw[<-ab,List.length_append];simp;omega
     have e5:q2.isEmpty=false:=by rw[<-ab];cases q <;> rfl
     rw[ab] at af ae ac
     obtain⟨q3,ad⟩:=ex (q2++[60,61,32])
     have l3:q3.length<=1009:=by rw[<-ad,List.length_append];simp;omega
     rw[ad] at ae ac
     clear aa ab ad
     go_enter Tryz.func141,Tryz.ntmps141
     go_wp2_with fail
     go_ret
     exact⟨by rw[<-ac.out];exact congrArg (fun x=>Ending.returned (Value.string x)) (cat2 _ _),HB.out⟩
    ·have ag:({ data:=#[62,61,32] }:ByteArray)++{ data:=lo.toArray }={ data:=q.toArray }:=aa
     have ah:({ data:=#[62,32] }:ByteArray)++{ data:=lo.toArray }={ data:=(62 :: 32 :: lo).toArray }:=cat2 [62,32] lo
     have l0:(62 :: 32 :: lo).length<=1002:=by simp;omega
     have af:({ data:=q.toArray }:ByteArray)++{ data:=#[32,38,32] }={ data:=(q++[32,38,32]).toArray }:=cat2 q [32,38,32]
     have ae:({ data:=(q++[32,38,32]).toArray }:ByteArray)++{ data:=#[60,32] }={ data:=(q++[32,38,32]++[60,32]).toArray }:=cat2 _ [60,32]
     have ac:Hid (q++[32,38,32]++[60,32]++hi=R):=by rw[List.append_assoc];exact HF.out
     obtain⟨q2,ab⟩:=ex (q++[32,38,32])
     have l2:q2.length<=1006:=by rw[<-ab,List.length_append];simp;omega
     have e5:q2.isEmpty=false:=by rw[<-ab];cases q <;> rfl
     rw[ab] at af ae ac
     obtain⟨q3,ad⟩:=ex (q2++[60,32])
     have l3:q3.length<=1009:=by rw[<-ad,List.length_append];simp;omega
     rw[ad] at ae ac
     clear aa ab ad
     go_enter Tryz.func141,Tryz.ntmps141
     go_wp2_with fail
     go_ret
     exact⟨by rw[<-ac.out];exact congrArg (fun x=>Ending.returned (Value.string x)) (cat2 _ _),HB.out⟩
    ·have ag:({ data:=#[62,61,32] }:ByteArray)++{ data:=lo.toArray }={ data:=q.toArray }:=aa
     have ah:({ data:=#[62,32] }:ByteArray)++{ data:=lo.toArray }={ data:=(62 :: 32 :: lo).toArray }:=cat2 [62,32] lo
     have l0:(62 :: 32 :: lo).length<=1002:=by simp;omega
     have af:({ data:=q.toArray }:ByteArray)++{ data:=#[32,38,32] }={ data:=(q++[32,38,32]).toArray }:=cat2 q [32,38,32]
     have ae:({ data:=(q++[32,38,32]).toArray }:ByteArray)++{ data:=#[60,61,32] }={ data:=(q++[32,38,32]++[60,61,32]).toArray }:=cat2 _ [60,61,32]
     have ac:Hid (q++[32,38,32]++[60,61,32]++hi=R):=by rw[List.append_assoc];exact HF.out
     obtain⟨q2,ab⟩:=ex (q++[32,38,32])
     have l2:q2.length<=1006:=by rw[<-ab,List.length_append];simp;omega
     have e5:q2.isEmpty=false:=by rw[<-ab];cases q <;> rfl
     rw[ab] at af ae ac
     obtain⟨q3,ad⟩:=ex (q2++[60,61,32])
     have l3:q3.length<=1009:=by rw[<-ad,List.length_append];simp;omega
     rw[ad] at ae ac
     clear aa ab ad
     go_enter Tryz.func141,Tryz.ntmps141
     go_wp2_with fail
     go_ret
     exact⟨by rw[<-ac.out];exact congrArg (fun x=>Ending.returned (Value.string x)) (cat2 _ _),HB.out⟩
   ·have HF:=zh ((tr (hi:=hi) li hn e1 e2).symm.trans hR)
    clear hR
    cases li
    all_goals
     go_enter Tryz.func141,Tryz.ntmps141
     go_wp2_with fail
     go_ret
     exact⟨by rw[<-HF.out];exact congrArg (fun x=>Ending.returned (Value.string x)) (cat2c _ _),HB.out⟩
  ·have HF:=zh ((tm li hn e1 e3).symm.trans hR)
   clear hR
   go_enter Tryz.func141,Tryz.ntmps141
   go_wp2_with fail
   go_ret
   exact⟨by rw[<-HF.out];exact congrArg (fun x=>Ending.returned (Value.string x)) (cat2c _ _),HB.out⟩
 ·cases e2:hi.isEmpty
  ·have HF:=zh ((tu li hn e1 e2).symm.trans hR)
   clear hR
   cases hn
   all_goals
    go_enter Tryz.func141,Tryz.ntmps141
    go_wp2_with fail
    go_ret
    exact⟨by rw[<-HF.out];exact congrArg (fun x=>Ending.returned (Value.string x)) (cat2c _ _),HB.out⟩
  ·have HF:=zh ((oq li hn e1 e2).symm.trans hR)
   clear hR
   go_enter Tryz.func141,Tryz.ntmps141
   go_wp2_with fail
   go_ret
   exact⟨by rw[<-HF.out];rfl,HB.out⟩
end
section
open Go.RowKit Rs At
attribute [local go_sem ↓] Go.wp_at_zero Go.wp_at_succ
theorem ia (m x:List UInt8):∀ l:List (List UInt8),Lib.join (l++[x]) m=if l.isEmpty then x else Lib.join l m++m++x
 | []=>Lib.join_one ..
 | [a]=>by
  show Lib.join [a,x] m=Lib.join [a] m++m++x
  rw[Lib.join_cons,Lib.join_one];simp[Lib.joinTail]
 | a :: b :: r=>by
  have ih:=ia m x (b :: r)
  have e:∀ t:List (List UInt8),Lib.join (a :: b :: t) m=a++m++Lib.join (b :: t) m:=fun t=>by
   rw[Lib.join_cons,Lib.join_cons];simp[Lib.joinTail]
  show Lib.join (a :: b :: (r++[x])) m=Lib.join (a :: b :: r) m++m++x
  rw[e,e]
  have aa:Lib.join (b :: (r++[x])) m=Lib.join (b :: r) m++m++x:=ih
  rw[aa];simp
theorem fi (l:List Sp)(k:Nat)(hk:k<l.length):Lib.join ((l.take (k+1)).map fun s=>altT (conds s)) [32,124,32]=(if k=0 then [] else Lib.join ((l.take k).map fun s=>altT (conds s)) [32,124,32]++[32,124,32])++altT (conds l[k]):=by
 rw[List.take_succ_eq_append_getElem hk,List.map_append]
 show Lib.join (_++[altT (conds l[k])]) _=_
 rw[ia]
 by_cases h0:k=0
 ·subst h0;simp
 ·rw[if_neg h0,if_neg (by cases l with
   | nil=>simp at hk
   | cons a l=>cases k with
    | zero=>exact absurd rfl h0
    | succ k=>simp)]
theorem ab3 {s:Sp}(h:s.err=0):s.lo.length<=40/\s.hi.length<=40:=by
 obtain⟨b1,b2,_,_⟩:=cz (show span s.lo s.hi s.li s.hn=0 from h)
 constructor
 ·cases e:s.lo.isEmpty
  ·exact lS (aN b1 e)
  ·have:s.lo=[]:=by simpa using e
   rw[this];simp
 ·cases e:s.hi.isEmpty
  ·exact lS (aN b2 e)
  ·have:s.hi=[]:=by simpa using e
   rw[this];simp
theorem ab4 {lo hi:List UInt8}(li hn:Bool)(h1:lo.length<=40)(h2:hi.length<=40):(spanB lo hi li hn).length<=100:=by
 have hL:(loB lo li).length<=43:=by unfold loB;cases li <;> simp <;> omega
 have hH:(hiB hi hn).length<=43:=by unfold hiB;cases hn <;> simp <;> omega
 cases e1:lo.isEmpty <;> cases e2:hi.isEmpty
 ·cases e3:lo==hi
  ·rw[ot li hn e1 e2 e3];simp;omega
  ·rw[tm li hn e1 e3];simp;omega
 ·rw[tr li hn e1 e2];omega
 ·rw[tu li hn e1 e2];omega
 ·rw[oq li hn e1 e2];simp
theorem ab5 {w0 u:World}{L:List Ent}(h:St w0 u L):Calls Tryz.prog 140 #[] u (RowRet w0 L (allR.map spOf)):=(yg u).mono fun _ _ hr=>lP h hr
theorem ou (name:List UInt8)(A:Option Addr)(n c:Nat)(l:List Sp)(w:World)(hw:MaxOk w)(hm:name.length<=100)(hn:l.length=n)(hr:SRow w A l)(hl:n<=64)(hk:checkR l=0) :
  Calls Tryz.prog 90 #[.agg #[.string ⟨name.toArray⟩,.slice A n c]] w fun e w'=>e=.returned (.string ⟨(textA ⟨name,l⟩).toArray⟩)/\Below w.heap.size w w':=by
 obtain⟨R,hR⟩:=ex (textA ⟨name,l⟩)
 rw[hR]
 obtain⟨b,hb⟩:=ex w.heap.size
 obtain⟨W1,ao⟩:=ex (w.alloc (.cells #[.string ⟨name.toArray⟩,.slice A n c] 117))
 have ai:Hid (Bx2 b name A n c W1):=by rw[<-ao,<-hb];exact dz w name A n c _
 have aa:Hid (Below w.heap.size w W1):=by rw[<-ao];exact (Below.refl _ _).alloc (Nat.le_refl _) _
 have af:b<W1.heap.size:=by rw[<-ao,<-hb];simp
 have aI:Hid (SRow W1 A l):=an hr aa.out
 have HN:=zh hn
 obtain⟨sm,ag⟩:=ex (decide (l=allR.map spOf))
 have aJ:=zh ag
 have ap:Hid (sm=true->R=name):=fun h=>by rw[<-hR];unfold textA;rw[if_pos (by rw[h] at ag;exact of_decide_eq_true ag)]
 have aq:Hid (sm=false->R=name++32 :: 40 :: (termT (termOf l)++[41])):=fun h=>by rw[<-hR];unfold textA;rw[if_neg (by rw[h] at ag;exact of_decide_eq_false ag)]
 have aK:Hid (∀ s∈l,s.lo.length<=40/\s.hi.length<=40):=fun s hs=>ab3 ((c6 hk).2.2 s hs)
 obtain⟨k0,k1⟩:=ai.out
 have aL:Hid (MaxOk W1):=ah hw aa.out
 have aU:=zh af
 clear hr hn hR hk ag hw
 go_enter Tryz.func90,Tryz.ntmps90
 go_wp2_with fail
 clear hb ao
 have aC:Hid (St W1 W1.drew [⟨A,n,l⟩]):=⟨aL.out,(Below.refl _ _).drew,fun x hx=>by rw[List.mem_singleton.1 hx];exact⟨an aI.out (Below.refl _ _).drew,HN.out⟩⟩
 go_region_held3 (fun w'=>w'.cell? ⟨b,0,none⟩=some (.string ⟨name.toArray⟩)/\w'.cell? ⟨b,1,none⟩=some (.slice A n c))
  (first
   | exact aF ai.out af aC.out.2.1
   | exact aF ai.out af ar.out.2.1
   | exact aF ai.out af au.out.2.1)
  (first
   | (go_at_call 140;refine (ab5 aC.out).mono ?_;rintro _ u2 ⟨C,m2,d,rfl,hs⟩;have ar:=zh hs;have aD:m2=1:=(aH hs 0 rfl).2.symm;have aE:=zh aD;clear hs aD)
   | (go_at_call 119;refine (vs ar.out 1 0 rfl rfl (by omega) (by rw[aE.out];decide) _ _ sm aJ.out).mono ?_;rintro _ u3 ⟨rfl,hs⟩;have au:=zh hs;clear hs))
 have ab:Hid (St W1 u3 [⟨A,n,l⟩]):=sW au.out
 have aG:=zh (aF ai.out af ab.out.2.1)
 clear k0 k1 ar au aE
 obtain⟨k0,k1⟩:=aG.out
 cases sm
 ·have HT:=zh (aq.out rfl)
  clear aq ap
  by_cases h0:n=0
  ·have aM:Hid (name++[32,40,110,111,110,101,41]=R):=by
    show _=_
    rw[HT.out]
    have:l=[]:=List.length_eq_zero_iff.1 (by rw[HN.out];exact h0)
    rw[this];rfl
   subst h0
   go_wp2_with fail
   go_ret
   exact⟨by rw[<-aM.out];exact congrArg (fun x=>Ending.returned (Value.string x)) (cat2 name [32,40,110,111,110,101,41]),aa.out.trans (ab.out.2.1.mono aa.out.size)⟩
  ·have aV:((n:Int)==0)=false:=by simpa using h0
   have aN:Hid (name++[32,40]++Lib.join (l.map fun s=>altT (conds s)) [32,124,32]++[41]=R):=by
    show _=_
    rw[HT.out]
    unfold termT At.termOf
    rw[if_neg (by rw[List.map_eq_nil_iff];intro e;exact h0 (by rw[<-HN.out,e];rfl)),List.map_map]
    simp;rfl
   clear h0 HT
   go_wp2_with fail
   go_loopw [3,4] (fun v i wr=>∃ (k:Nat) (q:List UInt8),k<=n/\i=.int .i64 k/\v=.string ⟨q.toArray⟩/\q.length<=k*200/\Hid (Lib.join ((l.take k).map fun s=>altT (conds s)) [32,124,32]=q)/\Hid (Below u3.heap.size u3 wr)) (fun _ i _=>n-(intOf i).toNat)
   case atStart=>exact⟨0,[],Nat.zero_le _,rfl,rfl,Nat.zero_le _,rfl,Below.refl _ _⟩
   case round =>
    obtain⟨k,q,hk,rfl,rfl,hq,HQ,HB⟩:=hrel
    have aO:b<u3.heap.size:=Nat.lt_of_lt_of_le af ab.out.2.1.size
    obtain⟨j0,j1⟩:=aF aG.out aO HB.out
    clear k0 k1
    by_cases aP:k<n
    ·have av:k<l.length:=by rw[HN.out];exact aP
     obtain⟨ad,lo,hi,li,hh,rfl,hs,_,c0,c1,c2,c3⟩:=bB (an (aH ab.out 0 rfl).1 HB.out) k av
     obtain⟨l1,l2⟩:=aK.out _ (List.getElem_mem av)
     have aw:=fi l k av
     rw[hs] at l1 l2 aw
     dsimp only at l1 l2
     have aQ:(spanB lo hi li hh).length<=100:=ab4 li hh l1 l2
     have ac:Lib.join ((l.take (k+1)).map fun s=>altT (conds s)) [32,124,32]=(if k=0 then [] else Lib.join ((l.take k).map fun s=>altT (conds s)) [32,124,32]++[32,124,32])++spanB lo hi li hh:=aw
     rw[HQ.out] at ac
     have HJ:=zh ac
     have ax:=zh (tv lo hi li hh)
     obtain⟨x,hx⟩:=ex (spanB lo hi li hh)
     rw[hx] at aQ HJ ax
     have ak:Hid (lo.length<=1000/\hi.length<=1000):=⟨by omega,by omega⟩
     clear hs aw ac hx l1 l2
     by_cases h0:k=0
     ·have aR:¬ 0<k:=by omega
      have aS:q=[]:=List.length_eq_zero_iff.1 (by rw[h0] at hq;omega)
      subst aS
      have al:Hid (Lib.join ((l.take (k+1)).map fun s=>altT (conds s)) [32,124,32]=x):=by have h:=HJ.out;rw[if_pos h0] at h;exact h
      have aW:({ data:=#[] }:ByteArray)++{ data:=x.toArray }={ data:=x.toArray }:=cat2 [] x
      clear h0 HJ
      go_wp2_with fail
      refine (ax.out _ ak.out.1 ak.out.2).mono ?_
      rintro _ u5 ⟨rfl,aj⟩
      have ay:=zh (bt HB.out aj)
      clear aj c0 c1 c2 c3
      go_wp2_with fail
      go_roundw
      case rel=>exact⟨k+1,x,by omega,by go_num,by simp,by omega,al,ay⟩
      case measure=>simp[intOf];omega
     ·have aR:(0:Int)<(k:Int):=by omega
      have al:Hid (Lib.join ((l.take (k+1)).map fun s=>altT (conds s)) [32,124,32]=q++[32,124,32]++x):=by have h:=HJ.out;rw[if_neg h0] at h;exact h
      have az:({ data:=q.toArray }:ByteArray)++{ data:=#[32,124,32] }={ data:=(q++[32,124,32]).toArray }:=cat2 q [32,124,32]
      have am:({ data:=(q++[32,124,32]).toArray }:ByteArray)++{ data:=x.toArray }={ data:=(q++[32,124,32]++x).toArray }:=cat2 _ x
      obtain⟨q2,ae⟩:=ex (q++[32,124,32])
      have aT:q2.length<=k*200+3:=by rw[<-ae,List.length_append];simp;omega
      rw[ae] at az am al
      clear ae h0 HJ
      go_wp2_with fail
      refine (ax.out _ ak.out.1 ak.out.2).mono ?_
      rintro _ u5 ⟨rfl,aj⟩
      have ay:=zh (bt HB.out aj)
      clear aj c0 c1 c2 c3
      go_wp2_with fail
      go_roundw
      case rel=>exact⟨k+1,q2++x,by omega,by go_num,rfl,by rw[List.length_append];omega,al,ay⟩
      case measure=>simp[intOf];omega
    ·obtain rfl:k=n:=by omega
     have aA:Hid (name++[32,40]++q++[41]=R):=by
      show _=_
      rw[<-aN.out,<-HQ.out,List.take_of_length_le (by rw[HN.out];exact Nat.le_refl _)]
     have az:({ data:=name.toArray }:ByteArray)++{ data:=#[32,40] }={ data:=(name++[32,40]).toArray }:=cat2 name [32,40]
     have am:({ data:=(name++[32,40]).toArray }:ByteArray)++{ data:=q.toArray }={ data:=(name++[32,40]++q).toArray }:=cat2 _ q
     obtain⟨q2,ae⟩:=ex (name++[32,40])
     have aT:q2.length<=102:=by rw[<-ae,List.length_append];simp;omega
     rw[ae] at az am aA
     obtain⟨q3,aB⟩:=ex (q2++q)
     have aX:q3.length<=102+k*200:=by rw[<-aB,List.length_append];omega
     rw[aB] at am aA
     clear ae aB
     go_wp2_with fail
     go_ret
     exact⟨by rw[<-aA.out];exact congrArg (fun x=>Ending.returned (Value.string x)) (cat2 q3 [41]),aa.out.trans ((ab.out.2.1.trans (HB.out.mono ab.out.2.1.size)).mono aa.out.size)⟩
 ·have HT:=zh (ap.out rfl)
  clear aq ap
  go_wp2_with fail
  go_ret
  rw[HT.out]
  exact⟨rfl,aa.out.trans (ab.out.2.1.mono aa.out.size)⟩
end
section
open Go.RowKit Rs At
instance pDecA:DecidableEq (Rm.P Cut):=fun a b=>decidable_of_iff (a.lo=b.lo/\a.hi=b.hi) ⟨fun h=>by cases a;cases b;simp_all,fun h=>by rw[h];exact⟨rfl,rfl⟩⟩
end
section
open Go.RowKit Rs At
attribute [local go_sem ↓] Go.wp_at_zero Go.wp_at_succ
abbrev stA (u:World) (b:Nat) (name:List UInt8) (C:Option Addr) (m d:Nat):World:=(u.setCell ⟨b,0,none⟩ (.string ⟨name.toArray⟩)).setCell ⟨b,1,none⟩ (.slice C m d)
end
end Go.Proofs.YtpfkphmldalmmaaGreatDoor
