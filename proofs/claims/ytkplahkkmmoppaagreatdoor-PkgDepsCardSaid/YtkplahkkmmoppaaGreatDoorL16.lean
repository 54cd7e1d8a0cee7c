/- Part 16 of what the laws lean on. -/
import Derived.Test.YtkplahkkmmoppaaGreatDoorL14
import Derived.Test.YtkplahkkmmoppaaGreatDoorL15
import Derived.Deep.Upon
import Derived.StillTailTactics
set_option maxRecDepth 100000
set_option maxHeartbeats 1600000
namespace Go.Proofs.YtkplahkkmmoppaaGreatDoor
open Go.RowKit Rs At
theorem low_facts (c : UInt8) : (At.low c=true → decide ((c.toNat : Int) < 97)=false∧decide ((122 : Int) < (c.toNat : Int))=false∧decide ((97 : Int)≤(c.toNat : Int))=true∧decide ((c.toNat : Int)≤122)=true):=fun h=>by
 unfold At.low at h
 rw [Bool.and_eq_true,decide_eq_true_eq,decide_eq_true_eq] at h
 exact ⟨decide_eq_false (by omega),decide_eq_false (by omega),decide_eq_true (by omega),decide_eq_true (by omega)⟩
theorem low_not (c : UInt8) (h : At.low c=false) : (c.toNat < 97) ∨ (¬ c.toNat < 97∧122 < c.toNat):=by
 unfold At.low at h
 rw [Bool.and_eq_false_iff,decide_eq_false_iff_not,decide_eq_false_iff_not] at h
 omega
theorem refName_any (l : List UInt8) (w : World) (hm : l.length≤maxLen) :
  Calls Tryz.prog 41 #[.string ⟨l.toArray⟩] w fun e w'=>e = .returned (.bool (nameB l))∧w=w':=by
 obtain ⟨R,hR⟩ : ∃ R,nameB l=R:=⟨_,rfl⟩
 rw [hR]
 cases l with
 | nil =>
  obtain rfl : R=false:=hR.symm
  go_enter Tryz.func41,Tryz.ntmps41
  go_wp2_with fail
  go_ret
  exact ⟨rfl,rfl⟩
 | cons c0 t =>
  have hpos : 0 < (c0 :: t).length:=by simp
  obtain ⟨l,hl⟩ : ∃ l,c0 :: t=l:=⟨_,rfl⟩
  have H24 : Hid (24 < l.length → R=false):=fun h=>by rw [← hR,hl];exact At.name_no24 h
  have HC : Hid (l.length≤24 → R=(At.low c0 && l.all At.nameC)):=fun h=>by rw [← hR,← hl];exact At.name_cons (by rw [hl];exact h)
  have hpl : 0 < l.length:=by rw [← hl];exact hpos
  obtain ⟨cb,hcb,hcb'⟩:=byte_at l 0 hpl
  have h0 : cb=c0:=by rw [← hcb'];simp [← hl]
  subst h0
  rw [hl] at hm ⊢
  have n0 : decide ((l.length : Int) < 1)=false:=decide_eq_false (by omega)
  clear hR hcb' hpos hl
  by_cases h24 : 24 < l.length
  ·obtain rfl : R=false:=H24.out h24
   have d0 : decide ((24 : Int) < (l.length : Int))=true:=decide_eq_true (by omega)
   go_enter Tryz.func41,Tryz.ntmps41
   go_wp2_with fail
   go_ret
   exact ⟨rfl,rfl⟩
  ·have HR:=Lib.hid (HC.out (by omega))
   have d0 : decide ((24 : Int) < (l.length : Int))=false:=decide_eq_false (by omega)
   have HL24 : Hid (l.length≤24):=by show _≤_;omega
   clear HC H24
   cases hlow : At.low cb
   ·have HRF : Hid (R=false):=by show _=_;rw [HR.out,hlow];rfl
    rcases low_not cb hlow with h1 | ⟨h1,h2⟩
    ·have a1 : decide ((cb.toNat : Int) < 97)=true:=decide_eq_true (by omega)
     clear hlow HR h1
     go_enter Tryz.func41,Tryz.ntmps41
     go_wp2_with fail
     go_ret
     exact ⟨by rw [HRF.out];rfl,rfl⟩
    ·have a1 : decide ((cb.toNat : Int) < 97)=false:=decide_eq_false (by omega)
     have a2 : decide ((122 : Int) < (cb.toNat : Int))=true:=decide_eq_true (by omega)
     clear hlow HR h1 h2
     go_enter Tryz.func41,Tryz.ntmps41
     go_wp2_with fail
     go_ret
     exact ⟨by rw [HRF.out];rfl,rfl⟩
   ·have HRA : Hid (R=l.all At.nameC):=by show _=_;rw [HR.out,hlow];rfl
    obtain ⟨a1,a2,_,_⟩:=low_facts cb hlow
    clear hlow HR
    go_enter Tryz.func41,Tryz.ntmps41
    go_wp2_with fail
    go_loop [3,4] (fun i _=>∃ k : Nat,k≤l.length∧i = .int .i64 k∧Hid ((l.take k).all At.nameC=true)) (fun i _=>l.length - (intOf i).toNat)
    case atStart=>exact ⟨0,Nat.zero_le _,rfl,rfl⟩
    case round =>
     obtain ⟨k,hk,rfl,HK⟩:=hrel
     by_cases hlt : k < l.length
     ·obtain ⟨c,hc,hc'⟩:=byte_at l k hlt
      have HS:=Lib.hid (At.all_snoc (f:=At.nameC) hlt hc')
      have HN : Hid (At.nameC c=false → R=false):=fun h=>by rw [HRA.out];exact At.all_no hlt hc' h
      have HY : Hid (At.nameC c=true → (l.take (k + 1)).all At.nameC=true):=fun h=>by rw [HS.out,HK.out,h];rfl
      clear hc' HS HK a1 a2
      cases h1 : At.low c
      ·have H1:=Lib.hid h1
       have ht : ∃ b1 b2 : Bool,decide ((97 : Int)≤(c.toNat : Int))=b1∧decide ((c.toNat : Int)≤122)=b2∧(b1 && b2)=false:=by
        refine ⟨_,_,rfl,rfl,?_⟩
        rcases low_not c h1 with h | ⟨_,h⟩
        ·rw [decide_eq_false (by omega)];rfl
        ·rw [decide_eq_false (p:=(c.toNat : Int)≤122) (by omega),Bool.and_false]
       rcases low_not c h1 with h | ⟨g,h⟩
       ·have b1 : decide ((97 : Int)≤(c.toNat : Int))=false:=decide_eq_false (by omega)
        clear h h1 ht
        go_wp2_with fail
        refine (refDigit_any c _).mono ?_
        rintro e w' ⟨rfl,rfl⟩
        cases h2 : Vm.dig c
        ·have HE:=Lib.hid (At.nameC_else H1.out h2)
         clear h2
         by_cases h3 : c.toNat=45
         ·have n1 : ((c.toNat : Int) != 45)=false:=by simp [h3]
          have e3 : c=45:=by rw [← UInt8.toNat_inj];exact h3
          have HY2:=Lib.hid (HY.out (by rw [HE.out,e3];rfl))
          clear h3 e3
          go_wp2_with fail
          go_round
          case rel=>exact ⟨k + 1,by omega,by go_num,HY2⟩
          case measure=>simp [intOf];omega
         ·have n1 : ((c.toNat : Int) != 45)=true:=by simp;omega
          have HN2:=Lib.hid (HN.out (by rw [HE.out];rw [beq_eq_false_iff_ne];intro e;exact h3 (by rw [e];rfl)))
          clear h3
          go_wp2_with fail
          go_ret
          exact ⟨by rw [HN2.out];rfl,rfl⟩
        ·have HY2:=Lib.hid (HY.out (At.nameC_dig h2))
         clear h2
         go_wp2_with fail
         go_round
         case rel=>exact ⟨k + 1,by omega,by go_num,HY2⟩
         case measure=>simp [intOf];omega
       ·have b1 : decide ((97 : Int)≤(c.toNat : Int))=true:=decide_eq_true (by omega)
        have b2 : decide ((c.toNat : Int)≤122)=false:=decide_eq_false (by omega)
        clear g h h1 ht
        go_wp2_with fail
        refine (refDigit_any c _).mono ?_
        rintro e w' ⟨rfl,rfl⟩
        cases h2 : Vm.dig c
        ·have HE:=Lib.hid (At.nameC_else H1.out h2)
         clear h2
         by_cases h3 : c.toNat=45
         ·have n1 : ((c.toNat : Int) != 45)=false:=by simp [h3]
          have e3 : c=45:=by rw [← UInt8.toNat_inj];exact h3
          have HY2:=Lib.hid (HY.out (by rw [HE.out,e3];rfl))
          clear h3 e3
          go_wp2_with fail
          go_round
          case rel=>exact ⟨k + 1,by omega,by go_num,HY2⟩
          case measure=>simp [intOf];omega
         ·have n1 : ((c.toNat : Int) != 45)=true:=by simp;omega
          have HN2:=Lib.hid (HN.out (by rw [HE.out];rw [beq_eq_false_iff_ne];intro e;exact h3 (by rw [e];rfl)))
          clear h3
          go_wp2_with fail
          go_ret
          exact ⟨by rw [HN2.out];rfl,rfl⟩
        ·have HY2:=Lib.hid (HY.out (At.nameC_dig h2))
         clear h2
         go_wp2_with fail
         go_round
         case rel=>exact ⟨k + 1,by omega,by go_num,HY2⟩
         case measure=>simp [intOf];omega
      ·obtain ⟨_,_,b1,b2⟩:=low_facts c h1
       have HY2:=Lib.hid (HY.out (At.nameC_low h1))
       clear h1
       go_wp2_with fail
       go_round
       case rel=>exact ⟨k + 1,by omega,by go_num,HY2⟩
       case measure=>simp [intOf];omega
     ·obtain rfl : k=l.length:=by omega
      have HRT : Hid (R=true):=by show _=_;rw [HRA.out];have h:=HK.out;rwa [List.take_length] at h
      go_wp2_with fail
      go_ret
      exact ⟨by rw [HRT.out];rfl,rfl⟩
end Go.Proofs.YtkplahkkmmoppaaGreatDoor
namespace Go.Proofs.YtkplahkkmmoppaaGreatDoor
open Go.RowKit Rs At
theorem conds_count (s : Sp) : (conds s).length=(if s.lo = [] then 0 else 1) + (if s.hi ≠ []∧s.lo ≠ s.hi then 1 else 0):=by
 unfold conds
 by_cases h1 : s.lo=s.hi
 ·by_cases h2 : s.lo = []
  ·have h3 : s.hi = []:=by rw [← h1];exact h2
   simp [h2,h3]
  ·simp [h1,h1 ▸ h2]
 ·by_cases h2 : s.lo = []
  ·by_cases h3 : s.hi = []
   ·exact absurd (h2.trans h3.symm) h1
   ·have h4 : ¬ []=s.hi:=fun e=>h3 e.symm
    simp [h2,h3,h4]
  ·by_cases h3 : s.hi = [] <;> simp [h1,h2,h3]
theorem refVersions_any (A : Option Addr) (n c : Nat) (l : List Sp) (w : World) (hn : l.length=n) (hr : SRow w A l) (hl : n≤1000) :
  Calls Tryz.prog 71 #[.slice A n c] w fun e w'=>e = .returned (.int .i64 (vers (termOf l)))∧Below w.heap.size w w':=by
 have HR:=Lib.hid hr
 have HN:=Lib.hid hn
 clear hr hn
 go_enter Tryz.func71,Tryz.ntmps71
 go_wp2_with fail
 go_loopw [3,4] (fun m i wr=>∃ k : Nat,k≤n∧i = .int .i64 k∧m = .int .i64 (vers (termOf (l.take k)))∧Hid (Below w.heap.size w wr)) (fun _ i _=>n - (intOf i).toNat)
 case atStart=>exact ⟨0,Nat.zero_le _,rfl,rfl,Below.refl _ _⟩
 case round =>
  obtain ⟨k,hk,rfl,rfl,HB⟩:=hrel
  by_cases hlt : k < n
  ·have hlr : k < l.length:=by rw [HN.out];exact hlt
   obtain ⟨ad,lo,hi,li,hh,rfl,hs,_,c0,c1,c2,c3⟩:=srow_at (srow_below HR.out HB.out) k hlr
   have hvs : vers (termOf (l.take (k + 1)))=vers (termOf (l.take k)) + (conds l[k]).length:=by
    unfold termOf vers
    rw [List.take_succ_eq_append_getElem hlr,List.map_append,List.map_append,List.sum_append];simp
   have hvb : vers (termOf (l.take k))≤2000:=by
    have h:=vers_leM 2 (termOf (l.take k)) (fun x hx=>by obtain ⟨s,_,rfl⟩:=List.mem_map.1 hx;exact conds_len s)
    have h2 : (termOf (l.take k)).length≤k:=by unfold termOf;rw [List.length_map,List.length_take];omega
    omega
   rw [hs,conds_count] at hvs
   dsimp only at hvs
   obtain ⟨v,hv⟩ : ∃ v,vers (termOf (l.take k))=v:=⟨_,rfl⟩
   rw [hv] at hvs hvb ⊢
   have HLT:=Lib.hid hlt
   clear hs hv
   cases e1 : lo.isEmpty <;> cases e2 : hi.isEmpty <;> cases e3 : lo == hi
   case false.false.false =>
    have HVS : Hid (vers (termOf (l.take (k + 1)))=v + 2):=by
     show _=_
     rw [hvs]
     simp at e1 e2 e3
     simp [e1,e2,e3]
    have e4 : (hi == lo)=false:=by rw [BEq.comm];exact e3
    clear hvs
    go_wp2_with fail
    go_quiet (fail)
    go_wp2_with fail
    go_roundw
    case rel=>exact ⟨k + 1,(by have:=HLT.out;omega),by go_num,by rw [HVS.out];go_num,below_drewN HB.out _⟩
    case measure=>have:=HLT.out;simp [intOf];omega
   case false.false.true =>
    have HVS : Hid (vers (termOf (l.take (k + 1)))=v + 1):=by
     show _=_
     rw [hvs]
     simp at e1 e2 e3
     simp [e2,e3]
    have e4 : (hi == lo)=true:=by rw [BEq.comm];exact e3
    clear hvs
    go_wp2_with fail
    go_quiet (fail)
    go_wp2_with fail
    go_roundw
    case rel=>exact ⟨k + 1,(by have:=HLT.out;omega),by go_num,by rw [HVS.out];go_num,below_drewN HB.out _⟩
    case measure=>have:=HLT.out;simp [intOf];omega
   case false.true.false =>
    have HVS : Hid (vers (termOf (l.take (k + 1)))=v + 1):=by
     show _=_
     rw [hvs]
     simp at e1 e2 e3
     simp [e1,e2]
    have e4 : (hi == lo)=false:=by rw [BEq.comm];exact e3
    clear hvs
    go_wp2_with fail
    go_quiet (fail)
    go_wp2_with fail
    go_roundw
    case rel=>exact ⟨k + 1,(by have:=HLT.out;omega),by go_num,by rw [HVS.out];go_num,below_drewN HB.out _⟩
    case measure=>have:=HLT.out;simp [intOf];omega
   case false.true.true =>
    exfalso
    simp at e1 e2 e3
    simp_all
   case true.false.false =>
    have HVS : Hid (vers (termOf (l.take (k + 1)))=v + 1):=by
     show _=_
     rw [hvs]
     simp at e1 e2 e3
     simp [e1,e2]
    have e4 : (hi == lo)=false:=by rw [BEq.comm];exact e3
    clear hvs
    go_wp2_with fail
    go_quiet (fail)
    go_wp2_with fail
    go_roundw
    case rel=>exact ⟨k + 1,(by have:=HLT.out;omega),by go_num,by rw [HVS.out];go_num,below_drewN HB.out _⟩
    case measure=>have:=HLT.out;simp [intOf];omega
   case true.false.true =>
    exfalso
    simp at e1 e2 e3
    simp_all
   case true.true.false =>
    exfalso
    simp at e1 e2 e3
    simp_all
   case true.true.true =>
    have HVS : Hid (vers (termOf (l.take (k + 1)))=v + 0):=by
     show _=_
     rw [hvs]
     simp at e1 e2 e3
     simp [e1,e2]
    have e4 : (hi == lo)=true:=by rw [BEq.comm];exact e3
    clear hvs
    go_wp2_with fail
    go_quiet (fail)
    go_wp2_with fail
    go_roundw
    case rel=>exact ⟨k + 1,(by have:=HLT.out;omega),by go_num,by rw [HVS.out];go_num,below_drewN HB.out _⟩
    case measure=>have:=HLT.out;simp [intOf];omega
  ·obtain rfl : k=n:=by omega
   have HV : Hid (l.take k=l):=List.take_of_length_le (by rw [HN.out];exact Nat.le_refl _)
   rw [HV.out]
   go_wp2_with fail
   go_ret
   exact ⟨rfl,HB.out⟩
end Go.Proofs.YtkplahkkmmoppaaGreatDoor
namespace Go.Proofs.YtkplahkkmmoppaaGreatDoor
open Go.RowKit Rs At
theorem vers_range (l : List Sp) : vers (termOf l)≤l.length * 2:=by
 have h:=vers_leM 2 (termOf l) (fun x hx=>by obtain ⟨s,_,rfl⟩:=List.mem_map.1 hx;exact conds_len s)
 have h2 : (termOf l).length=l.length:=by unfold termOf;rw [List.length_map]
 rw [h2] at h;exact h
theorem refCheckAtom_any (name : List UInt8) (A : Option Addr) (n c : Nat) (l : List Sp) (w : World) (hw : MaxOk w) (hm : name.length≤maxLen) (hn : l.length=n) (hr : SRow w A l) (hl : n≤1000) :
  Calls Tryz.prog 25 #[.agg #[.string ⟨name.toArray⟩,.slice A n c]] w fun e w'=>e = .returned (.int .i64 (checkA ⟨name,l⟩))∧Below w.heap.size w w':=by
 obtain ⟨K,hK⟩ : ∃ K,checkA ⟨name,l⟩=K:=⟨_,rfl⟩
 rw [hK]
 have HKN : Hid (nameB name=false → K=3):=fun h=>by rw [← hK];unfold checkA;rw [if_neg (by rw [h];decide)]
 have HKR : Hid (nameB name=true → checkR l ≠ 0 → K=checkR l):=fun h h2=>by rw [← hK];unfold checkA;rw [if_pos h,if_neg h2]
 have HKV : Hid (nameB name=true → checkR l=0 → K=if 16 < vers (termOf l) then 4 else 0):=fun h h2=>by rw [← hK];unfold checkA;rw [if_pos h,if_pos h2]
 obtain ⟨b,hb⟩ : ∃ b,w.heap.size=b:=⟨_,rfl⟩
 obtain ⟨W1,hW1⟩ : ∃ W,w.alloc (.cells #[.string ⟨name.toArray⟩,.slice A n c] 59)=W:=⟨_,rfl⟩
 have HX1 : Hid (Bx2 b name A n c W1):=by rw [← hW1,← hb];exact bx2_new w name A n c _
 have HW1 : Hid (Below w.heap.size w W1):=by rw [← hW1];exact (Below.refl _ _).alloc (Nat.le_refl _) _
 have HR1 : Hid (SRow W1 A l):=srow_below hr HW1.out
 have HM1 : Hid (MaxOk W1):=maxOk_below hw HW1.out
 have hb1 : b < W1.heap.size:=by rw [← hW1,← hb];simp
 have HB1:=Lib.hid hb1
 have HNM:=Lib.hid hm
 have HN:=Lib.hid hn
 clear hw hr hK hm hn
 obtain ⟨k0,k1⟩:=HX1.out
 obtain ⟨nb,hnb⟩ : ∃ x,nameB name=x:=⟨_,rfl⟩
 obtain ⟨cr,hcr⟩ : ∃ x,checkR l=x:=⟨_,rfl⟩
 obtain ⟨v,hv⟩ : ∃ v,vers (termOf l)=v:=⟨_,rfl⟩
 have HVB : Hid (v≤2000):=by have h:=vers_range l;rw [hv,HN.out] at h;show _≤_;omega
 rw [hnb] at HKN HKR HKV
 rw [hcr] at HKR HKV
 rw [hv] at HKV
 have HNB:=Lib.hid hnb
 have HCR:=Lib.hid hcr
 have HV:=Lib.hid hv
 clear hnb hcr hv
 go_enter Tryz.func25,Tryz.ntmps25
 go_wp2_with fail
 clear hb hW1
 refine (refName_any name _ HNM.out).mono ?_
 rintro _ z1 ⟨rfl,rfl⟩
 rw [HNB.out]
 cases nb
 ·have HK:=Lib.hid (HKN.out rfl)
  go_wp2_with fail
  go_ret
  exact ⟨by rw [HK.out];rfl,HW1.out⟩
 ·have HKR2:=Lib.hid (HKR.out rfl)
  have HKV2:=Lib.hid (HKV.out rfl)
  clear HKR HKV HKN
  go_wp2_with fail
  refine (checkRange_any A n c l _ HN.out HR1.out hl).mono ?_
  rintro _ z3 ⟨rfl,hb3⟩
  rw [HCR.out]
  have HB3 : Hid (Below w.heap.size w z3):=HW1.out.trans (hb3.mono HW1.out.size)
  have HR3 : Hid (SRow z3 A l):=srow_below HR1.out hb3
  obtain ⟨q0,q1⟩:=bx2_below HX1.out HB1.out hb3
  clear hb3 k0 k1
  by_cases hc0 : cr=0
  ·subst hc0
   have HK:=Lib.hid (HKV2.out rfl)
   go_wp2_with fail
   refine (refVersions_any A n c l _ HN.out HR3.out hl).mono ?_
   rintro _ z4 ⟨rfl,hb4⟩
   rw [HV.out]
   have HB4 : Hid (Below w.heap.size w z4):=HB3.out.trans (hb4.mono HB3.out.size)
   clear hb4
   have hvb:=HVB.out
   by_cases h16 : 16 < v
   ·have d0 : decide ((16 : Int) < (v : Int))=true:=decide_eq_true (by omega)
    have HK2 : Hid (K=4):=by show _=_;rw [HK.out,if_pos h16]
    clear h16
    go_wp2_with fail
    go_ret
    exact ⟨by rw [HK2.out];rfl,HB4.out⟩
   ·have d0 : decide ((16 : Int) < (v : Int))=false:=decide_eq_false (by omega)
    have HK2 : Hid (K=0):=by show _=_;rw [HK.out,if_neg h16]
    clear h16
    go_wp2_with fail
    go_ret
    exact ⟨by rw [HK2.out];rfl,HB4.out⟩
  ·have HK:=Lib.hid (HKR2.out hc0)
   have hne : (cr != 0)=true:=bne_iff_ne.2 hc0
   clear hc0
   go_wp2_with fail
   go_ret
   exact ⟨by rw [HK.out];rfl,HB3.out⟩
end Go.Proofs.YtkplahkkmmoppaaGreatDoor
namespace Go.Proofs.YtkplahkkmmoppaaGreatDoor
open Go.RowKit Rs At
instance pDecA : DecidableEq (Rm.P Cut):=fun a b=>decidable_of_iff (a.lo=b.lo∧a.hi=b.hi) ⟨fun h=>by cases a;cases b;simp_all,fun h=>by rw [h];exact ⟨rfl,rfl⟩⟩
end Go.Proofs.YtkplahkkmmoppaaGreatDoor
namespace Go.Proofs.YtkplahkkmmoppaaGreatDoor
open Go.RowKit Rs At
attribute [local go_sem ↓] Go.wp_at_zero Go.wp_at_succ
abbrev stA (u : World) (b : Nat) (name : List UInt8) (C : Option Addr) (m d : Nat) : World:=(u.setCell ⟨b,0,none⟩ (.string ⟨name.toArray⟩)).setCell ⟨b,1,none⟩ (.slice C m d)
end Go.Proofs.YtkplahkkmmoppaaGreatDoor
namespace Go.Proofs.YtkplahkkmmoppaaGreatDoor
open Go.RowKit Rs At
attribute [local go_sem ↓] Go.wp_at_zero Go.wp_at_succ
def AC (b : Nat) (name : List UInt8) (A : Option Addr) (n c : Nat) (u : World) : Prop :=
 u.cell? ⟨b,0,none⟩=some (.string ⟨name.toArray⟩)∧u.cell? ⟨b,1,none⟩=some (.slice A n c)∧u.cell? ⟨b + 1,0,none⟩=some (.string ⟨#[]⟩)∧u.cell? ⟨b + 1,1,none⟩=some (.slice none 0 0)∧u.frozen? ⟨b + 1,0,none⟩=false∧u.frozen? ⟨b + 1,1,none⟩=false∧∀ j,2≤j → u.cell? ⟨b + 1,j,none⟩=none
theorem ac_of {w W1 W2 u : World} {T1 T2 : TypeId} {name : List UInt8} {A : Option Addr} {n c : Nat} (h1 : w.alloc (.cells #[.string ⟨name.toArray⟩,.slice A n c] T1)=W1) (h2 : W1.alloc (.cells #[.string ⟨#[]⟩,.slice none 0 0] T2)=W2) (hb : Below W2.heap.size W2 u) : AC w.heap.size name A n c u:=by
 have hs1 : W1.heap.size=w.heap.size + 1:=by rw [← h1];simp
 have hb1 : Below W1.heap.size W1 u:=(alloc_low h2).trans (hb.mono (alloc_low h2).size)
 obtain ⟨a0,a1,_⟩:=cell_two h1 hb1
 obtain ⟨b0,b1,b2,b3⟩:=cell_two h2 hb
 have e1 : u.heap[W1.heap.size]? = some (.cells #[.string ⟨#[]⟩,.slice none 0 0] T2 (0,0)):=(hb.block _ (by rw [← h2];simp)).trans (by rw [← h2];exact heap_alloc_new W1 _)
 rw [hs1] at b0 b1 b2 b3 e1
 exact ⟨a0,a1,b0,b1,b2,b3,fun j hj=>by simp [World.cell?,e1];omega⟩
theorem ac2 {b : Nat} {name : List UInt8} {A : Option Addr} {n c : Nat} {u : World} (h : AC b name A n c u) : u.cell? ⟨b,0,none⟩=some (.string ⟨name.toArray⟩)∧u.cell? ⟨b,1,none⟩=some (.slice A n c):=⟨h.1,h.2.1⟩
theorem ac_set {b : Nat} {name : List UInt8} {A : Option Addr} {n c : Nat} {u : World} (h : AC b name A n c u) (x y : Value) :
  ((u.setCell ⟨b + 1,0,none⟩ x).setCell ⟨b + 1,1,none⟩ y).cell? ⟨b,0,none⟩=some (.string ⟨name.toArray⟩)∧((u.setCell ⟨b + 1,0,none⟩ x).setCell ⟨b + 1,1,none⟩ y).cell? ⟨b,1,none⟩=some (.slice A n c):=by
 have far : ∀ j,((u.setCell ⟨b + 1,0,none⟩ x).setCell ⟨b + 1,1,none⟩ y).cell? ⟨b,j,none⟩=u.cell? ⟨b,j,none⟩:=fun j=>by
  rw [World.cell?_setCell_far _ _ _ _ (by show b + 1 ≠ b;omega),World.cell?_setCell_far _ _ _ _ (by show b + 1 ≠ b;omega)]
 exact ⟨(far 0).trans h.1,(far 1).trans h.2.1⟩
theorem ac_get {b : Nat} {name : List UInt8} {A : Option Addr} {n c : Nat} {u : World} (h : AC b name A n c u) (x y : Value) :
  ((u.setCell ⟨b + 1,0,none⟩ x).setCell ⟨b + 1,1,none⟩ y).cell? ⟨b + 1,0,none⟩=some x∧((u.setCell ⟨b + 1,0,none⟩ x).setCell ⟨b + 1,1,none⟩ y).cell? ⟨b + 1,1,none⟩=some y:=by
 obtain ⟨_,_,b0,b1,_⟩:=h
 constructor <;> simp [go_sem,b0,b1]
theorem to4_any (name : List UInt8) (A : Option Addr) (n c : Nat) (l : List Sp) (w : World) (hn : l.length=n) (hr : SRow w A l) (hl : n≤1000) :
  Calls Tryz.prog 27 #[.agg #[.string ⟨name.toArray⟩,.slice A n c]] w fun e w'=>∃ C d,e = .returned (.agg #[.string ⟨name.toArray⟩,.slice C n d])∧SRow w' C l∧Below w.heap.size w w':=by
 obtain ⟨W1,hW1⟩ : ∃ W,w.alloc (.cells #[.string ⟨name.toArray⟩,.slice A n c] 59)=W:=⟨_,rfl⟩
 obtain ⟨W2,hW2⟩ : ∃ W,W1.alloc (.cells #[.string ⟨#[]⟩,.slice none 0 0] 66)=W:=⟨_,rfl⟩
 have HAC : Hid (∀ u,Below W2.heap.size W2 u → AC w.heap.size name A n c u):=fun u hb=>ac_of hW1 hW2 hb
 have hs1 : W1.heap.size=w.heap.size + 1:=by rw [← hW1];simp
 have HBW : Hid (Below w.heap.size w W2):=(alloc_low hW1).trans ((alloc_low hW2).mono (alloc_low hW1).size)
 have HR2 : Hid (SRow W2 A l):=srow_below hr HBW.out
 subst hn
 clear hr
 go_enter Tryz.func27,Tryz.ntmps27
 go_wp2_with fail
 have HB1 : Hid (Below W2.heap.size W2 W2.drew):=(Below.refl _ _).drew
 obtain ⟨a0,a1,_⟩:=HAC.out _ HB1.out
 clear hW1 hW2
 go_region_held3 (fun w'=>w'.cell? ⟨w.heap.size,0,none⟩=some (.string ⟨name.toArray⟩)∧w'.cell? ⟨w.heap.size,1,none⟩=some (.slice A l.length c))
  (first
   | exact ac2 (HAC.out _ HB1.out)
   | exact ac2 (HAC.out _ HB3.out)
   | exact ac_set (HAC.out _ HB3.out) _ _)
  (first
   | (go_at_call 75;refine (to3_any A c l _ (srow_below HR2.out HB1.out) hl).mono ?_;rintro _ u3 ⟨⟨C,d,rfl,hr3,_,_⟩,hb3⟩;have HB3:=Lib.hid (HB1.out.trans (hb3.mono HB1.out.size));have HR3:=Lib.hid hr3;clear hb3 hr3;obtain ⟨_,_,b0,b1,f0,f1,_⟩:=HAC.out _ HB3.out))
 have HBV : Hid (Below w.heap.size w ((u3.setCell ⟨w.heap.size + 1,0,none⟩ (.string ⟨name.toArray⟩)).setCell ⟨w.heap.size + 1,1,none⟩ (.slice C l.length d))) :=
  ((HBW.out.trans (HB3.out.mono HBW.out.size)).setCell (Nat.le_succ _) _).setCell (Nat.le_succ _) _
 have hap:=row_apart HR3.out (HAC.out _ HB3.out).2.2.2.2.2.2
 have HRV : Hid (SRow ((u3.setCell ⟨w.heap.size + 1,0,none⟩ (.string ⟨name.toArray⟩)).setCell ⟨w.heap.size + 1,1,none⟩ (.slice C l.length d)) C l):=srow_far (srow_far HR3.out hap) hap
 have g:=ac_get (HAC.out _ HB3.out) (.string ⟨name.toArray⟩) (.slice C l.length d)
 clear hap
 go_wp2_with fail
 generalize (u3.setCell ⟨w.heap.size + 1,0,none⟩ (.string ⟨name.toArray⟩)).setCell ⟨w.heap.size + 1,1,none⟩ (.slice C l.length d)=V at *
 obtain ⟨g0,g1⟩:=g
 refine bodyPost_ret (v:=.agg #[.string ⟨name.toArray⟩,.slice C l.length d]) ?_ rfl ⟨C,d,rfl,HRV.out,HBV.out⟩
 simp [results,Tryz.results27,go_sem,g0,g1]
def fewA (a : Atm) : Bool:=decide (a.name.length≤100) && fewL a.rng
theorem few4_any {w0 w : World} {L : List Ent} (hS : St w0 w L) (name : List UInt8) (A : Option Addr) (n c : Nat) (l : List Sp) (i : Nat) (hi : L[i]? = some ⟨A,n,l⟩) (hm : name.length≤maxLen) (hn : n≤maxLen) (hs : Wide l) :
  Calls Tryz.prog 24 #[.agg #[.string ⟨name.toArray⟩,.slice A n c]] w (BoolRet w0 L (fewA ⟨name,l⟩)):=by
 obtain ⟨R,hR⟩ : ∃ R,fewA ⟨name,l⟩=R:=⟨_,rfl⟩
 rw [hR]
 obtain ⟨fl,hfl⟩ : ∃ R,fewL l=R:=⟨_,rfl⟩
 have hR2 : (decide (name.length≤100) && fl)=R:=by rw [← hfl];exact hR
 have HFL:=Lib.hid hfl
 have HS:=Lib.hid hS
 have HW:=Lib.hid hs
 have hbx:=bx2_new w name A n c 59
 obtain ⟨k0,k1⟩:=hbx
 have HS1 : Hid (St w0 (w.alloc (.cells #[.string ⟨name.toArray⟩,.slice A n c] 59)) L):=st_alloc hS _
 clear hS hR hfl hs
 unfold maxLen at hm
 by_cases h1 : name.length≤100
 ·have HR : Hid (fl=R):=by rw [decide_eq_true h1] at hR2;exact hR2
  have d0 : decide ((name.length : Int)≤100)=true:=decide_eq_true (by omega)
  clear hR2
  go_enter Tryz.func24,Tryz.ntmps24
  go_wp2_with fail
  refine (s_few HS1.out i hi hn HW.out _ fl HFL.out).mono ?_
  rintro _ u ⟨rfl,hs⟩
  have HS2:=Lib.hid hs
  clear hs
  go_wp2_with fail
  go_ret
  exact ⟨by rw [HR.out];rfl,HS2.out⟩
 ·have HR : Hid (false=R):=by rw [decide_eq_false h1] at hR2;exact hR2
  have d0 : decide ((name.length : Int)≤100)=false:=decide_eq_false (by omega)
  clear hR2
  go_enter Tryz.func24,Tryz.ntmps24
  go_wp2_with fail
  go_ret
  exact ⟨by rw [← HR.out];rfl,HS1.out⟩
end Go.Proofs.YtkplahkkmmoppaaGreatDoor
namespace Go.Proofs.YtkplahkkmmoppaaGreatDoor
open Go.RowKit Rs At
variable {w0 u : World} {L : List Ent} {A B : Option Addr} {n m : Nat}
theorem good_n {l : List Sp} (h : checkR l=0) : l.length≤64:=by
 have:=(check_good h).1.2.2
 rwa [List.length_map] at this
end Go.Proofs.YtkplahkkmmoppaaGreatDoor
namespace Go.Proofs.YtkplahkkmmoppaaGreatDoor
open Go.RowKit Rs At
theorem s4_has {w0 u : World} {L : List Ent} {A : Option Addr} {n : Nat} (h : St w0 u L) (i : Nat) {l : List Sp} (hi : L[i]? = some ⟨A,n,l⟩) (hk : checkR l=0) (c : Nat) (v : List UInt8) (hv : Vm.check v=0) (b : Bool) (hb : hasR (l.map Sp.piece) v=b) :
  Calls Tryz.prog 30 #[.slice A n c,.string ⟨v.toArray⟩] u (BoolRet w0 L b) :=
 s_has h i (a:=l.map Sp.piece) (by rw [(check_good hk).2];exact hi) (check_good hk).1 c v hv b hb
end Go.Proofs.YtkplahkkmmoppaaGreatDoor
namespace Go.Proofs.YtkplahkkmmoppaaGreatDoor
open Go.RowKit Rs At
theorem check_parts {a : Atm} (h : checkA a=0) : nameB a.name=true∧checkR a.rng=0∧vers (At.termOf a.rng)≤16:=by
 unfold checkA at h
 split at h
 ·rename_i h1
  split at h
  ·rename_i h2
   split at h
   ·cases h
   ·rename_i h3;exact ⟨h1,h2,by omega⟩
  ·rename_i h2;exact absurd h h2
 ·cases h
theorem name_len {l : List UInt8} (h : nameB l=true) : l.length≤24:=by
 rcases Nat.lt_or_ge 24 l.length with h1 | h1
 ·rw [name_no24 h1] at h;cases h
 ·exact h1
theorem alt_le {l : List Cond} (h : ∀ c ∈ l,(condT c).length≤43) : (altT l).length≤l.length * 46:=by
 have:=join_step_le [32,38,32] (l.map condT) 43 (fun t ht=>by
  obtain ⟨c,hc,rfl⟩:=List.mem_map.1 ht
  exact h c hc)
 rw [List.length_map] at this
 exact this
theorem lens_alts : ∀ {t : List (List Cond)},(∀ l ∈ t,∀ c ∈ l,(condT c).length≤43) → Lib.lens (t.map altT)≤vers t * 46
 | [],_=>by simp [Lib.lens]
 | l :: t,h=>by
  have h1:=alt_le (h l (by simp))
  have h2:=lens_alts (t:=t) (fun x hx=>h x (by simp [hx]))
  have e1 : Lib.lens ((l :: t).map altT)=(altT l).length + Lib.lens (t.map altT):=by simp [Lib.lens]
  have e2 : vers (l :: t)=l.length + vers t:=rfl
  rw [e1,e2,Nat.add_mul];omega
theorem termT_le {t : List (List Cond)} (h : ∀ l ∈ t,∀ c ∈ l,(condT c).length≤43) (hl : t.length≤64) (hv : vers t≤16) : (termT t).length≤928:=by
 unfold termT
 split
 ·decide
 ·cases t with
  | nil=>contradiction
  | cons l t =>
   rw [List.map_cons,Lib.join_length,← List.map_cons (f:=altT)]
   have:=lens_alts h
   simp only [List.length_map,List.length_cons] at hl ⊢
   show 3 * t.length + _≤_
   omega
theorem text_le {a : Atm} (h : checkA a=0) : (textA a).length≤1000:=by
 obtain ⟨h1,h2,h3⟩:=check_parts h
 have hn:=name_len h1
 unfold textA
 split
 ·omega
 ·have hl : (At.termOf a.rng).length≤64:=by show (a.rng.map conds).length≤64;rw [List.length_map];exact good_n h2
  have ht:=termT_le (t:=At.termOf a.rng) (fun l hl c hc=>by
   obtain ⟨s,hs,rfl⟩:=List.mem_map.1 hl
   obtain ⟨i,hi,he,ho⟩:=conds_ok ((check_spans h2).2.2 s hs) c hc
   have h40:=own_len ho
   have hsg : (sgnT i).length≤2:=by
    match i,hi with
    | 0,_ | 1,_ | 2,_ | 3,_ | 4,_ | 5,_=>decide
   unfold condT
   rw [he]
   simp only [List.length_append,List.length_cons]
   omega) hl h3
  rw [List.length_append]
  simp only [List.length_cons,List.length_append,List.length_nil]
  omega
end Go.Proofs.YtkplahkkmmoppaaGreatDoor
namespace Go.Proofs.YtkplahkkmmoppaaGreatDoor.Wm
open Ieee
def rung (b : Nat) : Nat:=b % 9223372036854775808
def neg (b : Nat) : Bool:=decide (9223372036854775808≤b)
def nan (b : Nat) : Bool:=decide (9218868437227405312 < rung b)
def sk (b : Nat) : Int:=if neg b then -(rung b : Int) else (rung b : Int)
def W : Nat:=18446744073709551616
def val (r : Nat) : Nat:=if r < 4503599627370496 then r else (4503599627370496 + r % 4503599627370496) * 2 ^ (r / 4503599627370496 - 1)
def magOf (r : Nat) : Nat:=if r < 4503599627370496 then r else 4503599627370496 + r % 4503599627370496
def upOf (r : Nat) : Nat:=if r < 4503599627370496 then 0 else r / 4503599627370496 - 1
theorem val_eq (r : Nat) : val r=magOf r * 2 ^ upOf r:=by
 unfold val magOf upOf;split <;> simp
theorem mul_pow_lt {a b i j : Nat} (h : a < 2 ^ 53) (hb : 2 ^ 52≤b) (hij : i < j) : a * 2 ^ i < b * 2 ^ j:=by
 have h1 : 2 ^ (i + 1)≤2 ^ j:=Nat.pow_le_pow_right (by omega) hij
 have h2 : 2 ^ (i + 1)=2 * 2 ^ i:=by rw [Nat.pow_succ];omega
 have h3 : 0 < 2 ^ i:=Nat.two_pow_pos i
 calc a * 2 ^ i < 2 ^ 53 * 2 ^ i:=Nat.mul_lt_mul_of_pos_right h h3
  _=2 ^ 52 * 2 ^ (i + 1):=by rw [h2];omega
  _≤b * 2 ^ j:=Nat.mul_le_mul hb h1
theorem val_lt {r s : Nat} (h : r < s) : val r < val s:=by
 unfold val
 split
 ·rename_i h1
  split
  ·exact h
  ·have : 0 < 2 ^ (s / 4503599627370496 - 1):=Nat.two_pow_pos _
   calc r < 4503599627370496:=h1
    _≤4503599627370496 + s % 4503599627370496:=by omega
    _=(4503599627370496 + s % 4503599627370496) * 1:=by omega
    _≤_:=Nat.mul_le_mul_left _ this
 ·rename_i h1
  rw [if_neg (by omega)]
  by_cases hq : r / 4503599627370496=s / 4503599627370496
  ·rw [hq]
   exact Nat.mul_lt_mul_of_pos_right (by omega) (Nat.two_pow_pos _)
  ·exact mul_pow_lt (by omega) (by omega) (by omega)
theorem val_le {r s : Nat} (h : r≤s) : val r≤val s:=by
 rcases Nat.lt_or_eq_of_le h with h | rfl
 ·exact Nat.le_of_lt (val_lt h)
 ·exact Nat.le_refl _
theorem read_number (b : Nat) (hb : b < W) (h : rung b < 9218868437227405312) : double.read b = .number (neg b) (magOf (rung b)) (-1074 + (upOf (rung b) : Int)):=by
 have hn : (b / 9223372036854775808 % 2 == 1)=neg b:=by
  unfold neg;unfold W at hb
  rw [Bool.eq_iff_iff];simp;omega
 unfold Format.read
 simp only [show double.signWeight=9223372036854775808 from rfl,show double.binade=4503599627370496 from rfl,show double.infRung=9218868437227405312 from rfl,show double.leastPlace = -1074 from rfl,hn,show b % 9223372036854775808=rung b from rfl]
 unfold magOf upOf
 split
 ·rfl
 ·first | rfl | rw [if_pos h]
theorem read_inf (b : Nat) (hb : b < W) (h : rung b=9218868437227405312) : double.read b = .infinity (neg b):=by
 have hn : (b / 9223372036854775808 % 2 == 1)=neg b:=by
  unfold neg;unfold W at hb
  rw [Bool.eq_iff_iff];simp;omega
 unfold Format.read
 simp only [show double.signWeight=9223372036854775808 from rfl,show double.binade=4503599627370496 from rfl,show double.infRung=9218868437227405312 from rfl,show double.leastPlace = -1074 from rfl,hn,show b % 9223372036854775808=rung b from rfl,h]
 rfl
theorem read_nan (b : Nat) (h : nan b=true) : ∃ s t,double.read b = .nan s t:=by
 unfold nan at h
 have h':=of_decide_eq_true h
 refine ⟨b / 9223372036854775808 % 2 == 1,rung b - 9218868437227405312,?_⟩
 unfold Format.read
 simp only [show double.signWeight=9223372036854775808 from rfl,show double.binade=4503599627370496 from rfl,show double.infRung=9218868437227405312 from rfl,show double.leastPlace = -1074 from rfl,show b % 9223372036854775808=rung b from rfl]
 rw [if_neg (by omega),if_neg (by omega),if_neg (by omega)]
def sv (b : Nat) : Int:=if neg b then -(val (rung b) : Int) else (val (rung b) : Int)
theorem compare_sv (x y : Nat) : compare (sv x) (sv y)=compare (sk x) (sk y):=by
 have hlt : ∀ {r s : Nat},r < s ↔ val r < val s:=fun {r s}=>⟨val_lt,fun h=>Nat.lt_of_not_le fun h2=>absurd (val_le h2) (Nat.not_le_of_gt h)⟩
 have h1:=@hlt (rung x) (rung y)
 have h2:=@hlt (rung y) (rung x)
 have h0 : ∀ r,val r=0 ↔ r=0:=fun r=>⟨fun h=>by
  rcases Nat.eq_zero_or_pos r with h3 | h3
  ·exact h3
  ·have:=val_lt h3;rw [h] at this;simp at this,fun h=>by subst h;rfl⟩
 have h3:=h0 (rung x)
 have h4:=h0 (rung y)
 simp only [compare,compareOfLessAndEq]
 unfold sv sk
 cases neg x <;> cases neg y <;> simp only [Bool.false_eq_true,if_false,if_true] <;> (congr 1 <;> first | (apply propext;omega) | (congr 1;apply propext;omega) | skip)
theorem signed_eq (n : Bool) (m up : Nat) : signed n m up=(if n then -1 else 1) * ((m * 2 ^ up : Nat) : Int):=by
 unfold signed;rw [Nat.shiftLeft_eq];cases n <;> simp
theorem compare_scale (k : Nat) (a b : Int) : compare (a * (2 ^ k : Nat)) (b * (2 ^ k : Nat))=compare a b:=by
 have hp : (0 : Int) < ((2 ^ k : Nat) : Int):=by exact_mod_cast Nat.two_pow_pos k
 have h1 : a * (2 ^ k : Nat) < b * (2 ^ k : Nat) ↔ a < b:=⟨fun h=>Int.lt_of_mul_lt_mul_right h (Int.le_of_lt hp),fun h=>Int.mul_lt_mul_of_pos_right h hp⟩
 have h2 : a * (2 ^ k : Nat)=b * (2 ^ k : Nat) ↔ a=b:=⟨fun h=>Int.eq_of_mul_eq_mul_right (by omega) h,fun h=>by rw [h]⟩
 simp only [compare,compareOfLessAndEq,h1,h2]
theorem order_numbers (s t : Bool) (m n a c : Nat) :
  (Datum.number s m (-1074 + (a : Int))).order (.number t n (-1074 + (c : Int)))=some (compare ((if s then -1 else 1) * ((m * 2 ^ a : Nat) : Int)) ((if t then -1 else 1) * ((n * 2 ^ c : Nat) : Int))):=by
 unfold Datum.order
 simp only [signed_eq]
 congr 1
 have e1 : a=(-1074 + (a : Int) - min (-1074 + (a : Int)) (-1074 + (c : Int))).toNat + min a c:=by omega
 have e2 : c=(-1074 + (c : Int) - min (-1074 + (a : Int)) (-1074 + (c : Int))).toNat + min a c:=by omega
 generalize (-1074 + (a : Int) - min (-1074 + (a : Int)) (-1074 + (c : Int))).toNat=p at *
 generalize (-1074 + (c : Int) - min (-1074 + (a : Int)) (-1074 + (c : Int))).toNat=q at *
 generalize min a c=k at *
 subst e1 e2
 have hx : ∀ (x : Int) (u : Nat),x * ((u * 2 ^ k : Nat) : Int)=x * (u : Int) * ((2 ^ k : Nat) : Int):=fun x u=>by rw [Int.natCast_mul,Int.mul_assoc]
 rw [Nat.pow_add,Nat.pow_add,← Nat.mul_assoc,← Nat.mul_assoc,hx _ (m * 2 ^ p),hx _ (n * 2 ^ q),compare_scale]
theorem sv_eq (b : Nat) : (if neg b then -1 else 1) * ((magOf (rung b) * 2 ^ upOf (rung b) : Nat) : Int)=sv b:=by
 rw [← val_eq];unfold sv;cases neg b <;> simp
theorem cmp_lt {a b : Int} (h : a < b) : compare a b = .lt:=by simp only [compare,compareOfLessAndEq,if_pos h]
theorem cmp_gt {a b : Int} (h : b < a) : compare a b = .gt:=by simp only [compare,compareOfLessAndEq];rw [if_neg (by omega),if_neg (by omega)]
theorem rung_lt (b : Nat) : rung b < 9223372036854775808:=Nat.mod_lt _ (by decide)
theorem order_eq (x y : Nat) (hx : x < W) (hy : y < W) : double.order x y=if nan x || nan y then none else some (compare (sk x) (sk y)):=by
 unfold Format.order
 cases hnx : nan x
 ·cases hny : nan y
  ·have h1 : rung x≤9218868437227405312:=by unfold nan at hnx;simpa using hnx
   have h2 : rung y≤9218868437227405312:=by unfold nan at hny;simpa using hny
   simp only [Bool.or_self,Bool.false_eq_true,if_false]
   rcases Nat.lt_or_eq_of_le h1 with h1 | h1
   ·rw [read_number x hx h1]
    rcases Nat.lt_or_eq_of_le h2 with h2 | h2
    ·rw [read_number y hy h2,order_numbers,sv_eq,sv_eq,compare_sv]
    ·rw [read_inf y hy h2]
     have e : compare (sk x) (sk y)=if neg y then .gt else .lt:=by
      unfold sk
      cases neg y <;> cases neg x <;> simp only [Bool.false_eq_true,if_false,if_true] <;> first | exact cmp_lt (by omega) | exact cmp_gt (by omega)
     rw [e];rfl
   ·rw [read_inf x hx h1]
    rcases Nat.lt_or_eq_of_le h2 with h2 | h2
    ·rw [read_number y hy h2]
     have e : compare (sk x) (sk y)=if neg x then .lt else .gt:=by
      unfold sk
      cases neg y <;> cases neg x <;> simp only [Bool.false_eq_true,if_false,if_true] <;> first | exact cmp_lt (by omega) | exact cmp_gt (by omega)
     rw [e];rfl
    ·rw [read_inf y hy h2]
     have e : compare (sk x) (sk y)=compare (neg y).toNat (neg x).toNat:=by
      unfold sk;rw [h1,h2]
      cases neg y <;> cases neg x <;> decide
     rw [e];rfl
  ·obtain ⟨s,t,h⟩:=read_nan y hny
   rw [h]
   cases double.read x <;> rfl
 ·obtain ⟨s,t,h⟩:=read_nan x hnx
  rw [h]
  cases double.read y <;> rfl
theorem log2_eq {k l : Nat} (h1 : 2 ^ l≤k) (h2 : k < 2 ^ (l + 1)) : k.log2=l:=by
 have h0 : k ≠ 0:=by have:=Nat.two_pow_pos l;omega
 have a:=(Nat.le_log2 h0).2 h1
 have b:=(Nat.log2_lt h0).2 h2
 omega
theorem log2_lo {k : Nat} (h : 0 < k) : 2 ^ k.log2≤k:=(Nat.le_log2 (by omega)).1 (Nat.le_refl _)
theorem log2_hi (k : Nat) : k < 2 ^ (k.log2 + 1):=Nat.lt_log2_self
theorem log2_mul (k t : Nat) (h : 0 < k) : (k * 2 ^ t).log2=k.log2 + t:=by
 refine log2_eq ?_ ?_
 ·rw [Nat.pow_add];exact Nat.mul_le_mul_right _ (log2_lo h)
 ·rw [show k.log2 + t + 1=(k.log2 + 1) + t from by omega,Nat.pow_add];exact Nat.mul_lt_mul_of_pos_right (log2_hi k) (Nat.two_pow_pos t)
theorem log2_lt53 {k : Nat} (h : 0 < k) (h2 : k < 2 ^ 53) : k.log2≤52:=by
 have:=(Nat.log2_lt (by omega : k ≠ 0)).2 h2;omega
theorem cut_whole (neg : Bool) (n : Nat) : Toward.even.cut neg n 0=n:=by
 have h1 : n % 1=0:=Nat.mod_one n
 unfold Toward.cut
 simp [Nat.shiftLeft_eq,h1]
theorem cut_exact (neg : Bool) (k d : Nat) (h : 0 < k) : Toward.even.cut neg (k * 2 ^ d) d=k:=by
 have hp:=Nat.two_pow_pos d
 have h1 : min d ((k * 2 ^ d).log2 + 2)=d:=by rw [log2_mul k d h];omega
 have h2 : (k * 2 ^ d) / 2 ^ d=k:=Nat.mul_div_cancel _ hp
 have h3 : (k * 2 ^ d) % 2 ^ d=0:=Nat.mul_mod_left _ _
 unfold Toward.cut
 simp only [h1,Nat.shiftLeft_eq,Nat.one_mul,h2,h3]
 simp
def rungOf (k : Nat) (e : Int) : Nat :=
 if (k.log2 : Int) + e ≤ -1022 then k * 2 ^ (e + 1074).toNat else ((k.log2 : Int) + e + 1022).toNat * 4503599627370496 + k * 2 ^ (52 - k.log2)
def word (n : Bool) (r : Nat) : Nat:=if n then 9223372036854775808 + r else r
theorem word_eq (n : Bool) (r : Nat) : double.word n r=word n r:=rfl
theorem norm_lo {k : Nat} (h : 0 < k) (h2 : k < 2 ^ 53) : 4503599627370496≤k * 2 ^ (52 - k.log2)∧k * 2 ^ (52 - k.log2) < 9007199254740992:=by
 have hl:=log2_lt53 h h2
 have hp:=Nat.two_pow_pos (52 - k.log2)
 constructor
 ·calc 4503599627370496=2 ^ k.log2 * 2 ^ (52 - k.log2):=by rw [← Nat.pow_add,show k.log2 + (52 - k.log2)=52 from by omega]
   _≤_:=Nat.mul_le_mul_right _ (log2_lo h)
 ·calc k * 2 ^ (52 - k.log2) < 2 ^ (k.log2 + 1) * 2 ^ (52 - k.log2):=Nat.mul_lt_mul_of_pos_right (log2_hi k) hp
   _=9007199254740992:=by rw [← Nat.pow_add,show k.log2 + 1 + (52 - k.log2)=53 from by omega]
theorem rungOf_lt {k : Nat} {e : Int} (h : 0 < k) (h2 : k < 2 ^ 53) (hi : (k.log2 : Int) + e≤1023) : 0 < rungOf k e∧rungOf k e < 9218868437227405312:=by
 have hl:=log2_lt53 h h2
 have hn:=norm_lo h h2
 unfold rungOf
 split
 ·have hp:=Nat.two_pow_pos (e + 1074).toNat
  refine ⟨Nat.mul_pos h hp,?_⟩
  have : k * 2 ^ (e + 1074).toNat < 2 ^ (k.log2 + 1) * 2 ^ (e + 1074).toNat:=Nat.mul_lt_mul_of_pos_right (log2_hi k) hp
  rw [← Nat.pow_add] at this
  have h3 : 2 ^ (k.log2 + 1 + (e + 1074).toNat)≤2 ^ 53:=Nat.pow_le_pow_right (by omega) (by omega)
  omega
 ·omega
theorem nearest_exact (n : Bool) (k t : Nat) (p : Int) (h : 0 < k) (h2 : k < 2 ^ 53) (lo : -1074≤p + t) (hi : (k.log2 : Int) + (p + t)≤1023) :
  double.nearest n (k * 2 ^ t) p=word n (rungOf k (p + t)):=by
 have hl:=log2_lt53 h h2
 have hr:=(rungOf_lt h h2 hi).2
 have h0 : k * 2 ^ t ≠ 0:=by have:=Nat.mul_pos h (Nat.two_pow_pos t);omega
 unfold Format.nearest
 rw [if_neg h0]
 simp only [show double.fractionBits=52 from rfl,show double.leastPlace = -1074 from rfl,show double.binade=4503599627370496 from rfl,show double.infRung=9218868437227405312 from rfl,log2_mul k t h,word_eq]
 congr 1
 unfold rungOf at hr ⊢
 by_cases c : (k.log2 : Int) + (p + t) ≤ -1022
 ·rw [if_pos c] at hr ⊢
  have hm : max (p + ((k.log2 + t : Nat) : Int) - (52 : Nat)) (-1074) = -1074:=by omega
  rw [hm]
  have e : Toward.even.cut n ((k * 2 ^ t) <<< (p - -1074).toNat) (-1074 - p).toNat=k * 2 ^ (p + t + 1074).toNat:=by
   rw [Nat.shiftLeft_eq]
   by_cases hp : -1074≤p
   ·rw [show (-1074 - p).toNat=0 from by omega,cut_whole,Nat.mul_assoc,← Nat.pow_add,show t + (p - -1074).toNat=(p + t + 1074).toNat from by omega]
   ·rw [show (p - -1074).toNat=0 from by omega,Nat.pow_zero,Nat.mul_one,show t=(p + t + 1074).toNat + (-1074 - p).toNat from by omega,Nat.pow_add,← Nat.mul_assoc,cut_exact _ _ _ (Nat.mul_pos h (Nat.two_pow_pos _))]
    congr 2;omega
  rw [e]
  have : ((-1074 : Int) - -1074).toNat * 4503599627370496 + k * 2 ^ (p + t + 1074).toNat=k * 2 ^ (p + t + 1074).toNat:=by simp
  rw [this];omega
 ·rw [if_neg c] at hr ⊢
  have hm : max (p + ((k.log2 + t : Nat) : Int) - (52 : Nat)) (-1074)=p + ((k.log2 + t : Nat) : Int) - 52:=by omega
  rw [hm]
  have e : Toward.even.cut n ((k * 2 ^ t) <<< (p - (p + ((k.log2 + t : Nat) : Int) - 52)).toNat) (p + ((k.log2 + t : Nat) : Int) - 52 - p).toNat=k * 2 ^ (52 - k.log2):=by
   rw [Nat.shiftLeft_eq]
   by_cases hp : k.log2 + t≤52
   ·rw [show (p + ((k.log2 + t : Nat) : Int) - 52 - p).toNat=0 from by omega,cut_whole,Nat.mul_assoc,← Nat.pow_add,show t + (p - (p + ((k.log2 + t : Nat) : Int) - 52)).toNat=52 - k.log2 from by omega]
   ·rw [show (p - (p + ((k.log2 + t : Nat) : Int) - 52)).toNat=0 from by omega,Nat.pow_zero,Nat.mul_one]
    have ed : (p + ((k.log2 + t : Nat) : Int) - 52 - p).toNat=k.log2 + t - 52:=by omega
    rw [ed]
    have et : k * 2 ^ t=k * 2 ^ (52 - k.log2) * 2 ^ (k.log2 + t - 52):=by rw [Nat.mul_assoc,← Nat.pow_add];congr 2;omega
    rw [et,cut_exact _ _ _ (Nat.mul_pos h (Nat.two_pow_pos _))]
  rw [e,show (p + ((k.log2 + t : Nat) : Int) - 52 - -1074).toNat=((k.log2 : Int) + (p + t) + 1022).toNat from by omega]
  omega
theorem ofInt_eq (n : Int) (h : n ≠ 0) (h2 : n.natAbs < 2 ^ 53) : FloatKind.f64.nearest n=word (decide (n < 0)) (rungOf n.natAbs 0):=by
 have hk : 0 < n.natAbs:=by omega
 have hl:=log2_lt53 hk h2
 have:=nearest_exact (decide (n < 0)) n.natAbs 0 0 hk h2 (by simp) (by simp;omega)
 simp at this
 exact this
theorem rung_word (n : Bool) {r : Nat} (h : r < 9223372036854775808) : rung (word n r)=r∧neg (word n r)=n∧word n r < W:=by
 unfold rung neg word W
 cases n <;> simp <;> omega
theorem mag_norm {r : Nat} (h : 4503599627370496≤r) : magOf r=4503599627370496 + r % 4503599627370496∧upOf r=r / 4503599627370496 - 1:=by
 unfold magOf upOf;rw [if_neg (by omega),if_neg (by omega)];exact ⟨rfl,rfl⟩
theorem mul_word (n m : Bool) (r s : Nat) (hr : r < 9218868437227405312) (hs : s < 9218868437227405312) :
  double.mul (word n r) (word m s)=some (double.nearest (n ^^ m) (magOf r * magOf s) (-1074 + (upOf r : Int) + (-1074 + (upOf s : Int)))):=by
 obtain ⟨a1,a2,a3⟩:=rung_word n (r:=r) (by omega)
 obtain ⟨b1,b2,b3⟩:=rung_word m (r:=s) (by omega)
 unfold Format.mul
 rw [read_number _ a3 (by rw [a1];exact hr),read_number _ b3 (by rw [b1];exact hs),a1,a2,b1,b2]
 rfl
def tz (m : Nat) : Nat:=if h : m=0 ∨ m % 2=1 then 0 else tz (m / 2) + 1
termination_by m
decreasing_by omega
def od (m : Nat) : Nat:=m / 2 ^ tz m
theorem tz_odd {k : Nat} (h : k % 2=1) : tz k=0:=by rw [tz,dif_pos (Or.inr h)]
theorem tz_two {k : Nat} (h : 0 < k) : tz (2 * k)=tz k + 1:=by
 rw [tz,dif_neg (by omega),show 2 * k / 2=k from by omega]
theorem tz_mul {k : Nat} (h : 0 < k) (t : Nat) : tz (k * 2 ^ t)=tz k + t:=by
 induction t with
 | zero=>simp
 | succ t ih=>rw [Nat.pow_succ,Nat.mul_comm (2 ^ t) 2,← Nat.mul_assoc,Nat.mul_comm k 2,Nat.mul_assoc,tz_two (Nat.mul_pos h (Nat.two_pow_pos t)),ih];omega
theorem od_mul {k : Nat} (h : 0 < k) (t : Nat) : od (k * 2 ^ t)=od k:=by
 unfold od;rw [tz_mul h,Nat.pow_add,Nat.mul_div_mul_right _ _ (Nat.two_pow_pos t)]
theorem od_odd {k : Nat} (h : k % 2=1) : od k=k:=by unfold od;rw [tz_odd h];simp
theorem od_spec : ∀ (n m : Nat),m≤n → 0 < m → od m % 2=1∧m=od m * 2 ^ tz m
 | 0,m,h,h0=>by omega
 | n + 1,m,h,h0=>by
  by_cases ho : m % 2=1
  ·rw [od_odd ho,tz_odd ho];simp [ho]
  ·obtain ⟨k,rfl⟩ : ∃ k,m=2 * k:=⟨m / 2,by omega⟩
   have hk : 0 < k:=by omega
   obtain ⟨i1,i2⟩:=od_spec n k (by omega) hk
   have e1:=od_mul hk 1
   rw [show k * 2 ^ 1=2 * k from by omega] at e1
   rw [e1,tz_two hk,Nat.pow_succ]
   refine ⟨i1,?_⟩
   rw [← Nat.mul_assoc,← i2];omega
theorem od_pos {m : Nat} (h : 0 < m) : 0 < od m:=by have:=(od_spec m m (Nat.le_refl _) h).1;omega
theorem od_le (m : Nat) : od m≤m:=Nat.div_le_self _ _
def kOf (r : Nat) : Nat:=od (val r)
def eOf (r : Nat) : Int := -1074 + (tz (val r) : Int)
theorem magOf_lt (r : Nat) : magOf r < 2 ^ 53:=by unfold magOf;split <;> omega
theorem magOf_pos {r : Nat} (h : 0 < r) : 0 < magOf r:=by unfold magOf;split <;> omega
theorem rungOf_self {r : Nat} (h : 0 < r) : rungOf (magOf r) (-1074 + (upOf r : Int))=r:=by
 unfold rungOf magOf upOf
 by_cases c : r < 4503599627370496
 ·have hl : r.log2 < 52:=(Nat.log2_lt (by omega)).2 (by omega)
  simp only [if_pos c]
  rw [if_pos (by omega)];simp
 ·simp only [if_neg c]
  have hl : (4503599627370496 + r % 4503599627370496).log2=52:=log2_eq (by omega) (by omega)
  rw [hl]
  split
  ·rename_i c2
   rw [show (-1074 + ((r / 4503599627370496 - 1 : Nat) : Int) + 1074).toNat=r / 4503599627370496 - 1 from by omega]
   rw [show r / 4503599627370496 - 1=0 from by omega];omega
  ·simp only [Nat.sub_self,Nat.pow_zero,Nat.mul_one]
   omega
theorem kOf_eq {r : Nat} (h : 0 < r) : kOf r=od (magOf r)∧eOf r = -1074 + (upOf r : Int) + (tz (magOf r) : Int):=by
 have hm:=magOf_pos h
 unfold kOf eOf
 rw [val_eq,od_mul hm,tz_mul hm]
 omega
theorem kOf_spec {r : Nat} (h : 0 < r) (hi : r < 9218868437227405312) : kOf r % 2=1∧kOf r < 2 ^ 53 ∧ -1074≤eOf r∧((kOf r).log2 : Int) + eOf r≤1023∧rungOf (kOf r) (eOf r)=r:=by
 have hm:=magOf_pos h
 have hm2:=magOf_lt r
 obtain ⟨e1,e2⟩:=kOf_eq h
 obtain ⟨s1,s2⟩:=od_spec (magOf r) (magOf r) (Nat.le_refl _) hm
 have hle:=od_le (magOf r)
 have hp:=od_pos hm
 have hL : (magOf r).log2=(od (magOf r)).log2 + tz (magOf r):=by rw [s2,od_mul hp,od_odd s1,tz_mul hp,tz_odd s1,log2_mul _ _ hp];omega
 have hl:=log2_lt53 hm hm2
 have self:=rungOf_self h
 have hu : upOf r≤2045:=by unfold upOf;split <;> omega
 rw [e1,e2]
 refine ⟨s1,by omega,by omega,?_,?_⟩
 ·by_cases c : r < 4503599627370496
  ·have : upOf r=0:=by unfold upOf;rw [if_pos c]
   omega
  ·omega
 ·refine Eq.trans ?_ self
  clear self
  generalize magOf r=m at *
  generalize upOf r=u at *
  unfold rungOf
  have c : ((od m).log2 : Int) + (-1074 + (u : Int) + (tz m : Int))=(m.log2 : Int) + (-1074 + (u : Int)):=by omega
  rw [c]
  split
  ·conv=>rhs;rw [s2]
   rw [Nat.mul_assoc,← Nat.pow_add];congr 2;omega
  ·congr 1
   conv=>rhs;rw [s2]
   rw [Nat.mul_assoc,← Nat.pow_add];congr 2
   rw [← s2];omega
theorem pow_field (q : Nat) (h : 1≤q) : magOf (q * 4503599627370496)=4503599627370496∧upOf (q * 4503599627370496)=q - 1:=by
 unfold magOf upOf;rw [if_neg (by omega),if_neg (by omega)];omega
theorem mul_pow (n : Bool) (q r : Nat) (h1 : 1≤q) (h2 : q≤2046) (h0 : 0 < r) (hr : r < 9218868437227405312)
  (lo : -1074 ≤ -1074 + (upOf r : Int) + (q - 1023)) (hi : ((magOf r).log2 : Int) + (-1074 + (upOf r : Int) + (q - 1023))≤1023) :
  double.mul (word n r) (q * 4503599627370496)=some (word n (rungOf (magOf r) (-1074 + (upOf r : Int) + (q - 1023)))) ∧
  double.mul (q * 4503599627370496) (word n r)=some (word n (rungOf (magOf r) (-1074 + (upOf r : Int) + (q - 1023)))):=by
 obtain ⟨p1,p2⟩:=pow_field q h1
 have hs : q * 4503599627370496 < 9218868437227405312:=by omega
 have e:=nearest_exact n (magOf r) 52 (-1074 + (upOf r : Int) + (q - 1075)) (magOf_pos h0) (magOf_lt r) (by omega) (by omega)
 rw [show -1074 + (upOf r : Int) + (q - 1075) + ((52 : Nat) : Int) = -1074 + (upOf r : Int) + (q - 1023) from by omega] at e
 have w0 : q * 4503599627370496=word false (q * 4503599627370496):=rfl
 constructor
 ·rw [w0,mul_word n false r _ hr hs,p1,p2,Bool.xor_false,← e,show (4503599627370496 : Nat)=2 ^ 52 from rfl]
  congr 2;omega
 ·rw [w0,mul_word false n _ r hs hr,p1,p2,Bool.false_xor,← e,show (4503599627370496 : Nat)=2 ^ 52 from rfl,Nat.mul_comm]
  congr 2;omega
def nrm (r : Nat) : Nat:=if r < 4503599627370496 then r.log2 * 4503599627370496 + r * 2 ^ (52 - r.log2) else r
theorem nrm_lo {r : Nat} (h : 0 < r) (hi : r < 9218868437227405312) : 4503599627370496≤nrm r∧nrm r < 9218868437227405312:=by
 unfold nrm
 split
 ·have:=norm_lo h (by omega)
  have hl : r.log2 < 52:=(Nat.log2_lt (by omega)).2 (by omega)
  omega
 ·omega
theorem mul_nrm (n : Bool) {r : Nat} (h : 0 < r) (c : r < 4503599627370496) : double.mul (word n r) 4841369599423283200=some (word n (nrm r)):=by
 have e:=(mul_pow n 1075 r (by omega) (by omega) h (by omega) (by omega) (by
  have : (magOf r).log2≤52:=log2_lt53 (magOf_pos h) (magOf_lt r)
  have : upOf r=0:=by unfold upOf;rw [if_pos c]
  omega)).1
 have hu : upOf r=0:=by unfold upOf;rw [if_pos c]
 have hm : magOf r=r:=by unfold magOf;rw [if_pos c]
 have hl : r.log2 < 52:=(Nat.log2_lt (by omega)).2 (by omega)
 rw [hu,hm] at e
 rw [show (1075 : Nat) * 4503599627370496=4841369599423283200 from rfl] at e
 rw [e]
 congr 2
 unfold rungOf nrm
 rw [if_pos c]
 split
 ·rename_i c2
  have h1 : r=1:=by
   have:=log2_hi r
   rw [show r.log2=0 from by omega] at this;omega
  subst h1;decide
 ·congr 2;omega
theorem mul_one (n : Bool) {r : Nat} (h : 4503599627370496≤r) (hi : r < 9218868437227405312) : double.mul 4607182418800017408 (word n r)=some (word n r):=by
 have hu : upOf r≤2045:=by unfold upOf;split <;> omega
 have e:=(mul_pow n 1023 r (by omega) (by omega) (by omega) hi (by omega) (by
  have : (magOf r).log2≤52:=log2_lt53 (magOf_pos (by omega)) (magOf_lt r)
  omega)).2
 rw [show (1023 : Nat) * 4503599627370496=4607182418800017408 from rfl] at e
 rw [e,show -1074 + (upOf r : Int) + (((1023 : Nat) : Int) - 1023) = -1074 + (upOf r : Int) from by omega,rungOf_self (by omega)]
def deno (n : Bool) (r : Nat) : Nat:=double.nearest n (4503599627370496 * magOf r) (-105 + (-1074 + (upOf r : Int)))
theorem mul_deno (n : Bool) {r : Nat} (hi : r < 9218868437227405312) : double.mul 4368491638549381120 (word n r)=some (deno n r)∧deno n r < W:=by
 have w0 : (4368491638549381120 : Nat)=word false 4368491638549381120:=rfl
 constructor
 ·rw [w0,mul_word false n _ r (by decide) hi,Bool.false_xor]
  rfl
 ·exact double.nearest_lt n _ _
def ldE (r : Nat) (e : Int) : Int:=(r / 4503599627370496 : Nat) - 1023 + e
def ldx (n : Bool) (r : Nat) (e : Int) : Nat :=
 if ldE r e < -1075 then word n 0 else if 1023 < ldE r e then word n 9218868437227405312
 else if ldE r e < -1022 then deno n ((ldE r e + 1076).toNat * 4503599627370496 + r % 4503599627370496)
 else word n ((ldE r e + 1023).toNat * 4503599627370496 + r % 4503599627370496)
theorem rung0 {k : Nat} (h : 0 < k) (h2 : k < 2 ^ 53) : rungOf k 0 / 4503599627370496=k.log2 + 1023∧rungOf k 0 % 4503599627370496=k * 2 ^ (52 - k.log2) - 4503599627370496∧4503599627370496≤rungOf k 0:=by
 have hn:=norm_lo h h2
 unfold rungOf
 rw [if_neg (by omega)]
 omega
theorem ldx_exact (n : Bool) {k : Nat} {e : Int} (h : 0 < k) (h2 : k < 2 ^ 53) (lo : -1074≤e) (hi : (k.log2 : Int) + e≤1023) : ldx n (rungOf k 0) e=word n (rungOf k e):=by
 obtain ⟨r1,r2,r3⟩:=rung0 h h2
 have hl:=log2_lt53 h h2
 have hn:=norm_lo h h2
 unfold ldx ldE
 rw [r1,r2]
 rw [if_neg (by omega),if_neg (by omega)]
 split
 ·rename_i c
  have e1 : (((k.log2 + 1023 : Nat) : Int) - 1023 + e + 1076).toNat * 4503599627370496 + (k * 2 ^ (52 - k.log2) - 4503599627370496) ≥ 4503599627370496:=by omega
  unfold deno
  rw [(mag_norm e1).1,(mag_norm e1).2]
  have e2 : 4503599627370496 + ((((k.log2 + 1023 : Nat) : Int) - 1023 + e + 1076).toNat * 4503599627370496 + (k * 2 ^ (52 - k.log2) - 4503599627370496)) % 4503599627370496=k * 2 ^ (52 - k.log2):=by omega
  have e3 : ((((k.log2 + 1023 : Nat) : Int) - 1023 + e + 1076).toNat * 4503599627370496 + (k * 2 ^ (52 - k.log2) - 4503599627370496)) / 4503599627370496 - 1=((k.log2 : Int) + e + 1075).toNat:=by omega
  rw [e2,e3]
  have e4 : 4503599627370496 * (k * 2 ^ (52 - k.log2))=k * 2 ^ (104 - k.log2):=by
   rw [show (4503599627370496 : Nat)=2 ^ 52 from rfl,Nat.mul_comm,Nat.mul_assoc,← Nat.pow_add,show 52 - k.log2 + 52=104 - k.log2 from by omega]
  rw [e4,nearest_exact n k (104 - k.log2) _ h h2 (by omega) (by omega)]
  exact congrArg (fun x=>word n (rungOf k x)) (by omega)
 ·rename_i c
  refine congrArg (word n) ?_
  unfold rungOf
  split
  ·rename_i c2
   rw [show (e + 1074).toNat=52 - k.log2 from by omega];omega
  ·omega
theorem ldx_53 (n : Bool) (f : Nat) (hf : f < 4503599627370496) : ldx n (4602678819172646912 + f) 53=word n (4841369599423283200 + f):=by
 unfold ldx ldE
 rw [show (4602678819172646912 + f) / 4503599627370496=1022 from by omega,show (4602678819172646912 + f) % 4503599627370496=f from by omega]
 simp
theorem toInt_word (n : Bool) (f : Nat) (hf : f < 4503599627370496) : floatToIntVal .f64 (word n (4841369599423283200 + f)) .i64=some ((if n then -1 else 1) * ((4503599627370496 + f : Nat) : Int)):=by
 obtain ⟨a1,a2,a3⟩:=rung_word n (r:=4841369599423283200 + f) (by omega)
 unfold floatToIntVal
 have e : FloatKind.f64.decode (word n (4841369599423283200 + f)) = .number n (4503599627370496 + f) 0:=by
  show double.read _=_
  rw [read_number _ a3 (by rw [a1];omega),a1,a2,(mag_norm (by omega)).1,(mag_norm (by omega)).2]
  rw [show (4841369599423283200 + f) % 4503599627370496=f from by omega,show (4841369599423283200 + f) / 4503599627370496 - 1=1074 from by omega]
  rfl
 rw [e]
 have e2 : (Datum.number n (4503599627370496 + f) 0).toInt .zero=some ((if n then -1 else 1) * ((4503599627370496 + f : Nat) : Int)):=by
  unfold Datum.toInt Datum.integral
  have : Toward.zero.cut n ((4503599627370496 + f) <<< (0 : Int).toNat) (-(0 : Int)).toNat=4503599627370496 + f:=by
   unfold Toward.cut
   simp [Nat.shiftLeft_eq]
  simp only [this,signed_eq]
  simp
 rw [e2]
 simp only
 rw [if_pos]
 cases n <;> simp [IntKind.min,IntKind.max,IntKind.signed,IntKind.bits] <;> omega
def fOf (r : Nat) : Nat:=nrm r % 4503599627370496
def xOf (r : Nat) : Int:=(nrm r / 4503599627370496 : Nat) - 1022 - (if r < 4503599627370496 then 52 else 0)
theorem fOf_lt (r : Nat) : fOf r < 4503599627370496:=Nat.mod_lt _ (by decide)
theorem fx_spec {r : Nat} (h : 0 < r) : od (4503599627370496 + fOf r)=kOf r∧xOf r - 53 + (tz (4503599627370496 + fOf r) : Int)=eOf r:=by
 obtain ⟨e1,e2⟩:=kOf_eq h
 rw [e1,e2]
 unfold fOf xOf nrm
 by_cases c : r < 4503599627370496
 ·have hn:=norm_lo h (by omega)
  have hl : r.log2 < 52:=(Nat.log2_lt (by omega)).2 (by omega)
  have hu : upOf r=0:=by unfold upOf;rw [if_pos c]
  have hm : magOf r=r:=by unfold magOf;rw [if_pos c]
  simp only [if_pos c]
  rw [hu,hm]
  have e3 : 4503599627370496 + (r.log2 * 4503599627370496 + r * 2 ^ (52 - r.log2)) % 4503599627370496=r * 2 ^ (52 - r.log2):=by omega
  rw [e3,od_mul h,tz_mul h]
  refine ⟨rfl,?_⟩
  omega
 ·simp only [if_neg c]
  obtain ⟨m1,m2⟩:=mag_norm (r:=r) (by omega)
  rw [m1,m2]
  refine ⟨rfl,?_⟩
  omega
theorem compare_cases (a b : Int) : compare a b=if a < b then .lt else if b < a then .gt else .eq:=by
 by_cases h : a < b
 ·rw [if_pos h];exact cmp_lt h
 ·rw [if_neg h]
  by_cases h2 : b < a
  ·rw [if_pos h2];exact cmp_gt h2
  ·rw [if_neg h2]
   obtain rfl : a=b:=by omega
   simp [compare,compareOfLessAndEq]
theorem ord_ne (x y : Nat) (hx : x < W) (hy : y < W) : (FloatKind.f64.format.order x y != some .eq)=(nan x || nan y || decide (sk x ≠ sk y)):=by
 show (double.order x y != some .eq)=_
 rw [order_eq x y hx hy,compare_cases]
 cases nan x <;> cases nan y <;> simp only [Bool.or_true,Bool.or_false,Bool.true_or,Bool.false_or,if_true,Bool.false_eq_true,if_false]
 ·by_cases h : sk x < sk y
  ·rw [if_pos h,decide_eq_true (by omega)];rfl
  ·rw [if_neg h]
   by_cases h2 : sk y < sk x
   ·rw [if_pos h2,decide_eq_true (by omega)];rfl
   ·rw [if_neg h2,decide_eq_false (by omega)];rfl
 all_goals rfl
theorem ord_eq (x y : Nat) (hx : x < W) (hy : y < W) : (FloatKind.f64.format.order x y == some .eq)=(!nan x && !nan y && decide (sk x=sk y)):=by
 have h:=ord_ne x y hx hy
 rw [bne] at h
 rw [← Bool.not_not (FloatKind.f64.format.order x y == some .eq),h]
 cases nan x <;> cases nan y <;> simp
theorem ord_lt (x y : Nat) (hx : x < W) (hy : y < W) : (FloatKind.f64.format.order x y == some .lt)=(!nan x && !nan y && decide (sk x < sk y)):=by
 show (double.order x y == some .lt)=_
 rw [order_eq x y hx hy,compare_cases]
 cases nan x <;> cases nan y <;> simp only [Bool.or_true,Bool.or_false,if_true,Bool.false_eq_true,if_false,Bool.not_false,Bool.not_true,Bool.true_and,Bool.false_and]
 ·by_cases h : sk x < sk y
  ·rw [if_pos h,decide_eq_true h];rfl
  ·rw [if_neg h,decide_eq_false h]
   split <;> rfl
 all_goals rfl
theorem ord_gt (x y : Nat) (hx : x < W) (hy : y < W) : (FloatKind.f64.format.order x y == some .gt)=(!nan x && !nan y && decide (sk y < sk x)):=by
 show (double.order x y == some .gt)=_
 rw [order_eq x y hx hy,compare_cases]
 cases nan x <;> cases nan y <;> simp only [Bool.or_true,Bool.or_false,if_true,Bool.false_eq_true,if_false,Bool.not_false,Bool.not_true,Bool.true_and,Bool.false_and]
 ·by_cases h : sk x < sk y
  ·rw [if_pos h,decide_eq_false (by omega)];rfl
  ·rw [if_neg h]
   by_cases h2 : sk y < sk x
   ·rw [if_pos h2,decide_eq_true h2];rfl
   ·rw [if_neg h2,decide_eq_false h2];rfl
 all_goals rfl
theorem ord_self (x : Nat) (hx : x < W) : (FloatKind.f64.format.order x x != some .eq)=nan x:=by
 rw [ord_ne x x hx hx];cases nan x <;> simp
end Go.Proofs.YtkplahkkmmoppaaGreatDoor.Wm
