/- Part 29 of what the laws lean on. -/
import Derived.Test.YtpfkphmldalmmaaGreatDoorL28
set_option maxRecDepth 100000
set_option maxHeartbeats 6400000
namespace Go.Proofs.YtpfkphmldalmmaaGreatDoor
section
open Go.RowKit
namespace Wm
theorem fracB (n:Bool)(r:Nat)(h:r<9223372036854775808):bits .and .u64 (word n r:Nat) 4503599627370495=((r % 4503599627370496:Nat):Int):=by
 have h1:=u64_and_nat (word n r) 4503599627370495 (bc n h).2.2 (by decide)
 refine h1.trans ?_
 rw[show (4503599627370495:Nat)=2 ^ 52-1 from rfl,Nat.and_two_pow_sub_one_eq_mod]
 congr 1
 unfold word;cases n <;> simp <;> omega
theorem topB (f:Nat)(hf:f<4503599627370496):bits .or .u64 (f:Int) 4503599627370496=((4503599627370496+f:Nat):Int):=by
 have:=setB false 1 f (by decide) hf
 exact this
theorem sgnShift (n:Bool)(r:Nat)(h:r<9223372036854775808):((word n r:Int) / 9223372036854775808==1)=n:=by
 unfold word
 cases n <;> rw[Bool.eq_iff_iff] <;> simp <;> omega
end Wm
theorem ud (n:Int)(h1:-5000<=n)(h2:n<=5000)(w:World) :
  Calls Tryz.prog 92 #[.int .i64 n] w fun e w'=>e=.returned (.string ⟨(Lib.itoa n).toArray⟩)/\Below w.heap.size w w':=by
 have hl:=Lib.nDigits_le20 n.natAbs (by omega)
 rw[<-Lib.decDigits_length] at hl
 by_cases hn:n<0
 ·obtain⟨k,rfl⟩:∃ k:Nat,n = -(k:Int):=⟨n.natAbs,by omega⟩
  have HV:Hid (Lib.itoa (-(k:Int))=45 :: Lib.decDigits k):=by show _=_;unfold Lib.itoa;rw[if_pos hn];congr 2;omega
  rw[show (-(k:Int)).natAbs=k from by omega] at hl
  go_enter Tryz.func92,Tryz.ntmps92
  go_wp2_with fail
  rw[show -(-(k:Int)+1)+1=(k:Int) from by omega]
  refine (eK k (by omega) _).mono ?_
  rintro _ w1 ⟨rfl,hb⟩
  have HD:=zh hb
  clear hb
  go_wp2_with fail
  go_ret
  refine⟨?_,HD.out⟩
  rw[HV.out]
  show Ending.returned (.string (ByteArray.mk ([45]:List UInt8).toArray++ByteArray.mk (Lib.decDigits k).toArray))=_
  rw[ByteArray.mk_append_mk];rfl
 ·obtain⟨k,rfl⟩:∃ k:Nat,n=(k:Int):=⟨n.natAbs,by omega⟩
  have HV:Hid (Lib.itoa (k:Int)=Lib.decDigits k):=by show _=_;unfold Lib.itoa;rw[if_neg hn];rfl
  go_enter Tryz.func92,Tryz.ntmps92
  go_wp2_with fail
  refine (eK k (by omega) _).mono ?_
  rintro _ w1 ⟨rfl,hb⟩
  go_wp2_with fail
  go_ret
  exact⟨by rw[HV.out];rfl,hb⟩
def sgnTxt (n:Bool):List UInt8:=if n then [45] else []
theorem aav (n:Bool){r:Nat}(h:Fin r):Wm.textW (Wm.word n r)=sgnTxt n++(Lib.decDigits (Wm.kOf r)++112 :: Lib.itoa (Wm.eOf r)):=by
 rw[ic n h]
 unfold Wm.textF Lib.itoa Wm.sg sgnTxt
 have hk:=(Wm.eT h.1 h.2).1
 cases n
 ·rw[if_neg (by first | (simp;done) | (simp;omega))]
  simp
 ·rw[if_pos (by first | (simp;done) | (simp;omega))]
  simp
def OddSt (r m:Nat) (e:Int):Prop:=0<m/\m<9007199254740992/\Wm.od m=Wm.kOf r/\e+(Wm.tz m:Int)=Wm.eOf r
theorem vM {r:Nat}(h:0<r):OddSt r (Wm.magOf r) (-1074+(Wm.upOf r:Int)):=by
 obtain⟨e1,e2⟩:=Wm.tE h
 exact⟨Wm.cI h,Wm.dU r,e1.symm,e2.symm⟩
theorem oV {r m:Nat}{e:Int}(h:OddSt r m e)(h2:m % 2=0):OddSt r (m / 2) (e+1):=by
 obtain⟨h0,h1,h3,h4⟩:=h
 have hk:0<m / 2:=by omega
 have e1:=Wm.kY hk 1
 have e2:=Wm.gD hk 1
 rw[show m / 2*2 ^ 1=m from by omega] at e1 e2
 exact⟨hk,by omega,by rw[<-h3,e1],by omega⟩
theorem qO {r m:Nat}{e:Int}(h:OddSt r m e)(h2:m % 2=1):m=Wm.kOf r/\e=Wm.eOf r:=by
 obtain⟨h0,h1,h3,h4⟩:=h
 rw[Wm.tD h2] at h3
 rw[Wm.iR h2] at h4
 exact⟨h3,by omega⟩
theorem cat4 (n:Bool)(d t:List UInt8):ByteArray.mk (sgnTxt n).toArray++ByteArray.mk d.toArray++ByteArray.mk #[112]++ByteArray.mk t.toArray=ByteArray.mk (sgnTxt n++(d++112 :: t)).toArray:=by
 rw[show (#[112]:Array UInt8)=([112]:List UInt8).toArray from rfl,ByteArray.mk_append_mk,ByteArray.mk_append_mk,ByteArray.mk_append_mk]
 simp
theorem gK {r m:Nat}{e:Int}(h:OddSt r m e)(hr:Fin r):e<=1023/\Wm.eOf r<=1023/\-1074<=Wm.eOf r:=by
 obtain⟨_,_,s3,s4,_⟩:=Wm.eT hr.1 hr.2
 have:=h.2.2.2
 omega
theorem vN (n:Bool)(r:Nat)(h:Fin r)(w:World) :
  Calls Tryz.prog 51 #[.float .f64 (Wm.word n r)] w fun e w'=>e=.returned (.string ⟨(Wm.textW (Wm.word n r)).toArray⟩)/\Below w.heap.size w w':=by
 have HV:=zh (aav n h)
 have h2:=h.2
 have ak:=ch
 have e1:=Wm.sgnShift n r (by omega)
 have e2:=Wm.fracB n r (by omega)
 have e3:=Wm.expB n r (by omega)
 have aa:=zh (vM h.1)
 have HF:=zh h
 have ap:=Wm.cI h.1
 have hq:r / 4503599627370496<2047:=by omega
 have hm:(4503599627370496<=r/\Wm.magOf r=4503599627370496+r % 4503599627370496/\Wm.upOf r=r / 4503599627370496-1)\/(r<4503599627370496/\r / 4503599627370496=0/\r % 4503599627370496=Wm.magOf r/\Wm.upOf r=0):=by
  by_cases c:r<4503599627370496
  ·right;refine⟨c,by omega,?_,?_⟩
   ·unfold Wm.magOf;rw[if_pos c];omega
   ·unfold Wm.upOf;rw[if_pos c]
  ·left;exact⟨by omega,(Wm.dT (by omega)).1,(Wm.dT (by omega)).2⟩
 have hz:((Wm.magOf r:Int)==0)=false:=by rw[beq_eq_false_iff_ne];omega
 have al:=(Wm.eT h.1 h.2).2.1
 have hb:=gK aa.out h
 rcases hm with⟨c,m1,m2⟩ | ⟨c,m0,m1,m2⟩
 ·have e4:=Wm.topB (r % 4503599627370496) (by omega)
  rw[<-m1] at e4
  have am:0<r / 4503599627370496:=by omega
  have ad:(((r / 4503599627370496:Nat):Int)==2047)=false:=by rw[beq_eq_false_iff_ne];omega
  rw[m2] at aa
  rw[show (-1074:Int)+((r / 4503599627370496-1:Nat):Int)=(r / 4503599627370496:Nat)-1075 from by omega] at aa
  clear m1 m2 c h2 h
  generalize r / 4503599627370496=q at *
  generalize r % 4503599627370496=f at *
  generalize Wm.magOf r=m at *
  cases n
  all_goals
   go_enter Tryz.func51,Tryz.ntmps51
   go_wp2_with fail
   clear hq am ad hz e1 e2 e3 e4 ak
   go_loop [5,7] (fun a b=>∃ (x:Nat) (e:Int),a=.int .u64 x/\b=.int .i64 e/\Hid (OddSt r x e)) (fun a _=>(intOf a).toNat)
   case atStart=>exact⟨m,_,rfl,rfl,aa⟩
   case round =>
    clear aa
    obtain⟨x,e,rfl,rfl,HS⟩:=hrel
    have an:=gK HS.out HF.out
    have ae:=HS.out.1
    have af:=HS.out.2.1
    have ag:=HS.out.2.2.2
    have he:-2000<=e:=by have:=Wm.rM ae (show x<2 ^ 53 from af);omega
    clear ag
    by_cases hx:x % 2=0
    ·have h0:((x:Int) % 2==0)=true:=by rw[beq_iff_eq];omega
     have HN:=zh (oV HS.out hx)
     clear HS hx
     go_wp2_with fail
     go_round
     case rel=>exact⟨x / 2,e+1,by go_num,rfl,HN⟩
     case measure=>simp[intOf];omega
    ·have h0:((x:Int) % 2==0)=false:=by rw[beq_eq_false_iff_ne];omega
     have HE:=zh (qO HS.out (by omega))
     clear HS hx
     go_wp2_with fail
     have ah:=Lib.nDigits_le20 x (by omega)
     rw[<-Lib.decDigits_length] at ah
     have ao:=Lib.itoa_length_le e (by omega) (by omega)
     refine (eK x (by omega) _).mono ?_
     rintro _ w1 ⟨rfl,ab⟩
     have ai:=zh ab
     clear ab
     go_wp2_with fail
     refine (ud e (by omega) (by omega) _).mono ?_
     rintro _ w2 ⟨rfl,ac⟩
     have aj:=zh (bt ai.out ac)
     clear ac
     go_wp2_with fail
     go_ret
     refine⟨?_,aj.out⟩
     rw[HV.out,<-HE.out.1,<-HE.out.2]
     refine congrArg (fun x=>Ending.returned (Value.string x)) ?_
     first | exact cat4 false _ _ | exact cat4 true _ _
 ·have ad:(((0:Nat):Int)==2047)=false:=rfl
  rw[m2] at aa
  rw[show (-1074:Int)+((0:Nat):Int) = -1074 from rfl] at aa
  rw[m0] at e3
  rw[m1] at e2
  clear m0 m1 m2 c h2 h hq
  generalize Wm.magOf r=m at *
  cases n
  all_goals
   go_enter Tryz.func51,Tryz.ntmps51
   go_wp2_with fail
   clear ad hz e1 e2 e3 ak
   go_loop [5,7] (fun a b=>∃ (x:Nat) (e:Int),a=.int .u64 x/\b=.int .i64 e/\Hid (OddSt r x e)) (fun a _=>(intOf a).toNat)
   case atStart=>exact⟨m,_,rfl,rfl,aa⟩
   case round =>
    clear aa
    obtain⟨x,e,rfl,rfl,HS⟩:=hrel
    have an:=gK HS.out HF.out
    have ae:=HS.out.1
    have af:=HS.out.2.1
    have ag:=HS.out.2.2.2
    have he:-2000<=e:=by have:=Wm.rM ae (show x<2 ^ 53 from af);omega
    clear ag
    by_cases hx:x % 2=0
    ·have h0:((x:Int) % 2==0)=true:=by rw[beq_iff_eq];omega
     have HN:=zh (oV HS.out hx)
     clear HS hx
     go_wp2_with fail
     go_round
     case rel=>exact⟨x / 2,e+1,by go_num,rfl,HN⟩
     case measure=>simp[intOf];omega
    ·have h0:((x:Int) % 2==0)=false:=by rw[beq_eq_false_iff_ne];omega
     have HE:=zh (qO HS.out (by omega))
     clear HS hx
     go_wp2_with fail
     have ah:=Lib.nDigits_le20 x (by omega)
     rw[<-Lib.decDigits_length] at ah
     have ao:=Lib.itoa_length_le e (by omega) (by omega)
     refine (eK x (by omega) _).mono ?_
     rintro _ w1 ⟨rfl,ab⟩
     have ai:=zh ab
     clear ab
     go_wp2_with fail
     refine (ud e (by omega) (by omega) _).mono ?_
     rintro _ w2 ⟨rfl,ac⟩
     have aj:=zh (bt ai.out ac)
     clear ac
     go_wp2_with fail
     go_ret
     refine⟨?_,aj.out⟩
     rw[HV.out,<-HE.out.1,<-HE.out.2]
     refine congrArg (fun x=>Ending.returned (Value.string x)) ?_
     first | exact cat4 false _ _ | exact cat4 true _ _
end
section
open Go.RowKit
theorem vO (b:Nat)(hb:b<Wm.W)(hn:Wm.nan b=true)(w:World) :
  Calls Tryz.prog 51 #[.float .f64 b] w fun e w'=>e=.returned (.string ⟨#[110,97,110]⟩)/\w=w':=by
 have hr:=Wm.fR b
 have hi:9218868437227405312<Wm.rung b:=by unfold Wm.nan at hn;simpa using hn
 rw[Wm.iT b hb]
 have aa:=ch
 have e1:=Wm.sgnShift (Wm.neg b) (Wm.rung b) hr
 have e2:=Wm.fracB (Wm.neg b) (Wm.rung b) hr
 have e3:=Wm.expB (Wm.neg b) (Wm.rung b) hr
 have hz:(((Wm.rung b % 4503599627370496:Nat):Int) != 0)=true:=by rw[bne_iff_ne];omega
 rw[show Wm.rung b / 4503599627370496=2047 from by omega] at e3
 generalize Wm.rung b % 4503599627370496=f at *
 generalize Wm.neg b=n at *
 cases n
 all_goals
  go_enter Tryz.func51,Tryz.ntmps51
  go_wp2_with fail
  go_ret
  exact⟨rfl,rfl⟩
theorem vP (n:Bool)(w:World) :
  Calls Tryz.prog 51 #[.float .f64 (Wm.word n 9218868437227405312)] w fun e w'=>e=.returned (.string ⟨(Wm.textW (Wm.word n 9218868437227405312)).toArray⟩)/\w=w':=by
 have aa:=ch
 have e1:=Wm.sgnShift n 9218868437227405312 (by decide)
 have e2:=Wm.fracB n 9218868437227405312 (by decide)
 have e3:=Wm.expB n 9218868437227405312 (by decide)
 rw[show (9218868437227405312 % 4503599627370496:Nat)=0 from rfl] at e2
 rw[show (9218868437227405312 / 4503599627370496:Nat)=2047 from rfl] at e3
 cases n
 all_goals
  go_enter Tryz.func51,Tryz.ntmps51
  go_wp2_with fail
  go_ret
  exact⟨rfl,rfl⟩
theorem ue (n:Bool)(w:World) :
  Calls Tryz.prog 51 #[.float .f64 (Wm.word n 0)] w fun e w'=>e=.returned (.string ⟨(Wm.textW (Wm.word n 0)).toArray⟩)/\w=w':=by
 have aa:=ch
 have e1:=Wm.sgnShift n 0 (by decide)
 have e2:=Wm.fracB n 0 (by decide)
 have e3:=Wm.expB n 0 (by decide)
 rw[show (0 % 4503599627370496:Nat)=0 from rfl] at e2
 rw[show (0 / 4503599627370496:Nat)=0 from rfl] at e3
 cases n
 all_goals
  go_enter Tryz.func51,Tryz.ntmps51
  go_wp2_with fail
  go_ret
  exact⟨rfl,rfl⟩
theorem vQ (b:Nat)(hb:b<Wm.W)(w:World) :
  Calls Tryz.prog 51 #[.float .f64 b] w fun e w'=>e=.returned (.string ⟨(Wm.textW b).toArray⟩)/\Below w.heap.size w w':=by
 rcases kinds b hb with h | ⟨n,rfl⟩ | ⟨n,r,hf,rfl⟩ | ⟨n,rfl⟩
 ·refine (vO b hb h w).mono ?_
  rintro e w' ⟨rfl,rfl⟩
  refine⟨?_,Below.refl _ _⟩
  unfold Wm.textW;rw[h];rfl
 ·refine (vP n w).mono ?_
  rintro e w' ⟨rfl,rfl⟩
  exact⟨rfl,Below.refl _ _⟩
 ·exact vN n r hf w
 ·refine (ue n w).mono ?_
  rintro e w' ⟨rfl,rfl⟩
  exact⟨rfl,Below.refl _ _⟩
end
section
open Go.RowKit
namespace Wm
theorem sub_zero {r:Nat}(h:0<r)(hi:r<9218868437227405312):Ieee.double.sub 0 r=some (word true r):=by
 obtain⟨a1,a2,a3⟩:=bc false (r:=r) (by omega)
 have ab:rung r=r:=a1
 have ac:neg r=false:=a2
 have e0:Ieee.double.read 0=.number false 0 (-1074):=by
  have:=bX 0 (by decide) (by decide)
  exact this
 have e1:=bX r a3 (by rw[ab];exact hi)
 rw[ab,ac] at e1
 unfold Ieee.Format.sub
 rw[e0,e1]
 have aa:min (-1074:Int) (-1074+(upOf r:Int)) = -1074:=by omega
 have hm:=cI h
 unfold Ieee.Datum.opposite Ieee.Datum.sum
 simp only[aa,kW]
 have t1:((-1074:Int) - -1074).toNat=0:=rfl
 have t2:((-1074:Int)+(upOf r:Int) - -1074).toNat=upOf r:=by omega
 rw[t1,t2]
 have hp:0<magOf r*2 ^ upOf r:=Nat.mul_pos hm (Nat.two_pow_pos _)
 have ad:(if false=true then (-1:Int) else 1)*((0*2 ^ 0:Nat):Int)+(if (!false)=true then (-1:Int) else 1)*((magOf r*2 ^ upOf r:Nat):Int) = -((magOf r*2 ^ upOf r:Nat):Int):=by simp
 rw[ad]
 generalize hM:magOf r*2 ^ upOf r=M at *
 rw[if_neg (by omega),decide_eq_true (by omega),Int.natAbs_neg,Int.natAbs_natCast]
 show some (Ieee.double.nearest true M (-1074))=_
 rw[<-hM]
 have hu:upOf r<=2045:=by unfold upOf;split <;> omega
 have ae:=bZ hm (dU r)
 rw[dP true (magOf r) (upOf r) (-1074) hm (dU r) (by omega) (by omega),iA h]
end Wm
end
section
open Go.RowKit
theorem refVal (l:List UInt8)(h:formOk l=true)(hr:Wm.rangeOk (Wm.nmb (Vm.fst 112 l)) (Wm.nmb (Vm.snd 112 l))=true) :
  Wm.prodVal (Wm.nmb (Vm.fst 112 l)) (Wm.nmb (Vm.snd 112 l))=Wm.word (Wm.sgnd l) (Wm.rungOf (Vm.num (Vm.fst 112 (Wm.mgn l))) (Wm.sg (Wm.sgnd (Vm.snd 112 l)) (Vm.num (Wm.mgn (Vm.snd 112 l)))))/\Vm.num (Vm.fst 112 (Wm.mgn l)) % 2=1:=by
 obtain⟨q1,q2,q3,q4⟩:=oU l
 rw[<-q2,<-q3]
 have hf:=h
 unfold formOk at hf
 simp only[Bool.and_eq_true] at hf
 obtain⟨_,h2,_,h4⟩:=hf
 have aa:=aai _ h2 h4
 have ab:=mC l
 rw[hr] at ab
 unfold refRange at ab
 simp only[Bool.and_eq_true,decide_eq_true_eq] at ab
 obtain⟨r1,r2,_⟩:=ab
 generalize Vm.fst 112 l=a at *
 generalize Vm.snd 112 l=b at *
 have hF:Wm.nmb a=if Wm.sgnd a then -(Vm.num (Wm.mgn a):Int) else Vm.num (Wm.mgn a):=by
  unfold Wm.nmb;cases Wm.sgnd a <;> simp only[Bool.false_eq_true,if_false,if_true] <;> rw[if_pos (by omega)]
 have hP:Wm.nmb b=Wm.sg (Wm.sgnd b) (Vm.num (Wm.mgn b)):=by
  unfold Wm.nmb Wm.sg;cases Wm.sgnd b <;> simp only[Bool.false_eq_true,if_false,if_true] <;> rw[if_pos (by omega)] <;> omega
 rw[hP]
 rw[hF] at aa ⊢
 unfold Wm.prodVal
 generalize Vm.num (Wm.mgn a)=m at *
 cases Wm.sgnd a
 ·simp only[Bool.false_eq_true,if_false] at aa ⊢
  rw[decide_eq_false (by omega),Int.natAbs_natCast]
  exact⟨rfl,by omega⟩
 ·simp only[if_true] at aa ⊢
  rw[decide_eq_true (by omega),Int.natAbs_neg,Int.natAbs_natCast]
  exact⟨rfl,by omega⟩
theorem acr (l:List UInt8)(hn:l≠[110,97,110]):outW l<Wm.W/\Wm.nan (outW l)=false:=by
 have ac:(0:Nat)<Wm.W/\Wm.nan 0=false:=⟨by decide,by decide⟩
 rcases lg l with rfl | rfl | rfl | rfl | rfl | ⟨_,_,_,_,_,he,hv⟩
 ·exact⟨by decide +kernel,by decide +kernel⟩
 ·exact⟨by decide +kernel,by decide +kernel⟩
 ·exact absurd rfl hn
 ·exact⟨by decide +kernel,by decide +kernel⟩
 ·exact⟨by decide +kernel,by decide +kernel⟩
 ·unfold outW
  by_cases h:errW l=0
  ·rw[if_pos h,hv]
   rw[he] at h
   unfold prodOf
   rw[if_pos h]
   unfold prodErr at h
   cases hf:formOk l
   ·rw[hf] at h;simp at h
   ·rw[hf] at h
    simp only[if_true] at h
    cases hr:Wm.rangeOk (Wm.nmb (Vm.fst 112 l)) (Wm.nmb (Vm.snd 112 l))
    ·rw[hr] at h;simp at h
    ·obtain⟨v1,v2⟩:=refVal l hf hr
     rw[v1]
     have ab:=mC l
     rw[hr] at ab
     unfold refRange at ab
     simp only[Bool.and_eq_true,decide_eq_true_eq] at ab
     obtain⟨r1,r2,r3,r4⟩:=ab
     obtain⟨q1,q2,q3,q4⟩:=oU l
     rw[q2] at r1 r4
     have hb:=Wm.kX (k:=Vm.num (Vm.fst 112 (Wm.mgn l))) (e:=Wm.sg (Wm.sgnd (Vm.snd 112 l)) (Vm.num (Wm.mgn (Vm.snd 112 l)))) (by omega) (by omega) (by omega)
     have aa:Fin (Wm.rungOf (Vm.num (Vm.fst 112 (Wm.mgn l))) (Wm.sg (Wm.sgnd (Vm.snd 112 l)) (Vm.num (Wm.mgn (Vm.snd 112 l))))):=hb
     exact⟨(bF aa _).1,(bF aa _).2.1⟩
  ·rw[if_neg h];exact ac
theorem adR (l:List UInt8):outW l<Wm.W:=by
 by_cases hn:l=[110,97,110]
 ·subst hn;decide +kernel
 ·exact (acr l hn).1
end
section
open Go.RowKit Rs At Pg
namespace Pg
def AFr (B:Nat) (A:Option Addr):Prop:=∀ a,A=some a->B<=a.block
def PRows (B:Nat) (u:World) (p:Pk) (D C G:Option Addr):Prop:=(Pg.DRowF B u D p.deps/\AFr B D)/\(ARow u C p.confl/\AFr B C)/\(GRow u G p.prov/\AFr B G)
abbrev pCells (p:Pk) (D C G:Option Addr) (dc cc gc:Nat):Array Value:=#[.string ⟨p.name.toArray⟩,.string ⟨p.ver.toArray⟩,.slice D p.deps.length dc,.slice C p.confl.length cc,.slice G p.prov.length gc,.float .f64 p.wt]
def PBlk (T:TypeId) (b B:Nat) (p:Pk) (u:World):Prop:=∃ D dc C cc G gc,u.heap[b]?=some (.cells (pCells p D C G dc cc gc) T (0,0))/\PRows B u p D C G
theorem lz {B b:Nat}{A:Option Addr}{α:Type}{l:List α}(h:AFr B A)(hb:b<B):0<l.length->∀ a,A=some a->some b≠some a.block:=fun _ a ha e=>by
 have:=h a ha
 have:=Option.some.inj e
 omega
theorem fo {B b:Nat}{w u:World}{A:Option Addr}{t:List (List Atm)}(h:Pg.DRowF B w A t)(hA:AFr B A)(hb:But (some b) w u)(hlt:b<B)(hg:∀ j x,w.cell? ⟨b,j,none⟩=some x->NoB x):Pg.DRowF B u A t:=by
 obtain⟨ds,h1,h2,h3⟩:=h
 refine⟨ds,iX h1 hb (lz hA hlt),⟨h2.1,fun i d l e1 e2=>⟨(h2.2 i d l e1 e2).1,jN (h2.2 i d l e1 e2).2 hb (lz (fun a ha=>h3 i d e1 a ha) hlt) (fun g hg2=>by cases hg2;exact hg)⟩⟩,h3⟩
theorem bL {B b:Nat}{w u:World}{p:Pk}{D C G:Option Addr}(h:PRows B w p D C G)(hb:But (some b) w u)(hlt:b<B)(hg:∀ j x,w.cell? ⟨b,j,none⟩=some x->NoB x):PRows B u p D C G :=
 ⟨⟨fo h.1.1 h.1.2 hb hlt hg,h.1.2⟩,⟨jN h.2.1.1 hb (lz h.2.1.2 hlt) (fun g hg2=>by cases hg2;exact hg),h.2.1.2⟩,⟨iX h.2.2.1 hb (lz h.2.2.2 hlt),h.2.2.2⟩⟩
theorem vR {B:Nat}{w u:World}{A:Option Addr}{t:List (List Atm)}(h:Pg.DRowF B w A t)(hb:Below w.heap.size w u):Pg.DRowF B u A t:=by
 obtain⟨ds,h1,h2,h3⟩:=h
 exact⟨ds,Rg.ak h1 hb,kZ h2 hb,h3⟩
theorem vS {B:Nat}{w u:World}{p:Pk}{D C G:Option Addr}(h:PRows B w p D C G)(hb:Below w.heap.size w u):PRows B u p D C G :=
 ⟨⟨vR h.1.1 hb,h.1.2⟩,⟨au h.2.1.1 hb,h.2.1.2⟩,⟨Rg.ak h.2.2.1 hb,h.2.2.2⟩⟩
theorem block_lt {u:World}{b:Nat}{o:Obj}(h:u.heap[b]?=some o):b<u.heap.size:=(Array.getElem?_eq_some_iff.1 h).1
theorem cq {T:TypeId}{b B:Nat}{p:Pk}{u u':World}(h:PBlk T b B p u)(hb:Below u.heap.size u u'):PBlk T b B p u':=by
 obtain⟨D,dc,C,cc,G,gc,h1,h2⟩:=h
 exact⟨D,dc,C,cc,G,gc,(hb.block _ (block_lt h1)).trans h1,vS h2 hb⟩
theorem adS {T:TypeId}{b B:Nat}{p:Pk}{u:World}(h:PBlk T b B p u):b<u.heap.size:=by
 obtain⟨D,dc,C,cc,G,gc,h1,_⟩:=h
 exact block_lt h1
theorem er {T:TypeId}{b B:Nat}{p:Pk}{u:World}(h:PBlk T b B p u):∃ x0 x1 x2 x3 x4 x5,(u.cell? ⟨b,0,none⟩=some x0/\u.frozen? ⟨b,0,none⟩=false)/\(u.cell? ⟨b,1,none⟩=some x1/\u.frozen? ⟨b,1,none⟩=false)/\(u.cell? ⟨b,2,none⟩=some x2/\u.frozen? ⟨b,2,none⟩=false)/\(u.cell? ⟨b,3,none⟩=some x3/\u.frozen? ⟨b,3,none⟩=false)/\(u.cell? ⟨b,4,none⟩=some x4/\u.frozen? ⟨b,4,none⟩=false)/\(u.cell? ⟨b,5,none⟩=some x5/\u.frozen? ⟨b,5,none⟩=false):=by
 obtain⟨D,dc,C,cc,G,gc,h1,_⟩:=h
 have c:∀ j v,(pCells p D C G dc cc gc)[j]?=some v->u.cell? ⟨b,j,none⟩=some v:=fun j v hv=>(cell_of_row u b j _ T (0,0) h1).trans hv
 have z:∀ j,u.frozen? ⟨b,j,none⟩=false:=fun j=>by simp[World.frozen?,h1]
 exact⟨_,_,_,_,_,_,⟨c 0 _ rfl,z 0⟩,⟨c 1 _ rfl,z 1⟩,⟨c 2 _ rfl,z 2⟩,⟨c 3 _ rfl,z 3⟩,⟨c 4 _ rfl,z 4⟩,c 5 _ rfl,z 5⟩
theorem eV {T:TypeId}{b:Nat}{p:Pk}{u:World}{D C G:Option Addr}{dc cc gc:Nat}(h:u.heap[b]?=some (.cells (pCells p D C G dc cc gc) T (0,0))):∀ j x,u.cell? ⟨b,j,none⟩=some x->NoB x:=fun j x hx y e=>by
 rw[cell_of_row u b j _ T (0,0) h] at hx
 subst e
 have hm:=Array.mem_of_getElem? hx
 simp[pCells] at hm
theorem aG {u:World}{b j:Nat}{cs:Array Value}{T:TypeId}{x:Value}(h:u.heap[b]?=some (.cells cs T (0,0))):(u.setCell ⟨b,j,none⟩ x).heap[b]?=some (.cells (cs.setIfInBounds j x) T (0,0)):=by
 simp[World.setCell,Array.getElem?_modify,h]
theorem aaw {T:TypeId}{b B:Nat}{p:Pk}{u:World}(h:PBlk T b B p u)(hlt:b<B)(x:List UInt8):PBlk T b B { p with name:=x } (u.setCell ⟨b,0,none⟩ (.string ⟨x.toArray⟩)):=by
 obtain⟨D,dc,C,cc,G,gc,h1,h2⟩:=h
 exact⟨D,dc,C,cc,G,gc,(aG h1).trans rfl,bL (p:=p) h2 (aQ u ⟨b,0,none⟩ _) hlt (eV h1)⟩
theorem acs {T:TypeId}{b B:Nat}{p:Pk}{u:World}(h:PBlk T b B p u)(hlt:b<B)(x:List UInt8):PBlk T b B { p with ver:=x } (u.setCell ⟨b,1,none⟩ (.string ⟨x.toArray⟩)):=by
 obtain⟨D,dc,C,cc,G,gc,h1,h2⟩:=h
 exact⟨D,dc,C,cc,G,gc,(aG h1).trans rfl,bL (p:=p) h2 (aQ u ⟨b,1,none⟩ _) hlt (eV h1)⟩
theorem adT {T:TypeId}{b B:Nat}{p:Pk}{u:World}(h:PBlk T b B p u)(hlt:b<B)(x:Nat):PBlk T b B { p with wt:=x } (u.setCell ⟨b,5,none⟩ (.float .f64 x)):=by
 obtain⟨D,dc,C,cc,G,gc,h1,h2⟩:=h
 exact⟨D,dc,C,cc,G,gc,(aG h1).trans rfl,bL (p:=p) h2 (aQ u ⟨b,5,none⟩ _) hlt (eV h1)⟩
theorem aax {T:TypeId}{b B:Nat}{p:Pk}{u:World}(h:PBlk T b B p u)(hlt:b<B){A:Option Addr}{c:Nat}{l:List (List Atm)}(hr:Pg.DRowF B u A l)(hA:AFr B A):PBlk T b B { p with deps:=l } (u.setCell ⟨b,2,none⟩ (.slice A l.length c)):=by
 obtain⟨D,dc,C,cc,G,gc,h1,h2⟩:=h
 exact⟨A,c,C,cc,G,gc,(aG h1).trans rfl,bL (p:={ p with deps:=l }) ⟨⟨hr,hA⟩,h2.2⟩ (aQ u ⟨b,2,none⟩ _) hlt (eV h1)⟩
theorem yw {T:TypeId}{b B:Nat}{p:Pk}{u:World}(h:PBlk T b B p u)(hlt:b<B){A:Option Addr}{c:Nat}{l:List Atm}(hr:ARow u A l)(hA:AFr B A):PBlk T b B { p with confl:=l } (u.setCell ⟨b,3,none⟩ (.slice A l.length c)):=by
 obtain⟨D,dc,C,cc,G,gc,h1,h2⟩:=h
 exact⟨D,dc,A,c,G,gc,(aG h1).trans rfl,bL (p:={ p with confl:=l }) ⟨h2.1,⟨hr,hA⟩,h2.2.2⟩ (aQ u ⟨b,3,none⟩ _) hlt (eV h1)⟩
theorem aay {T:TypeId}{b B:Nat}{p:Pk}{u:World}(h:PBlk T b B p u)(hlt:b<B){A:Option Addr}{c:Nat}{l:List Gv}(hr:GRow u A l)(hA:AFr B A):PBlk T b B { p with prov:=l } (u.setCell ⟨b,4,none⟩ (.slice A l.length c)):=by
 obtain⟨D,dc,C,cc,G,gc,h1,h2⟩:=h
 exact⟨D,dc,C,cc,A,c,(aG h1).trans rfl,bL (p:={ p with prov:=l }) ⟨h2.1,h2.2.1,⟨hr,hA⟩⟩ (aQ u ⟨b,4,none⟩ _) hlt (eV h1)⟩
end Pg
theorem Pg.bd {P:Program}{w:World}{a:Addr}{k:FloatKind}{f:Nat}{m:Mode}:(store a (.float k f) m).run P w=stored P w a (.float k f) m:=run_store P w a _ m rfl
def Pg.TakeRet (b B:Nat) (w:World) (i:Int) (R:Except Int Pk) (e:Ending) (w':World):Prop:=Below b w w'/\match R with
 | .ok q=>e=.returned (.tuple #[])/\PBlk 34 b B q w'
 | .error k=>e=panAt i k
attribute [local go_sem ↓] Go.wp_at_zero Go.wp_at_succ
attribute [local go_sem] Pg.bd
theorem vT (b B:Nat)(key t:List UInt8)(i:Int)(p:Pk)(w:World)(hk:KOk w)(hp:Pg.PBlk 34 b B p w)(hlt:b<B)(hB:B<=w.heap.size)(ht:ValFit key t) :
  Calls Tryz.prog 89 #[.pointer (some ⟨b,0,none⟩),.string ⟨key.toArray⟩,.agg #[.string ⟨t.toArray⟩,.int .i64 i]] w (Pg.TakeRet b B w i (takeR p key t)):=by
 obtain⟨R,hR⟩:=ex (takeR p key t)
 rw[hR]
 unfold takeR at hR
 obtain⟨V,hV⟩:=ex (w.alloc (.cells #[.string ⟨t.toArray⟩,.int .i64 i] 148))
 have HB:Hid (Below w.heap.size w V):=ai hV
 have HW:Hid (b<w.heap.size):=adS hp
 have ac:Hid (Below b w V):=HB.out.mono (Nat.le_of_lt HW.out)
 have HK:Hid (KOk V):=aX hk HB.out
 have HM:Hid (MaxOk V):=ah hk.1 HB.out
 have af:=zh (cq hp HB.out)
 have aj:Hid (B<=V.heap.size):=Nat.le_trans hB HB.out.size
 have ad:Hid (b<=V.heap.size):=Nat.le_of_lt (Nat.lt_of_lt_of_le hlt aj.out)
 have ag:=zh hlt
 have HT:=zh ht
 obtain⟨c0,c1⟩:=aB hV (Below.refl _ _)
 clear hk hp hlt hB ht
 by_cases h0:key=kPkg
 ·rw[if_pos h0] at hR
  have ae:=zh (HT.out.2.2.2 (by rw[h0];decide) (by rw[h0];decide) (by rw[h0];decide))
  have d0:(key==[80,97,99,107,97,103,101])=true:=beq_iff_eq.2 h0
  clear h0
  have HC:=zh (kd t i V (by have:=ae.out;omega))
  obtain⟨y,hy⟩:=ex (nameB t)
  rw[hy] at HC hR
  have HR:=zh hR
  clear hR hy
  go_enter Tryz.func89,Tryz.ntmps89
  go_wp2_with fail
  clear hV
  refine HC.out.mono ?_
  rintro _ u ⟨rfl,hb⟩
  have HU:=zh hb
  clear hb HC c0 c1
  cases y
  ·have HF:Hid (R=.error 3):=HR.out.symm
   go_wp2_with fail
   exact⟨rfl,ac.out.trans (HU.out.mono ad.out),by rw[HF.out]⟩
  ·have HF:Hid (R=.ok { p with name:=t }):=HR.out.symm
   have aa:=zh (cq af.out HU.out)
   obtain⟨x0,x1,x2,x3,x4,x5,⟨e0,z0⟩,⟨e1,z1⟩,⟨e2,z2⟩,⟨e3,z3⟩,⟨e4,z4⟩,⟨e5,z5⟩⟩:=er aa.out
   go_wp2_with fail
   go_end0
   refine⟨(ac.out.trans (HU.out.mono ad.out)).setCell (Nat.le_refl _) _,?_⟩
   rw[HF.out]
   exact⟨rfl,aaw aa.out ag.out t⟩
 rw[if_neg h0] at hR
 have d0:(key==[80,97,99,107,97,103,101])=false:=beq_eq_false_iff_ne.2 h0
 clear h0
 by_cases h1:key=kVer
 ·rw[if_pos h1] at hR
  have d1:(key==[86,101,114,115,105,111,110])=true:=beq_iff_eq.2 h1
  clear h1
  have HC:=zh (gG t i V HM.out)
  obtain⟨y,hy⟩:=ex (Vm.check t)
  obtain⟨cv,am⟩:=ex (canonOf t)
  rw[hy,am] at HC hR
  have HR:=zh hR
  clear hR hy am
  go_enter Tryz.func89,Tryz.ntmps89
  go_wp2_with fail
  clear hV
  refine HC.out.mono ?_
  rintro _ u ⟨rfl,hb⟩
  have HU:=zh hb
  clear hb HC c0 c1
  by_cases hy:y=0
  case neg =>
   have HF:Hid (R=.error y):=by show _=_;rw[<-HR.out,if_neg hy]
   rw[if_neg hy]
   clear hy
   go_wp2_with fail
   exact⟨rfl,ac.out.trans (HU.out.mono ad.out),by rw[HF.out]⟩
  have HF:Hid (R=.ok { p with ver:=cv }):=by show _=_;rw[<-HR.out,if_pos hy]
  rw[if_pos hy]
  clear hy
  have aa:=zh (cq af.out HU.out)
  obtain⟨x0,x1,x2,x3,x4,x5,⟨e0,z0⟩,⟨e1,z1⟩,⟨e2,z2⟩,⟨e3,z3⟩,⟨e4,z4⟩,⟨e5,z5⟩⟩:=er aa.out
  go_wp2_with fail
  go_end0
  refine⟨(ac.out.trans (HU.out.mono ad.out)).setCell (Nat.le_refl _) _,?_⟩
  rw[HF.out]
  exact⟨rfl,acs aa.out ag.out cv⟩
 rw[if_neg h1] at hR
 have d1:(key==[86,101,114,115,105,111,110])=false:=beq_eq_false_iff_ne.2 h1
 clear h1
 by_cases h2:key=kDep
 ·rw[if_pos h2] at hR
  have ae:=zh (HT.out.1 h2)
  have d2:(key==[68,101,112,101,110,100,115])=true:=beq_iff_eq.2 h2
  clear h2
  have HC:Hid (Calls Tryz.prog 133 #[.agg #[.string ⟨t.toArray⟩,.int .i64 i],.string ⟨#[59,32]⟩,.int .i64 16,.func (.func 134) #[] #[]] V (Pg.PartsRet (fun u A l=>Pg.DRowF V.heap.size u A l) V i (partsR depR semi 16 t))):=rF t semi i 16 V HM.out ae.out (by decide) (by decide)
  obtain⟨E,hE⟩:=ex (partsR depR semi 16 t)
  rw[hE] at HC hR
  have HR:=zh hR
  clear hR hE
  go_enter Tryz.func89,Tryz.ntmps89
  go_wp2_with fail
  clear hV
  refine HC.out.mono ?_
  rintro r u ⟨hb,hr⟩
  have HU:=zh hb
  clear hb HC c0 c1
  cases E with
  | error k =>
   have HF:Hid (R=.error k):=HR.out.symm
   obtain rfl:r=panAt i k:=hr
   go_wp2_with fail
   exact⟨rfl,ac.out.trans (HU.out.mono ad.out),by rw[HF.out]⟩
  | ok l =>
   have HF:Hid (R=.ok { p with deps:=l }):=HR.out.symm
   obtain⟨A,n,c,rfl,hn,ab,hf⟩:=hr
   subst hn
   have ak:=zh (jR ab aj.out)
   have al:Hid (AFr B A):=fun a ha=>Nat.le_trans aj.out (hf a ha)
   clear ab hf
   have aa:=zh (cq af.out HU.out)
   obtain⟨x0,x1,x2,x3,x4,x5,⟨e0,z0⟩,⟨e1,z1⟩,⟨e2,z2⟩,⟨e3,z3⟩,⟨e4,z4⟩,⟨e5,z5⟩⟩:=er aa.out
   go_wp2_with fail
   go_end0
   refine⟨(ac.out.trans (HU.out.mono ad.out)).setCell (Nat.le_refl _) _,?_⟩
   rw[HF.out]
   exact⟨rfl,aax aa.out ag.out ak.out al.out⟩
 rw[if_neg h2] at hR
 have d2:(key==[68,101,112,101,110,100,115])=false:=beq_eq_false_iff_ne.2 h2
 clear h2
 by_cases h3:key=kCon
 ·rw[if_pos h3] at hR
  have ae:=zh (HT.out.2.1 h3)
  have d3:(key==[67,111,110,102,108,105,99,116,115])=true:=beq_iff_eq.2 h3
  clear h3
  have HC:Hid (Calls Tryz.prog 135 #[.agg #[.string ⟨t.toArray⟩,.int .i64 i],.string ⟨#[59,32]⟩,.int .i64 16,.func (.func 136) #[] #[]] V (Pg.PartsRet (ARow) V i (partsR atomR semi 16 t))):=iY t semi i 16 V HM.out ae.out (by decide) (by decide)
  obtain⟨E,hE⟩:=ex (partsR atomR semi 16 t)
  rw[hE] at HC hR
  have HR:=zh hR
  clear hR hE
  go_enter Tryz.func89,Tryz.ntmps89
  go_wp2_with fail
  clear hV
  refine HC.out.mono ?_
  rintro r u ⟨hb,hr⟩
  have HU:=zh hb
  clear hb HC c0 c1
  cases E with
  | error k =>
   have HF:Hid (R=.error k):=HR.out.symm
   obtain rfl:r=panAt i k:=hr
   go_wp2_with fail
   exact⟨rfl,ac.out.trans (HU.out.mono ad.out),by rw[HF.out]⟩
  | ok l =>
   have HF:Hid (R=.ok { p with confl:=l }):=HR.out.symm
   obtain⟨A,n,c,rfl,hn,ab,hf⟩:=hr
   subst hn
   have ak:=zh (ab)
   have al:Hid (AFr B A):=fun a ha=>Nat.le_trans aj.out (hf a ha)
   clear ab hf
   have aa:=zh (cq af.out HU.out)
   obtain⟨x0,x1,x2,x3,x4,x5,⟨e0,z0⟩,⟨e1,z1⟩,⟨e2,z2⟩,⟨e3,z3⟩,⟨e4,z4⟩,⟨e5,z5⟩⟩:=er aa.out
   go_wp2_with fail
   go_end0
   refine⟨(ac.out.trans (HU.out.mono ad.out)).setCell (Nat.le_refl _) _,?_⟩
   rw[HF.out]
   exact⟨rfl,yw aa.out ag.out ak.out al.out⟩
 rw[if_neg h3] at hR
 have d3:(key==[67,111,110,102,108,105,99,116,115])=false:=beq_eq_false_iff_ne.2 h3
 clear h3
 by_cases h4:key=kPro
 ·rw[if_pos h4] at hR
  have ae:=zh (HT.out.2.2.1 h4)
  have d4:(key==[80,114,111,118,105,100,101,115])=true:=beq_iff_eq.2 h4
  clear h4
  have HC:Hid (Calls Tryz.prog 137 #[.agg #[.string ⟨t.toArray⟩,.int .i64 i],.string ⟨#[59,32]⟩,.int .i64 16,.func (.func 138) #[] #[]] V (Pg.PartsRet (GRow) V i (partsR gvR semi 16 t))):=pO t semi i 16 V HM.out ae.out (by decide) (by decide)
  obtain⟨E,hE⟩:=ex (partsR gvR semi 16 t)
  rw[hE] at HC hR
  have HR:=zh hR
  clear hR hE
  go_enter Tryz.func89,Tryz.ntmps89
  go_wp2_with fail
  clear hV
  refine HC.out.mono ?_
  rintro r u ⟨hb,hr⟩
  have HU:=zh hb
  clear hb HC c0 c1
  cases E with
  | error k =>
   have HF:Hid (R=.error k):=HR.out.symm
   obtain rfl:r=panAt i k:=hr
   go_wp2_with fail
   exact⟨rfl,ac.out.trans (HU.out.mono ad.out),by rw[HF.out]⟩
  | ok l =>
   have HF:Hid (R=.ok { p with prov:=l }):=HR.out.symm
   obtain⟨A,n,c,rfl,hn,ab,hf⟩:=hr
   subst hn
   have ak:=zh (ab)
   have al:Hid (AFr B A):=fun a ha=>Nat.le_trans aj.out (hf a ha)
   clear ab hf
   have aa:=zh (cq af.out HU.out)
   obtain⟨x0,x1,x2,x3,x4,x5,⟨e0,z0⟩,⟨e1,z1⟩,⟨e2,z2⟩,⟨e3,z3⟩,⟨e4,z4⟩,⟨e5,z5⟩⟩:=er aa.out
   go_wp2_with fail
   go_end0
   refine⟨(ac.out.trans (HU.out.mono ad.out)).setCell (Nat.le_refl _) _,?_⟩
   rw[HF.out]
   exact⟨rfl,aay aa.out ag.out ak.out al.out⟩
 rw[if_neg h4] at hR
 have d4:(key==[80,114,111,118,105,100,101,115])=false:=beq_eq_false_iff_ne.2 h4
 clear h4
 by_cases h5:key=kWei
 ·rw[if_pos h5] at hR
  have ae:=zh (HT.out.2.2.2 (by rw[h5];decide) (by rw[h5];decide) (by rw[h5];decide))
  have d5:(key==[87,101,105,103,104,116])=true:=beq_iff_eq.2 h5
  clear h5
  have HC:Hid (Calls Tryz.prog 139 #[.agg #[.string ⟨t.toArray⟩,.int .i64 i]] V fun r w'=>Below V.heap.size V w'/\match wtR t with | .ok f=>r=.returned (.float .f64 f) | .error k=>r=panAt i k):=(oO t i V ae.out HK.out (adR t)).mono fun r w' ⟨h1,h2⟩=>by
   refine⟨h2,?_⟩
   unfold wtR
   by_cases a0:errW t=0
   ·rw[if_pos a0] at h1 ⊢
    by_cases a1:chkW (outW t)=0
    ·rw[if_pos a1] at h1 ⊢;exact h1
    ·rw[if_neg a1] at h1 ⊢;exact h1
   ·rw[if_neg a0] at h1 ⊢;exact h1
  obtain⟨E,hE⟩:=ex (wtR t)
  rw[hE] at HC hR
  have HR:=zh hR
  clear hR hE
  go_enter Tryz.func89,Tryz.ntmps89
  go_wp2_with fail
  clear hV
  refine HC.out.mono ?_
  rintro r u ⟨hb,hr⟩
  have HU:=zh hb
  clear hb HC c0 c1
  cases E with
  | error k =>
   have HF:Hid (R=.error k):=HR.out.symm
   obtain rfl:r=panAt i k:=hr
   go_wp2_with fail
   exact⟨rfl,ac.out.trans (HU.out.mono ad.out),by rw[HF.out]⟩
  | ok f =>
   have HF:Hid (R=.ok { p with wt:=f }):=HR.out.symm
   obtain rfl:r=.returned (.float .f64 f):=hr
   have aa:=zh (cq af.out HU.out)
   obtain⟨x0,x1,x2,x3,x4,x5,⟨e0,z0⟩,⟨e1,z1⟩,⟨e2,z2⟩,⟨e3,z3⟩,⟨e4,z4⟩,⟨e5,z5⟩⟩:=er aa.out
   go_wp2_with fail
   go_end0
   refine⟨(ac.out.trans (HU.out.mono ad.out)).setCell (Nat.le_refl _) _,?_⟩
   rw[HF.out]
   exact⟨rfl,adT aa.out ag.out f⟩
 rw[if_neg h5] at hR
 have d5:(key==[87,101,105,103,104,116])=false:=beq_eq_false_iff_ne.2 h5
 clear h5
 have HF:Hid (R=.ok p):=hR.symm
 clear hR
 go_enter Tryz.func89,Tryz.ntmps89
 go_wp2_with fail
 go_end0
 refine⟨ac.out,?_⟩
 rw[HF.out]
 exact⟨rfl,af.out⟩
end
namespace Sz
open Go.RowKit Go.Maps
theorem zeroI (w:World):(zeroValue 3).run Tryz.prog w=.ok (.int .i64 0) w:=by kernel_rfl
def KMap (w:World) (b:Nat) (ks:List (List UInt8)):Prop:=∃ (n:Nat) (D:DataW Unit),w.ownsMap Tryz.prog 9 (plainElem Tryz.prog 3) b n D/\n<=ks.length/\∀ k:List UInt8,k.length<=140737488355328->Maps.has D (.string k)=(placeOf ks k).isSome/\∀ p:Nat,placeOf ks k=some p->D.atKey (.string k) (.lit (.int .i64 0))=.lit (.int .i64 p)
theorem oW (ks:List (List UInt8))(x k:List UInt8):placeOf (ks++[x]) k=match placeOf ks k with | some p=>some p | none=>if x=k then some ks.length else none:=by
 unfold placeOf
 rw[List.findIdx?_append]
 cases h:ks.findIdx? (. == k) with
 | some p=>simp
 | none=>by_cases e:x=k <;> simp[e,List.findIdx?_cons]
theorem acu {ks:List (List UInt8)}{k:List UInt8}{p:Nat}(h:placeOf ks k=some p):p<ks.length:=by
 unfold placeOf at h
 obtain⟨h1,_⟩:=List.findIdx?_eq_some_iff_getElem.1 h
 exact h1
theorem aaz (w:World):KMap (w.alloc (.map #[] 0)) w.heap.size []:=⟨0,_,World.ownsMap_made w _ _ _,Nat.le_refl _,fun _k _=>⟨rfl,fun p h=>by cases h⟩⟩
theorem qP {w:World}{b:Nat}{ks:List (List UInt8)}(h:KMap w b ks){k:List UInt8}(hk:k.length<=140737488355328) :
  (Instr.lookup 230 (.map (some b)) (.string ⟨k.toArray⟩) true).run Tryz.prog w=.ok (.tuple #[.int .i64 ((placeOf ks k).getD 0:Nat),.bool (placeOf ks k).isSome]) w:=by
 obtain⟨n,D,ab,_,hh⟩:=h
 obtain⟨v,ps,ac,hv⟩:=ab.look_ok keyLaw Tryz.underlying230 (zeroI w) (plainElem_int Tryz.underlying3 (by decide)) (ie hk)
 obtain⟨c,rfl,hc,_⟩:=plainElem_int_inv Tryz.underlying3 hv
 obtain⟨h1,h2⟩:=hh k hk
 have aa:D.atKey (.string k) (.lit (.int .i64 0))=.lit (.int .i64 c):=congrArg Prod.fst hc
 rw[ac,h1]
 cases hp:placeOf ks k with
 | some p =>
  rw[h2 p hp] at aa
  have e:=(Lit.int.inj (DataW.lit.inj aa)).2
  rw[<-e];rfl
 | none =>
  rw[hp] at h1
  rw[Maps.atKey_of_not_has h1] at aa
  have e:=(Lit.int.inj (DataW.lit.inj aa)).2
  rw[<-e];rfl
theorem acv {w:World}{b:Nat}{ks:List (List UInt8)}(h:KMap w b ks){k:List UInt8}(hk:k.length<=140737488355328)(hl:ks.length<=1000000)(hn:placeOf ks k=none) :
  ∃ w',(Instr.mapUpdate 230 (.map (some b)) (.string ⟨k.toArray⟩) (.int .i64 ks.length)).run Tryz.prog w=.ok () w'/\KMap w' b (ks++[k])/\w.mapTurned w' b:=by
 obtain⟨n,D,aa,ad,hh⟩:=h
 obtain⟨w',ac,ab,ht⟩:=aa.store keyLaw Tryz.underlying230 (by unfold maxLen;omega) (ie hk) (val:=.int .i64 ks.length) (plainElem_int Tryz.underlying3 (by
  have h1:IntKind.i64.min = -9223372036854775808:=rfl
  have h2:IntKind.i64.max=9223372036854775807:=rfl
  unfold Lit.wf
  rw[Bool.and_eq_true,decide_eq_true_eq,decide_eq_true_eq,h1,h2];omega))
 refine⟨w',ac,⟨n+1,_,ab,by rw[List.length_append];simp;omega,fun x hx=>?_⟩,ht⟩
 rw[oW]
 by_cases e:x=k
 ·subst e
  rw[Maps.has_put_same aa.isMap (by trivial),hn,if_pos rfl]
  refine⟨rfl,fun p hp=>?_⟩
  rw[Maps.atKey_put_same aa.isMap (by trivial),Option.some.inj hp]
 ·rw[Maps.has_put_other (by intro h;exact e (Lit.string.inj h)),(hh x hx).1]
  have ek:¬ k=x:=fun h=>e h.symm
  rw[if_neg ek]
  refine⟨by cases placeOf ks x <;> rfl,fun p hp=>?_⟩
  rw[Maps.atKey_put_other (by intro h;exact e (Lit.string.inj h))]
  refine (hh x hx).2 p ?_
  cases hq:placeOf ks x with
  | none=>rw[hq] at hp;exact hp
  | some q=>rw[hq] at hp;exact hp
theorem aaA {w:World}{b:Nat}{ks:List (List UInt8)}(h:KMap w b ks){k:List UInt8}{q:Nat}(hn:placeOf ks k=some q):KMap w b (ks++[k]):=by
 obtain⟨n,D,aa,ab,hh⟩:=h
 refine⟨n,D,aa,by rw[List.length_append];simp;omega,fun x hx=>?_⟩
 obtain⟨h1,h2⟩:=hh x hx
 rw[oW,h1]
 cases hp:placeOf ks x with
 | some p=>exact⟨rfl,fun p' hp'=>h2 p' (by rw[hp];exact hp')⟩
 | none =>
  have ek:¬ k=x:=fun e=>by subst e;rw[hn] at hp;cases hp
  dsimp only
  rw[if_neg ek]
  exact⟨rfl,fun p' hp'=>by cases hp'⟩
theorem yx {w w':World}{b B:Nat}{ks:List (List UInt8)}(h:KMap w b ks)(hb:Below B w w')(hlt:b<B):KMap w' b ks:=by
 obtain⟨n,D,⟨es,clock,hh,r⟩,h2⟩:=h
 exact⟨n,D,⟨es,clock,(hb.block b hlt).trans hh,r⟩,h2⟩
end Sz
section
open Go.RowKit Go.Maps Sz
attribute [local go_sem ↓] Go.wp_at_zero Go.wp_at_succ
def Sz.ShortT (l:List (List UInt8)):Prop:=∀ k∈l,k.length<=140737488355328
theorem oX (A:Option Addr)(n c:Nat)(l:List (List UInt8))(w:World)(hn:l.length=n)(hr:Rg.Row encT 1 w A l)(hl:n<=100000)(hs:Sz.ShortT l) :
  Calls Tryz.prog 173 #[.slice A n c] w fun e w'=>e=.returned (.map (some w.heap.size))/\KMap w' w.heap.size l/\w.heap.size<w'.heap.size/\Below w.heap.size w w':=by
 obtain⟨W1,ac⟩:=ex (w.alloc (.map #[] 0))
 have aj:Hid (Below w.heap.size w W1):=ai ac
 have al:Hid (KMap W1 w.heap.size []):=by show KMap _ _ _;rw[<-ac];exact aaz w
 have am:Hid (w.heap.size<W1.heap.size):=by show _<_;rw[<-ac];simp
 have an:(Instr.makeMap 230 none).run Tryz.prog w=.ok (.map (some w.heap.size)) W1:=by rw[<-ac];rfl
 have HR:=zh hr
 have HN:=zh hn
 have HS:=zh hs
 clear hr hn hs
 go_enter Tryz.func173,Tryz.ntmps173
 go_wp2_with fail
 clear ac an
 go_loopw [11] (fun i wr=>∃ k:Nat,k<=n/\i=.int .i64 k/\Hid (Below w.heap.size w wr/\w.heap.size<wr.heap.size)/\Hid (KMap wr w.heap.size (l.take k))) (fun i _=>n-(intOf i).toNat)
 case atStart=>exact⟨0,Nat.zero_le _,rfl,⟨aj.out,am.out⟩,al.out⟩
 case round =>
  obtain⟨k,hk,rfl,HW,HH⟩:=hrel
  by_cases ao:k<n
  ·have af:k<l.length:=by rw[HN.out];exact ao
   obtain⟨ad,rfl,_,c0⟩:=Sz.eF (Rg.ak HR.out HW.out.1) k af
   have ht:l.take (k+1)=l.take k++[l[k]]:=List.take_succ_eq_append_getElem af
   have ab:l[k].length<=140737488355328:=HS.out _ (List.getElem_mem af)
   obtain⟨x,hx⟩:=ex (l[k])
   rw[hx] at c0 ht ab
   have ae:=qP HH.out ab
   have hlen:(l.take k).length=k:=by rw[List.length_take];omega
   cases hp:placeOf (l.take k) x with
   | some p =>
    rw[hp] at ae
    have HE:Hid (KMap wr w.heap.size (l.take (k+1))):=by show KMap _ _ _;rw[ht];exact aaA HH.out hp
    have HK:=zh hk
    clear ht hx hp hlen ab
    dsimp only[Option.getD,Option.isSome] at ae
    go_wp2_with fail
    go_roundw
    case rel=>exact⟨k+1,by omega,by go_num,HW,HE⟩
    case measure=>simp[intOf];omega
   | none =>
    rw[hp] at ae
    obtain⟨w2,ag,ah,aa⟩:=acv HH.out ab (by omega) hp
    rw[hlen] at ag
    rw[<-ht] at ah
    have HE:=zh ah
    have ap:Hid (Below w.heap.size w w2/\w.heap.size<w2.heap.size):=by
     have hg:=aa.grown
     exact⟨HW.out.1.grown hg (Nat.le_of_lt HW.out.2) (fun j hj=>by have:=Option.some.inj hj;omega),Nat.lt_of_lt_of_le HW.out.2 hg.size⟩
    clear ht hx hp hlen ab ah aa
    dsimp only[Option.getD,Option.isSome] at ae
    go_wp2_with fail
    go_roundw
    case rel=>exact⟨k+1,by omega,by go_num,ap,HE⟩
    case measure=>simp[intOf];omega
  ·obtain rfl:k=n:=by omega
   have HE:Hid (KMap wr w.heap.size l):=by
    have h:=HH.out
    rw[List.take_of_length_le (by rw[HN.out];exact Nat.le_refl _)] at h
    exact h
   go_wp2_with fail
   go_ret
   exact⟨rfl,HE.out,HW.out.2,HW.out.1⟩
theorem Sz.qQ (ks:List (List UInt8))(i:Nat)(x:Int)(f:Fld)(l:List Fld):ordP ks i x (f :: l)=match placeOf ks f.key with
  | none=>((i:Int),10)
  | some p=>if x<p then ordP ks (i+1) p l else ((i:Int),7):=by rw[ordP];rfl
def Sz.OrdRet (w:World) (X:Int × Int) (e:Ending) (w':World):Prop:=Below w.heap.size w w'/\if X.2=0 then e=.returned (.tuple #[]) else e=panAt X.1 X.2
theorem np (A:Option Addr)(n c:Nat)(l:List Fld)(B:Option Addr)(m d:Nat)(ks:List (List UInt8))(w:World)(hn:l.length=n)(hr:Rg.Row encF 3 w A l)(hl:n<=100000)(hs:Sz.Short l)(hm:ks.length=m)(hk:Rg.Row encT 1 w B ks)(hml:m<=100000)(hks:Sz.ShortT ks) :
  Calls Tryz.prog 129 #[.slice A n c,.slice B m d] w (Sz.OrdRet w (ordP ks 0 (-1) l)):=by
 obtain⟨R,hR⟩:=ex (ordP ks 0 (-1) l)
 rw[hR]
 have HG:=zh hR
 have af:=zh (oX B m d ks w hm hk hml hks)
 have HR:=zh hr
 have HN:=zh hn
 have HS:=zh hs
 have HM:Hid (ks.length<=100000):=by show _<=_;rw[hm];exact hml
 clear hR hr hn hs hm hk hks hml
 go_enter Tryz.func129,Tryz.ntmps129
 go_wp2_with fail
 refine af.out.mono ?_
 rintro _ u ⟨rfl,aj,al,hb⟩
 have am:=zh aj
 have an:=zh al
 have HB:=zh hb
 clear aj al hb af
 go_wp2_with fail
 go_loopw [5,14] (fun v i wr=>∃ (k:Nat) (x:Int),k<=n/\i=.int .i64 k/\v=.int .i64 x/\-1<=x/\x<=1000000/\Hid (Below u.heap.size u wr)/\Hid (ordP ks k x (l.drop k)=R)) (fun _ i _=>n-(intOf i).toNat)
 case atStart=>exact⟨0,-1,Nat.zero_le _,rfl,rfl,by decide,by decide,Below.refl _ _,HG.out⟩
 case round =>
  obtain⟨k,x,hk,rfl,rfl,aq,ar,HW,HH⟩:=hrel
  by_cases ao:k<n
  ·have ac:k<l.length:=by rw[HN.out];exact ao
   obtain⟨ad,rfl,_,c0,c1,c2⟩:=cV (Rg.ak HR.out (bt HB.out HW.out)) k ac
   have hd:l.drop k=l[k] :: l.drop (k+1):=List.drop_eq_getElem_cons ac
   obtain⟨s1,_⟩:=short_at HS.out k ac
   have hh:=HH.out
   rw[hd,qQ] at hh
   obtain⟨f,hf⟩:=ex (l[k])
   rw[hf] at c0 c1 c2 hh s1
   obtain⟨fk,fv,fl⟩:=f
   dsimp only at c0 c1 c2 hh s1
   obtain⟨V,hV⟩:=ex (wr.alloc (.cells #[.string ⟨fk.toArray⟩,.string ⟨fv.toArray⟩,.int .i64 fl] 56))
   have ae:Hid (Below u.heap.size u V):=HW.out.trans ((ai hV).mono HW.out.size)
   obtain⟨v0,v1,v2,_⟩:=dB hV (Below.refl _ _)
   have aa:=qP (yx am.out ae.out an.out) s1
   have ag:Hid (Below w.heap.size w V):=bt HB.out ae.out
   clear hd hf s1
   cases hp:placeOf ks fk with
   | none =>
    rw[hp] at aa hh
    dsimp only[Option.getD,Option.isSome] at aa hh
    have HE:Hid (R=((k:Int),10)):=hh.symm
    clear hh hp
    go_wp2_with fail
    clear hV
    refine (aK _).mono ?_
    rintro _ z ⟨rfl,rfl⟩
    go_wp2_with fail
    exact⟨rfl,by show OrdRet w R _ _;rw[HE.out];exact⟨ag.out,rfl⟩⟩
   | some p =>
    have ah:=acu hp
    have ap:p<=100000:=Nat.le_trans (Nat.le_of_lt ah) HM.out
    rw[hp] at aa hh
    dsimp only[Option.getD,Option.isSome] at aa hh
    clear hp ah
    by_cases ab:x<p
    ·have d0:decide (x<(p:Int))=true:=decide_eq_true ab
     have HE:Hid (ordP ks (k+1) p (l.drop (k+1))=R):=by rw[if_pos ab] at hh;exact hh
     clear hh
     go_wp2_with fail
     clear hV
     refine (aS _).mono ?_
     rintro _ z ⟨rfl,rfl⟩
     go_wp2_with fail
     refine (aS _).mono ?_
     rintro _ z ⟨rfl,rfl⟩
     go_wp2_with fail
     go_roundw
     case rel=>exact⟨k+1,p,by omega,by go_num,rfl,by omega,by omega,ae,HE⟩
     case measure=>simp[intOf];omega
    ·have d0:decide (x<(p:Int))=false:=decide_eq_false ab
     have HE:Hid (R=((k:Int),7)):=by rw[if_neg ab] at hh;exact hh.symm
     clear hh
     go_wp2_with fail
     clear hV
     refine (aS _).mono ?_
     rintro _ z ⟨rfl,rfl⟩
     go_wp2_with fail
     refine (aK _).mono ?_
     rintro _ z ⟨rfl,rfl⟩
     go_wp2_with fail
     exact⟨rfl,by show OrdRet w R _ _;rw[HE.out];exact⟨ag.out,rfl⟩⟩
  ·obtain rfl:k=n:=by omega
   have HE:Hid (R=(0,0)):=by show _=_;rw[<-HH.out,List.drop_eq_nil_of_le (by rw[HN.out];exact Nat.le_refl _)];rfl
   go_wp2_with fail
   go_end0
   show OrdRet w R _ _
   rw[HE.out]
   exact⟨bt HB.out HW.out,rfl⟩
end
end Go.Proofs.YtpfkphmldalmmaaGreatDoor
