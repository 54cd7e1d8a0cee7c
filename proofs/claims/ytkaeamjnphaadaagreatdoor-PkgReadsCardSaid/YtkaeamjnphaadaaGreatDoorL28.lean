/- Part 28 of what the laws lean on. -/
import Derived.Test.YtkaeamjnphaadaaGreatDoorL27
set_option maxRecDepth 100000
set_option maxHeartbeats 6400000
namespace Go.Proofs.YtkaeamjnphaadaaGreatDoor
namespace Wm
def top (n:Bool):Int:=if n then 9223372036854775808 else 0
theorem orTop (n:Bool)(r:Nat)(h:r<9223372036854775808):bits .or .u64 (top n) (r:Int)=(word n r:Nat):=by
 cases n
 ·have h1:=u64_or_nat 0 r (by decide) (by omega)
  rw[Nat.zero_or] at h1
  exact h1
 ·have h1:=u64_or_nat 9223372036854775808 r (by decide) (by omega)
  rw[Nat.or_comm,wN h] at h1
  exact h1
theorem wrapU (r:Nat)(h:r<18446744073709551616):IntKind.u64.wrap (r:Int)=r:=by rw[IntKind.wrap_u64];omega
theorem subRung {m:Nat}{E:Int}(h:0<m)(h2:m<2 ^ 53)(hi:(m.log2:Int)+E<=-1022):(m:Int)*2 ^ (E+1074).toNat=((rungOf m E:Nat):Int)/\rungOf m E<9218868437227405312:=by
 refine⟨?_,(iN h h2 (by omega)).2⟩
 unfold rungOf
 rw[if_pos hi,Int.natCast_mul,Int.natCast_pow];rfl
theorem finS (n:Bool){m:Nat}{E:Int}(h:0<m)(h2:m<2 ^ 53)(hi:(m.log2:Int)+E<=-1022):(bits .or .u64 (top n) ((m:Int)*2 ^ (E+1074).toNat)).toNat=word n (rungOf m E):=by
 obtain⟨e,hl⟩:=subRung h h2 hi
 rw[e,orTop n _ (by omega)];rfl
theorem finSw (n:Bool){m:Nat}{E:Int}(h:0<m)(h2:m<2 ^ 53)(hi:(m.log2:Int)+E<=-1022):(bits .or .u64 (top n) (IntKind.u64.wrap ((m:Int)*2 ^ (E+1074).toNat))).toNat=word n (rungOf m E):=by
 obtain⟨e,hl⟩:=subRung h h2 hi
 rw[e,wrapU _ (by omega),orTop n _ (by omega)];rfl
theorem aeh (n:Bool){q f:Nat}(hq:q<2048)(hf:f<4503599627370496):word n (q*4503599627370496) ||| f=word n (q*4503599627370496+f):=by
 have e0:=pM n (q:=q) (f:=0) hq (by decide)
 have e1:=mb n (r:=0) (by decide)
 have e2:=mb n (r:=f) (by omega)
 rw[Nat.or_zero] at e1
 rw[<-pM n hq hf,e2,<-Nat.add_zero (q*4503599627370496),<-e0,e1,Nat.or_assoc,Nat.or_comm (q*4503599627370496) f,<-Nat.or_assoc,Nat.add_zero]
theorem finN (n:Bool){m:Nat}{E:Int}(h:0<m)(h2:m<2 ^ 53)(lo:-1022<=(m.log2:Int)+E)(hi:(m.log2:Int)+E<=1023) :
  (bits .or .u64 (bits .or .u64 (top n) (((m.log2:Int)+1+E-1+1023)*4503599627370496)) (bits .and .u64 (IntKind.u64.wrap ((m:Int)*2 ^ (52-m.log2))) 4503599627370495)).toNat=word n (rungOf m E):=by
 have hn:=gz h h2
 obtain⟨q,hq⟩:∃ q:Nat,(m.log2:Int)+E+1023=q:=⟨((m.log2:Int)+E+1023).toNat,by omega⟩
 have hK:(m:Int)*2 ^ (52-m.log2)=((m*2 ^ (52-m.log2):Nat):Int):=by rw[Int.natCast_mul,Int.natCast_pow];rfl
 have hr:rungOf m E=q*4503599627370496+(m*2 ^ (52-m.log2)-4503599627370496):=by
  unfold rungOf
  split
  ·rw[show (E+1074).toNat=52-m.log2 from by have:=bP h h2;omega];omega
  ·omega
 rw[hK,hr]
 generalize m*2 ^ (52-m.log2)=K at *
 rw[wrapU K (by omega),show ((m.log2:Int)+1+E-1+1023)*4503599627370496=((q*4503599627370496:Nat):Int) from by omega,orTop n _ (by omega)]
 have h3:bits .and .u64 (K:Int) 4503599627370495=((K % 4503599627370496:Nat):Int):=by
  have h1:=u64_and_nat K 4503599627370495 (by omega) (by decide)
  refine h1.trans ?_
  rw[show (4503599627370495:Nat)=2 ^ 52-1 from rfl,Nat.and_two_pow_sub_one_eq_mod]
 rw[h3,show K % 4503599627370496=K-4503599627370496 from by omega]
 have h4:=u64_or_nat (word n (q*4503599627370496)) (K-4503599627370496) (bu n (by omega)).2.2 (by omega)
 rw[h4,aeh n (by omega) (by omega)];rfl
end Wm
section
open Go.RowKit
def refOut (l:List UInt8):Nat:=if l=[110,97,110] then 9221120237041090560 else outW l
def refEnd (l:List UInt8):Ending:=.returned (.tuple #[.float .f64 (refOut l),.int .i64 (errW l)])
theorem vx (a:List UInt8)(hp:Wm.plain a)(h:lastOdd a=true):Vm.num a % 2=1:=by
 obtain⟨p1,p2,_⟩:=hp
 have e:=Wm.tB a p1
 have aa:Vm.dig (a.getLast p1)=true:=by rw[List.all_eq_true] at p2;exact p2 _ (List.getLast_mem p1)
 rw[Wm.jt] at aa
 unfold lastOdd at h
 rw[List.getLast?_eq_some_getLast p1] at h
 have h':(((a.getLast p1).toNat:Int)-48) % 2=1:=by simpa using h
 omega
theorem nB {l:List UInt8}{most:Nat}(h:Vm.num l<=most):valR l most=.returned (.tuple #[.int .u64 (Vm.num l),.bool true]):=if_pos h
theorem pR {l:List UInt8}{most:Nat}(h:¬ Vm.num l<=most):valR l most=.returned (.tuple #[.int .u64 0,.bool false]):=if_neg h
theorem form_nil:formOk []=false:=by decide
theorem yz (l:List UInt8)(h3:(l==[110,97,110])=false)(he:errW l=prodErr l)(hv:valW l=prodOf l) :
  (formOk l=false->refEnd l=.returned (.tuple #[.float .f64 0,.int .i64 2])) /\
  (formOk l=true->Wm.rangeOk (Wm.nmb (Vm.fst 112 l)) (Wm.nmb (Vm.snd 112 l))=false->refEnd l=.returned (.tuple #[.float .f64 0,.int .i64 8])) /\
  (formOk l=true->Wm.rangeOk (Wm.nmb (Vm.fst 112 l)) (Wm.nmb (Vm.snd 112 l))=true->refEnd l=.returned (.tuple #[.float .f64 (Wm.prodVal (Wm.nmb (Vm.fst 112 l)) (Wm.nmb (Vm.snd 112 l))),.int .i64 0])):=by
 have hn:l≠[110,97,110]:=by simpa using h3
 unfold refEnd refOut
 rw[if_neg hn]
 unfold outW
 rw[he,hv]
 unfold prodOf prodErr
 refine⟨fun h=>?_,fun h h2=>?_,fun h h2=>?_⟩
 ·rw[h];rfl
 ·rw[h,h2];rfl
 ·rw[h,h2];rfl
theorem refVal (l:List UInt8)(h:formOk l=true)(hr:Wm.rangeOk (Wm.nmb (Vm.fst 112 l)) (Wm.nmb (Vm.snd 112 l))=true) :
  Wm.prodVal (Wm.nmb (Vm.fst 112 l)) (Wm.nmb (Vm.snd 112 l))=Wm.word (Wm.sgnd l) (Wm.rungOf (Vm.num (Vm.fst 112 (Wm.mgn l))) (Wm.sg (Wm.sgnd (Vm.snd 112 l)) (Vm.num (Wm.mgn (Vm.snd 112 l)))))/\Vm.num (Vm.fst 112 (Wm.mgn l)) % 2=1:=by
 obtain⟨q1,q2,q3,q4⟩:=gl l
 rw[<-q2,<-q3]
 have hf:=h
 unfold formOk at hf
 simp only[Bool.and_eq_true] at hf
 obtain⟨_,h2,_,h4⟩:=hf
 have aa:=aax _ h2 h4
 have ab:=i9 l
 rw[hr] at ab
 unfold refRange at ab
 simp only[Bool.and_eq_true,decide_eq_true_eq] at ab
 obtain⟨r1,r2,_⟩:=ab
 generalize Vm.fst 112 l=a at *
 generalize Vm.snd 112 l=b at *
 have hF:Wm.nmb a=if Wm.sgnd a then -(Vm.num (Wm.mgn a):Int) else Vm.num (Wm.mgn a):=by
  unfold Wm.nmb;cases Wm.sgnd a <;> simp only[Bool.false_eq_true,if_false,if_true] <;> rw[if_pos (by omega)]
 have hP:Wm.nmb b=Wm.sg (Wm.sgnd b) (Vm.num (Wm.mgn b)):=by
  unfold Wm.nmb Wm.sg;cases Wm.sgnd b <;> simp only[Bool.false_eq_true,if_false,if_true] <;> rw[if_pos (by omega)] <;> omega
 rw[hP]
 rw[hF] at aa ⊢
 unfold Wm.prodVal
 generalize Vm.num (Wm.mgn a)=m at *
 cases Wm.sgnd a
 ·simp only[Bool.false_eq_true,if_false] at aa ⊢
  rw[decide_eq_false (by omega),Int.natAbs_natCast]
  exact⟨rfl,by omega⟩
 ·simp only[if_true] at aa ⊢
  rw[decide_eq_true (by omega),Int.natAbs_neg,Int.natAbs_natCast]
  exact⟨rfl,by omega⟩
theorem tU (l:List UInt8)(hl:l.length<=1000)(w:World) :
  Calls Tryz.prog 60 #[.string ⟨l.toArray⟩] w fun e w'=>e=refEnd l/\w=w':=by
 have a0:=ic
 rcases lI l with rfl | rfl | rfl | rfl | rfl | ⟨h1,h2,h3,h4,h5,he,hv⟩
 ·have HV:Hid (refEnd [105,110,102]=.returned (.tuple #[.float .f64 9218868437227405312,.int .i64 0])):=by
   show _=_;unfold refEnd
   rw[show refOut [105,110,102]=9218868437227405312 from by decide +kernel,show errW [105,110,102]=0 from by decide +kernel]
  go_enter Tryz.func60,Tryz.ntmps60
  go_wp2_with fail
  go_ret2
  exact⟨by rw[HV.out];rfl,rfl⟩
 ·have HV:Hid (refEnd [45,105,110,102]=.returned (.tuple #[.float .f64 18442240474082181120,.int .i64 0])):=by
   show _=_;unfold refEnd
   rw[show refOut [45,105,110,102]=18442240474082181120 from by decide +kernel,show errW [45,105,110,102]=0 from by decide +kernel]
  go_enter Tryz.func60,Tryz.ntmps60
  go_wp2_with fail
  go_ret2
  exact⟨by rw[HV.out];rfl,rfl⟩
 ·have HV:Hid (refEnd [110,97,110]=.returned (.tuple #[.float .f64 9221120237041090560,.int .i64 0])):=by
   show _=_;unfold refEnd
   rw[show refOut [110,97,110]=9221120237041090560 from by decide +kernel,show errW [110,97,110]=0 from by decide +kernel]
  go_enter Tryz.func60,Tryz.ntmps60
  go_wp2_with fail
  go_ret2
  exact⟨by rw[HV.out];rfl,rfl⟩
 ·have HV:Hid (refEnd [48]=.returned (.tuple #[.float .f64 0,.int .i64 0])):=by
   show _=_;unfold refEnd
   rw[show refOut [48]=0 from by decide +kernel,show errW [48]=0 from by decide +kernel]
  go_enter Tryz.func60,Tryz.ntmps60
  go_wp2_with fail
  go_ret2
  exact⟨by rw[HV.out];rfl,rfl⟩
 ·have HV:Hid (refEnd [45,48]=.returned (.tuple #[.float .f64 9223372036854775808,.int .i64 0])):=by
   show _=_;unfold refEnd
   rw[show refOut [45,48]=9223372036854775808 from by decide +kernel,show errW [45,48]=0 from by decide +kernel]
  go_enter Tryz.func60,Tryz.ntmps60
  go_wp2_with fail
  go_ret2
  exact⟨by rw[HV.out];rfl,rfl⟩
 ·obtain⟨E1,E2,E3⟩:=yz l h3 he hv
  have H1:=zh E1
  have ax:=yx l
  have aq:=i9 l
  have ay:=refVal l
  obtain⟨q1,q2,q3,q4⟩:=gl l
  have H2:Hid (formOk l=true->refRange (Vm.num (Vm.fst 112 (Wm.mgn l))) (Vm.num (Wm.mgn (Vm.snd 112 (Wm.mgn l)))) (Wm.sgnd (Vm.snd 112 (Wm.mgn l)))=false->refEnd l=.returned (.tuple #[.float .f64 0,.int .i64 8])):=by
   show _->_->_
   intro h h6
   rw[<-q2,<-q4,aq] at h6
   exact E2 h h6
  have H3:Hid (formOk l=true->refRange (Vm.num (Vm.fst 112 (Wm.mgn l))) (Vm.num (Wm.mgn (Vm.snd 112 (Wm.mgn l)))) (Wm.sgnd (Vm.snd 112 (Wm.mgn l)))=true->refEnd l=.returned (.tuple #[.float .f64 (Wm.word (Wm.sgnd l) (Wm.rungOf (Vm.num (Vm.fst 112 (Wm.mgn l))) (Wm.sg (Wm.sgnd (Vm.snd 112 (Wm.mgn l))) (Vm.num (Wm.mgn (Vm.snd 112 (Wm.mgn l))))))),.int .i64 0])/\Vm.num (Vm.fst 112 (Wm.mgn l)) % 2=1):=by
   show _->_->_
   intro h h6
   rw[<-q2,<-q4,aq] at h6
   obtain⟨v1,v2⟩:=ay h h6
   refine⟨?_,v2⟩
   rw[E3 h h6,v1,q4]
  have HF:Hid (formOk l=(Vm.has 112 (Wm.mgn l)&&(plainB (Vm.fst 112 (Wm.mgn l))&&(plainB (Wm.mgn (Vm.snd 112 (Wm.mgn l)))&&(!(Wm.sgnd (Vm.snd 112 (Wm.mgn l))&&Wm.mgn (Vm.snd 112 (Wm.mgn l))==[48])&&lastOdd (Vm.fst 112 (Wm.mgn l))))))):=by
   show _=_
   rw[<-ax];unfold refForm;rw[q4]
  have ac:=kl l
  have ad:=Wm.tC l
  clear E1 E2 E3 he hv ax aq ay q1 q2 q3 q4
  by_cases h0:l=[]
  ·subst h0
   have HV:=zh (H1.out form_nil)
   clear H1 H2 H3 HF ac ad
   go_enter Tryz.func60,Tryz.ntmps60
   go_wp2_with fail
   refine (iz [] 112 _ (by decide)).mono ?_
   rintro e w1 ⟨g1,g2⟩;subst g2;subst g1
   rw[show place [] 112 = -1 from by decide]
   go_wp2_with fail
   go_ret2
   exact⟨by rw[HV.out];rfl,rfl⟩
  have ar:0<l.length:=List.length_pos_iff.2 h0
  have aS:l.isEmpty=false:=by cases l <;> simp at *
  obtain⟨c,hc,aP⟩:=byte_at l 0 ar
  have az:((c.toNat:Int)==45)=Wm.sgnd l:=by
   unfold Wm.sgnd
   cases l with
   | nil=>exact absurd rfl h0
   | cons x u =>
    have:x=c:=aP
    subst this
    rw[Bool.eq_iff_iff]
    simp only[List.head?_cons,beq_iff_eq,Option.some.injEq]
    exact⟨fun h=>UInt8.toNat.inj (show x.toNat=45 by omega),fun h=>by rw[h];rfl⟩
  clear aP h0
  cases hs:Wm.sgnd l
  all_goals
   rw[hs] at az H3 ac
   simp only[Bool.false_eq_true,if_false,if_true] at ac
   clear hs
  case' false =>
   rw[<-ac] at H2 H3 HF ad
   clear ac
   obtain⟨t,rfl⟩:∃ t,t=l:=⟨l,rfl⟩
  case' true =>
   have hex:(ByteArray.mk l.toArray).extract 1 l.length=⟨(Wm.mgn l).toArray⟩:=by
    rw[ByteArray.extract_mk]
    conv=>lhs;rw[ac]
    simp
   clear ac
   obtain⟨t,ht⟩:=ex (Wm.mgn l)
   rw[ht] at H2 H3 HF ad hex
   clear ht
  all_goals
   have ac:t.length<=1000:=by omega
   have aA:=iz t 112
   have aB:=jh (. != 112) t
   have a1:=gP 112 t
   have a2:=eO t 112
   have ae:=ji t 112
   have aj:(ByteArray.mk t.toArray).extract 0 (Vm.fst 112 t).length=⟨(Vm.fst 112 t).toArray⟩:=by
    rw[ByteArray.extract_mk,List.drop_zero,Nat.sub_zero]
    exact congrArg (fun x:List UInt8=>ByteArray.mk x.toArray) aB
   have ak:(ByteArray.mk t.toArray).extract ((Vm.fst 112 t).length+1) t.length=⟨(Vm.snd 112 t).toArray⟩:=by
    rw[ByteArray.extract_mk]
    refine congrArg (fun x:List UInt8=>ByteArray.mk x.toArray) ?_
    rw[List.take_of_length_le (by rw[List.length_drop];exact Nat.le_refl _),<-List.drop_drop]
    unfold Vm.snd Vm.fst
    rw[lV]
   have ah:place t 112=if Vm.has 112 t then ((Vm.fst 112 t).length:Int) else -1:=rfl
   generalize place t 112=pl at *
   go_enter Tryz.func60,Tryz.ntmps60
   go_wp2_with fail
   clear h1 h2 h3 h4 h5 hc az
   refine (aA _ (by omega)).mono ?_
   rintro e w1 ⟨g1,g2⟩;subst g2;subst g1
   clear aA
   cases hh:Vm.has 112 t
   ·have HV:=zh (H1.out (by rw[HF.out,hh];rfl))
    rw[hh] at ah
    simp only[Bool.false_eq_true,if_false] at ah
    subst ah
    clear hh aj ak H1 H2 H3 HF ae
    go_wp2_with fail
    go_ret2
    exact⟨by rw[HV.out];rfl,rfl⟩
   ·have a3:=ae.1 hh
    rw[hh] at ah HF
    simp only[if_true] at ah
    subst ah
    clear ae hh aB
    generalize Vm.fst 112 t=a at *
    generalize Vm.snd 112 t=b0 at *
    have aC:=Wm.tC b0
    have aD:=kl b0
    by_cases ap:b0=[]
    case pos =>
     subst ap
     have HV:=zh (H1.out (by rw[HF.out,show plainB (Wm.mgn [])=false from rfl];simp))
     clear H1 H2 H3 HF aD
     go_wp2_with fail
     go_at_call 113
     refine (iU a (by omega) _).mono ?_
     rintro e w1 ⟨g1,g2⟩;subst g2;subst g1
     cases ai:plainB a
     ·go_wp2_with fail
      go_ret2
      exact⟨by rw[HV.out];rfl,rfl⟩
     go_wp2_with fail
     go_at_call 113
     refine (iU [] (by simp) _).mono ?_
     rintro e w1 ⟨g1,g2⟩;subst g2;subst g1
     rw[show plainB []=false from rfl]
     go_wp2_with fail
     go_ret2
     exact⟨by rw[HV.out];rfl,rfl⟩
    case neg =>
     have al:0<b0.length:=List.length_pos_iff.2 ap
     have aE:b0.isEmpty=false:=by cases b0 <;> simp at *
     obtain⟨d,hd,aQ⟩:=byte_at b0 0 al
     have aT:((d.toNat:Int)==45)=Wm.sgnd b0:=by
      unfold Wm.sgnd
      cases b0 with
      | nil=>exact absurd rfl ap
      | cons x u =>
       have:x=d:=aQ
       subst this
       rw[Bool.eq_iff_iff]
       simp only[List.head?_cons,beq_iff_eq,Option.some.injEq]
       exact⟨fun h=>UInt8.toNat.inj (show x.toNat=45 by omega),fun h=>by rw[h];rfl⟩
     clear aQ ap
     have af:(ByteArray.mk b0.toArray).extract 1 b0.length=⟨(b0.drop 1).toArray⟩:=by
      rw[ByteArray.extract_mk]
      refine congrArg (fun x:List UInt8=>ByteArray.mk x.toArray) ?_
      rw[List.take_of_length_le (by rw[List.length_drop];exact Nat.le_refl _)]
     have ag:Wm.mgn b0=if Wm.sgnd b0 then b0.drop 1 else b0:=rfl
     clear aD
     obtain⟨ng,aw⟩:=ex (Wm.sgnd b0)
     rw[aw] at aT ag
     cases ng
     all_goals
      rw[aw] at HF H2 H3
      clear aw
     case' false =>
      simp only[Bool.false_eq_true,if_false] at ag
      rw[ag] at HF H2 H3 aC
      clear ag af
      obtain⟨bl,rfl⟩:∃ bl,bl=b0:=⟨b0,rfl⟩
     case' true =>
      simp only[if_true] at ag
      rw[<-ag] at af
      obtain⟨bl,ao⟩:∃ bl,Wm.mgn b0=bl:=⟨_,rfl⟩
      rw[ao] at HF H2 H3 aC af
      clear ag ao
     all_goals
      go_wp2_with fail
      go_at_call 113
      refine (iU a (by omega) _).mono ?_
      rintro e w1 ⟨g1,g2⟩;subst g2;subst g1
      cases ai:plainB a
      ·have HV:=zh (H1.out (by rw[HF.out,ai];rfl))
       clear H1 H2 H3 HF ai
       go_wp2_with fail
       go_ret2
       exact⟨by rw[HV.out];rfl,rfl⟩
      have am:=zh ((km a).1 ai)
      rw[ai] at HF
      clear ai
      go_wp2_with fail
      go_at_call 113
      refine (iU bl (by omega) _).mono ?_
      rintro e w1 ⟨g1,g2⟩;subst g2;subst g1
      cases an:plainB bl
      ·have HV:=zh (H1.out (by rw[HF.out,an];rfl))
       clear H1 H2 H3 HF an
       go_wp2_with fail
       go_ret2
       exact⟨by rw[HV.out];rfl,rfl⟩
      have aF:=zh ((km bl).1 an)
      rw[an] at HF
      clear an
      have aU:0<a.length:=List.length_pos_iff.2 am.out.1
      obtain⟨z,hz,aR⟩:=byte_at a (a.length-1) (by omega)
      have aG:lastOdd a=(((z.toNat:Int)-48) % 2==1):=by
       unfold lastOdd
       rw[List.getLast?_eq_some_getLast am.out.1,List.getLast_eq_getElem,aR];rfl
      clear aR
      have au:(((z.toNat:Int)-48) % 2==0) = !lastOdd a:=by
       rw[aG]
       cases hq:(((z.toNat:Int)-48) % 2==1)
       ·rw[Bool.not_false,beq_iff_eq];rw[beq_eq_false_iff_ne] at hq;omega
       ·rw[Bool.not_true,beq_eq_false_iff_ne];rw[beq_iff_eq] at hq;omega
      clear aG
      cases aH:(bl==[48])
      all_goals
       cases ab:lastOdd a
       all_goals
        rw[aH,ab] at HF
        rw[ab] at au
        simp only[Bool.and_true,Bool.and_false,Bool.not_true,Bool.not_false] at HF au
        have aa:=vx a am.out
        rw[ab] at aa
        clear ab
        first
        | (
         have HV:=zh (H1.out HF.out)
         clear H1 H2 H3 HF
         go_wp2_with fail
         go_ret2
         exact⟨by rw[HV.out];rfl,rfl⟩)
        | (
         have HT:Hid (formOk _=true):=HF
         clear H1
         have aV:Vm.num a % 2=1:=aa rfl
         have aI:=zh am.out.2.1
         have aJ:=zh aF.out.2.1
         clear aa am aF
         go_wp2_with fail
         clear au aH
         go_at_call 114
         refine (qK a 9007199254740991 (by omega) aI.out (by decide) (by decide) _).mono ?_
         rintro e w1 ⟨g1,g2⟩;subst g2;subst g1
         have aK:=qK bl 5000 (by omega) aJ.out (by decide) (by decide)
         have av:=zh aK
         clear aK aI aJ
         by_cases hm:Vm.num a<=9007199254740991
         ·rw[nB hm]
          go_wp2_with fail
          go_at_call 114
          refine (av.out _).mono ?_
          rintro e w1 ⟨g1,g2⟩;subst g2;subst g1
          clear av
          by_cases hk:Vm.num bl<=5000
          ·rw[nB hk]
           generalize Vm.num a=m at *
           generalize Vm.num bl=k at *
           clear aj ak
           have a4:(k:Int)<=5000:=by omega
           go_wp2_with fail
           have aL:∀ g,refRange m k g=(decide (-1074<=Wm.sg g k)&&decide ((m.log2:Int)+1+Wm.sg g k<=1024)):=fun g=>by
            unfold refRange;rw[decide_eq_true hm,decide_eq_true hk];simp
           rw[aL] at H2 H3
           first
           | (
            rw[show Wm.sg true k = -(k:Int) from by simp[Wm.sg]] at H2 H3
            obtain⟨E,hE⟩:∃ E:Int,-(k:Int)=E:=⟨_,rfl⟩
            rw[hE] at H2 H3 ⊢)
           | (
            rw[show Wm.sg false k=(k:Int) from by simp[Wm.sg]] at H2 H3
            obtain⟨E,hE⟩:∃ E:Int,(k:Int)=E:=⟨_,rfl⟩
            rw[hE] at H2 H3 ⊢)
           have a5:-5000<=E/\E<=5000:=by omega
           have aM:=H2.out HT.out
           have aN:=fun h=>(H3.out HT.out h).1
           have H2:=zh aM
           have H3:=zh aN
           clear aM aN aL HT
           go_loop [14,15] (fun y v=>∃ (x y0:Nat),y=.int .i64 y0/\v=.int .u64 x/\Hid (BitSt m x y0)) (fun _ v=>(intOf v).toNat)
           case atStart=>exact⟨m,0,rfl,rfl,vw (by omega)⟩
           case round =>
            obtain⟨x,y,rfl,rfl,HS⟩:=hrel
            have aW:=HS.out.2
            have aX:=Wm.bP (k:=m) (by omega) (by omega)
            have hy:y<=60:=by
             have h1:=HS.out.1
             split at h1 <;> omega
            by_cases hx:0<x
            ·have HN:=zh (yy HS.out hx)
             clear HS
             go_wp2_with fail
             go_round
             case rel=>exact⟨x / 2,y+1,by go_num,by go_num,HN⟩
             case measure=>simp[intOf];omega
            ·obtain rfl:x=0:=by omega
             have a6:(y:Int)=m.log2+1:=by have:=HS.out.1;simp at this;omega
             clear HS hx aW
             by_cases c1:E < -1074
             ·have HV:=zh (H2.out (by rw[decide_eq_false (by omega)];rfl))
              clear H2 H3
              go_wp2_with fail
              go_ret2
              exact⟨by rw[HV.out];rfl,rfl⟩
             by_cases c2:1024<(m.log2:Int)+1+E
             ·have HV:=zh (H2.out (by rw[decide_eq_false (show ¬ (m.log2:Int)+1+E<=1024 by omega),Bool.and_false]))
              clear H2 H3
              go_wp2_with fail
              go_ret2
              exact⟨by rw[HV.out];rfl,rfl⟩
             have HV:=zh (H3.out (by rw[decide_eq_true (show -1074<=E by omega),decide_eq_true (show (m.log2:Int)+1+E<=1024 by omega)];rfl))
             clear H2 H3
             by_cases c3:(m.log2:Int)+1+E-1 < -1022
             ·have c4:0<=E+1074:=by omega
              go_wp2_with fail
              go_ret2
              refine⟨?_,rfl⟩
              rw[HV.out]
              first
              | (
               have aY:=hex
               first
               | (
                have aZ:-(k:Int)=E:=hE
                exact congrArg (fun x=>Ending.returned (Value.tuple #[.float .f64 x,.int .i64 0])) (Wm.finSw true (by omega) (by omega) (by omega)))
               | exact congrArg (fun x=>Ending.returned (Value.tuple #[.float .f64 x,.int .i64 0])) (Wm.finS true (by omega) (by omega) (by omega)))
              | (
               first
               | (
                have aZ:-(k:Int)=E:=hE
                exact congrArg (fun x=>Ending.returned (Value.tuple #[.float .f64 x,.int .i64 0])) (Wm.finSw false (by omega) (by omega) (by omega)))
               | exact congrArg (fun x=>Ending.returned (Value.tuple #[.float .f64 x,.int .i64 0])) (Wm.finS false (by omega) (by omega) (by omega)))
             ·go_wp2_with fail
              go_ret2
              refine⟨?_,rfl⟩
              rw[HV.out]
              first
              | (
               have aY:=hex
               exact congrArg (fun x=>Ending.returned (Value.tuple #[.float .f64 x,.int .i64 0])) (Wm.finN true (by omega) (by omega) (by omega) (by omega)))
              | exact congrArg (fun x=>Ending.returned (Value.tuple #[.float .f64 x,.int .i64 0])) (Wm.finN false (by omega) (by omega) (by omega) (by omega))
          ·rw[pR hk]
           have HV:=zh (H2.out HT.out (by unfold refRange;rw[decide_eq_false hk];simp))
           clear H2 H3
           go_wp2_with fail
           go_ret2
           exact⟨by rw[HV.out];rfl,rfl⟩
         ·rw[pR hm]
          have HV:=zh (H2.out HT.out (by unfold refRange;rw[decide_eq_false hm];simp))
          clear H2 H3
          go_wp2_with fail
          go_at_call 114
          refine (av.out _).mono ?_
          rintro e w1 ⟨g1,g2⟩;subst g2;subst g1
          by_cases aO:Vm.num bl<=5000
          ·rw[nB aO]
           go_wp2_with fail
           go_ret2
           exact⟨by rw[HV.out];rfl,rfl⟩
          ·rw[pR aO]
           go_wp2_with fail
           go_ret2
           exact⟨by rw[HV.out];rfl,rfl⟩)
theorem acG (l:List UInt8)(hn:l≠[110,97,110]):outW l<Wm.W/\Wm.nan (outW l)=false:=by
 have ac:(0:Nat)<Wm.W/\Wm.nan 0=false:=⟨by decide,by decide⟩
 rcases lI l with rfl | rfl | rfl | rfl | rfl | ⟨_,_,_,_,_,he,hv⟩
 ·exact⟨by decide +kernel,by decide +kernel⟩
 ·exact⟨by decide +kernel,by decide +kernel⟩
 ·exact absurd rfl hn
 ·exact⟨by decide +kernel,by decide +kernel⟩
 ·exact⟨by decide +kernel,by decide +kernel⟩
 ·unfold outW
  by_cases h:errW l=0
  ·rw[if_pos h,hv]
   rw[he] at h
   unfold prodOf
   rw[if_pos h]
   unfold prodErr at h
   cases hf:formOk l
   ·rw[hf] at h;simp at h
   ·rw[hf] at h
    simp only[if_true] at h
    cases hr:Wm.rangeOk (Wm.nmb (Vm.fst 112 l)) (Wm.nmb (Vm.snd 112 l))
    ·rw[hr] at h;simp at h
    ·obtain⟨v1,v2⟩:=refVal l hf hr
     rw[v1]
     have ab:=i9 l
     rw[hr] at ab
     unfold refRange at ab
     simp only[Bool.and_eq_true,decide_eq_true_eq] at ab
     obtain⟨r1,r2,r3,r4⟩:=ab
     obtain⟨q1,q2,q3,q4⟩:=gl l
     rw[q2] at r1 r4
     have hb:=Wm.iN (k:=Vm.num (Vm.fst 112 (Wm.mgn l))) (e:=Wm.sg (Wm.sgnd (Vm.snd 112 l)) (Vm.num (Wm.mgn (Vm.snd 112 l)))) (by omega) (by omega) (by omega)
     have aa:Fin (Wm.rungOf (Vm.num (Vm.fst 112 (Wm.mgn l))) (Wm.sg (Wm.sgnd (Vm.snd 112 l)) (Vm.num (Wm.mgn (Vm.snd 112 l))))):=hb
     exact⟨(bR aa _).1,(bR aa _).2.1⟩
  ·rw[if_neg h];exact ac
theorem pS (l:List UInt8):outW l<Wm.W:=by
 by_cases hn:l=[110,97,110]
 ·subst hn;decide +kernel
 ·exact (acG l hn).1
end
section
open Go.RowKit Rs At Pg
namespace Pg
def AFr (B:Nat) (A:Option Addr):Prop:=∀ a,A=some a->B<=a.block
def PRows (B:Nat) (u:World) (p:Pk) (D C G:Option Addr):Prop:=(Pg.DRowF B u D p.deps/\AFr B D)/\(ARow u C p.confl/\AFr B C)/\(GRow u G p.prov/\AFr B G)
abbrev pCells (p:Pk) (D C G:Option Addr) (dc cc gc:Nat):Array Value:=#[.string ⟨p.name.toArray⟩,.string ⟨p.ver.toArray⟩,.slice D p.deps.length dc,.slice C p.confl.length cc,.slice G p.prov.length gc,.float .f64 p.wt]
def PBlk (T:TypeId) (b B:Nat) (p:Pk) (u:World):Prop:=∃ D dc C cc G gc,u.heap[b]?=some (.cells (pCells p D C G dc cc gc) T (0,0))/\PRows B u p D C G
theorem fM {B b:Nat}{A:Option Addr}{α:Type}{l:List α}(h:AFr B A)(hb:b<B):0<l.length->∀ a,A=some a->some b≠some a.block:=fun _ a ha e=>by
 have:=h a ha
 have:=Option.some.inj e
 omega
theorem iV {B b:Nat}{w u:World}{A:Option Addr}{t:List (List Atm)}(h:Pg.DRowF B w A t)(hA:AFr B A)(hb:But (some b) w u)(hlt:b<B)(hg:∀ j x,w.cell? ⟨b,j,none⟩=some x->NoB x):Pg.DRowF B u A t:=by
 obtain⟨ds,h1,h2,h3⟩:=h
 refine⟨ds,fp h1 hb (fM hA hlt),⟨h2.1,fun i d l e1 e2=>⟨(h2.2 i d l e1 e2).1,fq (h2.2 i d l e1 e2).2 hb (fM (fun a ha=>h3 i d e1 a ha) hlt) (fun g hg2=>by cases hg2;exact hg)⟩⟩,h3⟩
theorem bH {B b:Nat}{w u:World}{p:Pk}{D C G:Option Addr}(h:PRows B w p D C G)(hb:But (some b) w u)(hlt:b<B)(hg:∀ j x,w.cell? ⟨b,j,none⟩=some x->NoB x):PRows B u p D C G :=
 ⟨⟨iV h.1.1 h.1.2 hb hlt hg,h.1.2⟩,⟨fq h.2.1.1 hb (fM h.2.1.2 hlt) (fun g hg2=>by cases hg2;exact hg),h.2.1.2⟩,⟨fp h.2.2.1 hb (fM h.2.2.2 hlt),h.2.2.2⟩⟩
theorem vy {B:Nat}{w u:World}{A:Option Addr}{t:List (List Atm)}(h:Pg.DRowF B w A t)(hb:Below w.heap.size w u):Pg.DRowF B u A t:=by
 obtain⟨ds,h1,h2,h3⟩:=h
 exact⟨ds,Rg.ai h1 hb,lD h2 hb,h3⟩
theorem cq {B:Nat}{w u:World}{p:Pk}{D C G:Option Addr}(h:PRows B w p D C G)(hb:Below w.heap.size w u):PRows B u p D C G :=
 ⟨⟨vy h.1.1 hb,h.1.2⟩,⟨aw h.2.1.1 hb,h.2.1.2⟩,⟨Rg.ai h.2.2.1 hb,h.2.2.2⟩⟩
theorem block_lt {u:World}{b:Nat}{o:Obj}(h:u.heap[b]?=some o):b<u.heap.size:=(Array.getElem?_eq_some_iff.1 h).1
theorem cK {T:TypeId}{b B:Nat}{p:Pk}{u u':World}(h:PBlk T b B p u)(hb:Below u.heap.size u u'):PBlk T b B p u':=by
 obtain⟨D,dc,C,cc,G,gc,h1,h2⟩:=h
 exact⟨D,dc,C,cc,G,gc,(hb.block _ (block_lt h1)).trans h1,cq h2 hb⟩
theorem aei {T:TypeId}{b B:Nat}{p:Pk}{u:World}(h:PBlk T b B p u):b<u.heap.size:=by
 obtain⟨D,dc,C,cc,G,gc,h1,_⟩:=h
 exact block_lt h1
theorem eJ {T:TypeId}{b B:Nat}{p:Pk}{u:World}(h:PBlk T b B p u):∃ x0 x1 x2 x3 x4 x5,(u.cell? ⟨b,0,none⟩=some x0/\u.frozen? ⟨b,0,none⟩=false)/\(u.cell? ⟨b,1,none⟩=some x1/\u.frozen? ⟨b,1,none⟩=false)/\(u.cell? ⟨b,2,none⟩=some x2/\u.frozen? ⟨b,2,none⟩=false)/\(u.cell? ⟨b,3,none⟩=some x3/\u.frozen? ⟨b,3,none⟩=false)/\(u.cell? ⟨b,4,none⟩=some x4/\u.frozen? ⟨b,4,none⟩=false)/\(u.cell? ⟨b,5,none⟩=some x5/\u.frozen? ⟨b,5,none⟩=false):=by
 obtain⟨D,dc,C,cc,G,gc,h1,_⟩:=h
 have c:∀ j v,(pCells p D C G dc cc gc)[j]?=some v->u.cell? ⟨b,j,none⟩=some v:=fun j v hv=>(cell_of_row u b j _ T (0,0) h1).trans hv
 have z:∀ j,u.frozen? ⟨b,j,none⟩=false:=fun j=>by simp[World.frozen?,h1]
 exact⟨_,_,_,_,_,_,⟨c 0 _ rfl,z 0⟩,⟨c 1 _ rfl,z 1⟩,⟨c 2 _ rfl,z 2⟩,⟨c 3 _ rfl,z 3⟩,⟨c 4 _ rfl,z 4⟩,c 5 _ rfl,z 5⟩
theorem dS {T:TypeId}{b:Nat}{p:Pk}{u:World}{D C G:Option Addr}{dc cc gc:Nat}(h:u.heap[b]?=some (.cells (pCells p D C G dc cc gc) T (0,0))):∀ j x,u.cell? ⟨b,j,none⟩=some x->NoB x:=fun j x hx y e=>by
 rw[cell_of_row u b j _ T (0,0) h] at hx
 subst e
 have hm:=Array.mem_of_getElem? hx
 simp[pCells] at hm
theorem aA {u:World}{b j:Nat}{cs:Array Value}{T:TypeId}{x:Value}(h:u.heap[b]?=some (.cells cs T (0,0))):(u.setCell ⟨b,j,none⟩ x).heap[b]?=some (.cells (cs.setIfInBounds j x) T (0,0)):=by
 simp[World.setCell,Array.getElem?_modify,h]
theorem aaK {T:TypeId}{b B:Nat}{p:Pk}{u:World}(h:PBlk T b B p u)(hlt:b<B)(x:List UInt8):PBlk T b B { p with name:=x } (u.setCell ⟨b,0,none⟩ (.string ⟨x.toArray⟩)):=by
 obtain⟨D,dc,C,cc,G,gc,h1,h2⟩:=h
 exact⟨D,dc,C,cc,G,gc,(aA h1).trans rfl,bH (p:=p) h2 (aN u ⟨b,0,none⟩ _) hlt (dS h1)⟩
theorem acH {T:TypeId}{b B:Nat}{p:Pk}{u:World}(h:PBlk T b B p u)(hlt:b<B)(x:List UInt8):PBlk T b B { p with ver:=x } (u.setCell ⟨b,1,none⟩ (.string ⟨x.toArray⟩)):=by
 obtain⟨D,dc,C,cc,G,gc,h1,h2⟩:=h
 exact⟨D,dc,C,cc,G,gc,(aA h1).trans rfl,bH (p:=p) h2 (aN u ⟨b,1,none⟩ _) hlt (dS h1)⟩
theorem aej {T:TypeId}{b B:Nat}{p:Pk}{u:World}(h:PBlk T b B p u)(hlt:b<B)(x:Nat):PBlk T b B { p with wt:=x } (u.setCell ⟨b,5,none⟩ (.float .f64 x)):=by
 obtain⟨D,dc,C,cc,G,gc,h1,h2⟩:=h
 exact⟨D,dc,C,cc,G,gc,(aA h1).trans rfl,bH (p:=p) h2 (aN u ⟨b,5,none⟩ _) hlt (dS h1)⟩
theorem aaL {T:TypeId}{b B:Nat}{p:Pk}{u:World}(h:PBlk T b B p u)(hlt:b<B){A:Option Addr}{c:Nat}{l:List (List Atm)}(hr:Pg.DRowF B u A l)(hA:AFr B A):PBlk T b B { p with deps:=l } (u.setCell ⟨b,2,none⟩ (.slice A l.length c)):=by
 obtain⟨D,dc,C,cc,G,gc,h1,h2⟩:=h
 exact⟨A,c,C,cc,G,gc,(aA h1).trans rfl,bH (p:={ p with deps:=l }) ⟨⟨hr,hA⟩,h2.2⟩ (aN u ⟨b,2,none⟩ _) hlt (dS h1)⟩
theorem yA {T:TypeId}{b B:Nat}{p:Pk}{u:World}(h:PBlk T b B p u)(hlt:b<B){A:Option Addr}{c:Nat}{l:List Atm}(hr:ARow u A l)(hA:AFr B A):PBlk T b B { p with confl:=l } (u.setCell ⟨b,3,none⟩ (.slice A l.length c)):=by
 obtain⟨D,dc,C,cc,G,gc,h1,h2⟩:=h
 exact⟨D,dc,A,c,G,gc,(aA h1).trans rfl,bH (p:={ p with confl:=l }) ⟨h2.1,⟨hr,hA⟩,h2.2.2⟩ (aN u ⟨b,3,none⟩ _) hlt (dS h1)⟩
theorem aaM {T:TypeId}{b B:Nat}{p:Pk}{u:World}(h:PBlk T b B p u)(hlt:b<B){A:Option Addr}{c:Nat}{l:List Gv}(hr:GRow u A l)(hA:AFr B A):PBlk T b B { p with prov:=l } (u.setCell ⟨b,4,none⟩ (.slice A l.length c)):=by
 obtain⟨D,dc,C,cc,G,gc,h1,h2⟩:=h
 exact⟨D,dc,C,cc,A,c,(aA h1).trans rfl,bH (p:={ p with prov:=l }) ⟨h2.1,h2.2.1,⟨hr,hA⟩⟩ (aN u ⟨b,4,none⟩ _) hlt (dS h1)⟩
end Pg
theorem Pg.a8 {P:Program}{w:World}{a:Addr}{k:FloatKind}{f:Nat}{m:Mode}:(store a (.float k f) m).run P w=stored P w a (.float k f) m:=run_store P w a _ m rfl
def Pg.TakeRet (b B:Nat) (w:World) (i:Int) (R:Except Int Pk) (e:Ending) (w':World):Prop:=Below b w w'/\match R with
 | .ok q=>e=.returned (.tuple #[])/\PBlk 31 b B q w'
 | .error k=>e=panAt i k
attribute [local go_sem ↓] Go.wp_at_zero Go.wp_at_succ
attribute [local go_sem] Pg.a8
theorem vz (b B:Nat)(key t:List UInt8)(i:Int)(p:Pk)(w:World)(hk:KOk w)(hp:Pg.PBlk 31 b B p w)(hlt:b<B)(hB:B<=w.heap.size)(ht:ValFit key t) :
  Calls Tryz.prog 55 #[.pointer (some ⟨b,0,none⟩),.string ⟨key.toArray⟩,.agg #[.string ⟨t.toArray⟩,.int .i64 i]] w (Pg.TakeRet b B w i (takeR p key t)):=by
 obtain⟨R,hR⟩:=ex (takeR p key t)
 rw[hR]
 unfold takeR at hR
 obtain⟨V,hV⟩:=ex (w.alloc (.cells #[.string ⟨t.toArray⟩,.int .i64 i] 119))
 have HB:Hid (Below w.heap.size w V):=ag hV
 have HW:Hid (b<w.heap.size):=aei hp
 have ac:Hid (Below b w V):=HB.out.mono (Nat.le_of_lt HW.out)
 have HK:Hid (KOk V):=aZ hk HB.out
 have HM:Hid (MaxOk V):=ah hk.1 HB.out
 have af:=zh (cK hp HB.out)
 have aj:Hid (B<=V.heap.size):=Nat.le_trans hB HB.out.size
 have ad:Hid (b<=V.heap.size):=Nat.le_of_lt (Nat.lt_of_lt_of_le hlt aj.out)
 have ai:=zh hlt
 have HT:=zh ht
 obtain⟨c0,c1⟩:=aB hV (Below.refl _ _)
 clear hk hp hlt hB ht
 by_cases h0:key=kPkg
 ·rw[if_pos h0] at hR
  have ae:=zh (HT.out.2.2.2 (by rw[h0];decide) (by rw[h0];decide) (by rw[h0];decide))
  have d0:(key==[80,97,99,107,97,103,101])=true:=beq_iff_eq.2 h0
  clear h0
  have HC:=zh (kx t i V (by have:=ae.out;omega))
  obtain⟨y,hy⟩:=ex (nameB t)
  rw[hy] at HC hR
  have HR:=zh hR
  clear hR hy
  go_enter Tryz.func55,Tryz.ntmps55
  go_wp2_with fail
  clear hV
  refine HC.out.mono ?_
  rintro _ u ⟨rfl,hb⟩
  have HU:=zh hb
  clear hb HC c0 c1
  cases y
  ·have HF:Hid (R=.error 3):=HR.out.symm
   go_wp2_with fail
   exact⟨rfl,ac.out.trans (HU.out.mono ad.out),by rw[HF.out]⟩
  ·have HF:Hid (R=.ok { p with name:=t }):=HR.out.symm
   have aa:=zh (cK af.out HU.out)
   obtain⟨x0,x1,x2,x3,x4,x5,⟨e0,z0⟩,⟨e1,z1⟩,⟨e2,z2⟩,⟨e3,z3⟩,⟨e4,z4⟩,⟨e5,z5⟩⟩:=eJ aa.out
   go_wp2_with fail
   go_end0
   refine⟨(ac.out.trans (HU.out.mono ad.out)).setCell (Nat.le_refl _) _,?_⟩
   rw[HF.out]
   exact⟨rfl,aaK aa.out ai.out t⟩
 rw[if_neg h0] at hR
 have d0:(key==[80,97,99,107,97,103,101])=false:=beq_eq_false_iff_ne.2 h0
 clear h0
 by_cases h1:key=kVer
 ·rw[if_pos h1] at hR
  have d1:(key==[86,101,114,115,105,111,110])=true:=beq_iff_eq.2 h1
  clear h1
  have HC:=zh (ig t i V HM.out)
  obtain⟨y,hy⟩:=ex (Vm.check t)
  obtain⟨cv,am⟩:=ex (canonOf t)
  rw[hy,am] at HC hR
  have HR:=zh hR
  clear hR hy am
  go_enter Tryz.func55,Tryz.ntmps55
  go_wp2_with fail
  clear hV
  refine HC.out.mono ?_
  rintro _ u ⟨rfl,hb⟩
  have HU:=zh hb
  clear hb HC c0 c1
  by_cases hy:y=0
  case neg =>
   have HF:Hid (R=.error y):=by show _=_;rw[<-HR.out,if_neg hy]
   rw[if_neg hy]
   clear hy
   go_wp2_with fail
   exact⟨rfl,ac.out.trans (HU.out.mono ad.out),by rw[HF.out]⟩
  have HF:Hid (R=.ok { p with ver:=cv }):=by show _=_;rw[<-HR.out,if_pos hy]
  rw[if_pos hy]
  clear hy
  have aa:=zh (cK af.out HU.out)
  obtain⟨x0,x1,x2,x3,x4,x5,⟨e0,z0⟩,⟨e1,z1⟩,⟨e2,z2⟩,⟨e3,z3⟩,⟨e4,z4⟩,⟨e5,z5⟩⟩:=eJ aa.out
  go_wp2_with fail
  go_end0
  refine⟨(ac.out.trans (HU.out.mono ad.out)).setCell (Nat.le_refl _) _,?_⟩
  rw[HF.out]
  exact⟨rfl,acH aa.out ai.out cv⟩
 rw[if_neg h1] at hR
 have d1:(key==[86,101,114,115,105,111,110])=false:=beq_eq_false_iff_ne.2 h1
 clear h1
 by_cases h2:key=kDep
 ·rw[if_pos h2] at hR
  have ae:=zh (HT.out.1 h2)
  have d2:(key==[68,101,112,101,110,100,115])=true:=beq_iff_eq.2 h2
  clear h2
  have HC:Hid (Calls Tryz.prog 98 #[.agg #[.string ⟨t.toArray⟩,.int .i64 i],.string ⟨#[59,32]⟩,.int .i64 16,.func (.func 99) #[] #[]] V (Pg.PartsRet (fun u A l=>Pg.DRowF V.heap.size u A l) V i (partsR depR semi 16 t))):=rE t semi i 16 V HM.out ae.out (by decide) (by decide)
  obtain⟨E,hE⟩:=ex (partsR depR semi 16 t)
  rw[hE] at HC hR
  have HR:=zh hR
  clear hR hE
  go_enter Tryz.func55,Tryz.ntmps55
  go_wp2_with fail
  clear hV
  refine HC.out.mono ?_
  rintro r u ⟨hb,hr⟩
  have HU:=zh hb
  clear hb HC c0 c1
  cases E with
  | error k =>
   have HF:Hid (R=.error k):=HR.out.symm
   obtain rfl:r=panAt i k:=hr
   go_wp2_with fail
   exact⟨rfl,ac.out.trans (HU.out.mono ad.out),by rw[HF.out]⟩
  | ok l =>
   have HF:Hid (R=.ok { p with deps:=l }):=HR.out.symm
   obtain⟨A,n,c,rfl,hn,ab,hf⟩:=hr
   subst hn
   have ak:=zh (gj ab aj.out)
   have al:Hid (AFr B A):=fun a ha=>Nat.le_trans aj.out (hf a ha)
   clear ab hf
   have aa:=zh (cK af.out HU.out)
   obtain⟨x0,x1,x2,x3,x4,x5,⟨e0,z0⟩,⟨e1,z1⟩,⟨e2,z2⟩,⟨e3,z3⟩,⟨e4,z4⟩,⟨e5,z5⟩⟩:=eJ aa.out
   go_wp2_with fail
   go_end0
   refine⟨(ac.out.trans (HU.out.mono ad.out)).setCell (Nat.le_refl _) _,?_⟩
   rw[HF.out]
   exact⟨rfl,aaL aa.out ai.out ak.out al.out⟩
 rw[if_neg h2] at hR
 have d2:(key==[68,101,112,101,110,100,115])=false:=beq_eq_false_iff_ne.2 h2
 clear h2
 by_cases h3:key=kCon
 ·rw[if_pos h3] at hR
  have ae:=zh (HT.out.2.1 h3)
  have d3:(key==[67,111,110,102,108,105,99,116,115])=true:=beq_iff_eq.2 h3
  clear h3
  have HC:Hid (Calls Tryz.prog 100 #[.agg #[.string ⟨t.toArray⟩,.int .i64 i],.string ⟨#[59,32]⟩,.int .i64 16,.func (.func 101) #[] #[]] V (Pg.PartsRet (ARow) V i (partsR atomR semi 16 t))):=jx t semi i 16 V HM.out ae.out (by decide) (by decide)
  obtain⟨E,hE⟩:=ex (partsR atomR semi 16 t)
  rw[hE] at HC hR
  have HR:=zh hR
  clear hR hE
  go_enter Tryz.func55,Tryz.ntmps55
  go_wp2_with fail
  clear hV
  refine HC.out.mono ?_
  rintro r u ⟨hb,hr⟩
  have HU:=zh hb
  clear hb HC c0 c1
  cases E with
  | error k =>
   have HF:Hid (R=.error k):=HR.out.symm
   obtain rfl:r=panAt i k:=hr
   go_wp2_with fail
   exact⟨rfl,ac.out.trans (HU.out.mono ad.out),by rw[HF.out]⟩
  | ok l =>
   have HF:Hid (R=.ok { p with confl:=l }):=HR.out.symm
   obtain⟨A,n,c,rfl,hn,ab,hf⟩:=hr
   subst hn
   have ak:=zh (ab)
   have al:Hid (AFr B A):=fun a ha=>Nat.le_trans aj.out (hf a ha)
   clear ab hf
   have aa:=zh (cK af.out HU.out)
   obtain⟨x0,x1,x2,x3,x4,x5,⟨e0,z0⟩,⟨e1,z1⟩,⟨e2,z2⟩,⟨e3,z3⟩,⟨e4,z4⟩,⟨e5,z5⟩⟩:=eJ aa.out
   go_wp2_with fail
   go_end0
   refine⟨(ac.out.trans (HU.out.mono ad.out)).setCell (Nat.le_refl _) _,?_⟩
   rw[HF.out]
   exact⟨rfl,yA aa.out ai.out ak.out al.out⟩
 rw[if_neg h3] at hR
 have d3:(key==[67,111,110,102,108,105,99,116,115])=false:=beq_eq_false_iff_ne.2 h3
 clear h3
 by_cases h4:key=kPro
 ·rw[if_pos h4] at hR
  have ae:=zh (HT.out.2.2.1 h4)
  have d4:(key==[80,114,111,118,105,100,101,115])=true:=beq_iff_eq.2 h4
  clear h4
  have HC:Hid (Calls Tryz.prog 102 #[.agg #[.string ⟨t.toArray⟩,.int .i64 i],.string ⟨#[59,32]⟩,.int .i64 16,.func (.func 103) #[] #[]] V (Pg.PartsRet (GRow) V i (partsR gvR semi 16 t))):=pP t semi i 16 V HM.out ae.out (by decide) (by decide)
  obtain⟨E,hE⟩:=ex (partsR gvR semi 16 t)
  rw[hE] at HC hR
  have HR:=zh hR
  clear hR hE
  go_enter Tryz.func55,Tryz.ntmps55
  go_wp2_with fail
  clear hV
  refine HC.out.mono ?_
  rintro r u ⟨hb,hr⟩
  have HU:=zh hb
  clear hb HC c0 c1
  cases E with
  | error k =>
   have HF:Hid (R=.error k):=HR.out.symm
   obtain rfl:r=panAt i k:=hr
   go_wp2_with fail
   exact⟨rfl,ac.out.trans (HU.out.mono ad.out),by rw[HF.out]⟩
  | ok l =>
   have HF:Hid (R=.ok { p with prov:=l }):=HR.out.symm
   obtain⟨A,n,c,rfl,hn,ab,hf⟩:=hr
   subst hn
   have ak:=zh (ab)
   have al:Hid (AFr B A):=fun a ha=>Nat.le_trans aj.out (hf a ha)
   clear ab hf
   have aa:=zh (cK af.out HU.out)
   obtain⟨x0,x1,x2,x3,x4,x5,⟨e0,z0⟩,⟨e1,z1⟩,⟨e2,z2⟩,⟨e3,z3⟩,⟨e4,z4⟩,⟨e5,z5⟩⟩:=eJ aa.out
   go_wp2_with fail
   go_end0
   refine⟨(ac.out.trans (HU.out.mono ad.out)).setCell (Nat.le_refl _) _,?_⟩
   rw[HF.out]
   exact⟨rfl,aaM aa.out ai.out ak.out al.out⟩
 rw[if_neg h4] at hR
 have d4:(key==[80,114,111,118,105,100,101,115])=false:=beq_eq_false_iff_ne.2 h4
 clear h4
 by_cases h5:key=kWei
 ·rw[if_pos h5] at hR
  have ae:=zh (HT.out.2.2.2 (by rw[h5];decide) (by rw[h5];decide) (by rw[h5];decide))
  have d5:(key==[87,101,105,103,104,116])=true:=beq_iff_eq.2 h5
  clear h5
  have HC:Hid (Calls Tryz.prog 104 #[.agg #[.string ⟨t.toArray⟩,.int .i64 i]] V fun r w'=>Below V.heap.size V w'/\match wtR t with | .ok f=>r=.returned (.float .f64 f) | .error k=>r=panAt i k):=(oS t i V ae.out HK.out (pS t)).mono fun r w' ⟨h1,h2⟩=>by
   refine⟨h2,?_⟩
   unfold wtR
   by_cases a0:errW t=0
   ·rw[if_pos a0] at h1 ⊢
    by_cases a1:chkW (outW t)=0
    ·rw[if_pos a1] at h1 ⊢;exact h1
    ·rw[if_neg a1] at h1 ⊢;exact h1
   ·rw[if_neg a0] at h1 ⊢;exact h1
  obtain⟨E,hE⟩:=ex (wtR t)
  rw[hE] at HC hR
  have HR:=zh hR
  clear hR hE
  go_enter Tryz.func55,Tryz.ntmps55
  go_wp2_with fail
  clear hV
  refine HC.out.mono ?_
  rintro r u ⟨hb,hr⟩
  have HU:=zh hb
  clear hb HC c0 c1
  cases E with
  | error k =>
   have HF:Hid (R=.error k):=HR.out.symm
   obtain rfl:r=panAt i k:=hr
   go_wp2_with fail
   exact⟨rfl,ac.out.trans (HU.out.mono ad.out),by rw[HF.out]⟩
  | ok f =>
   have HF:Hid (R=.ok { p with wt:=f }):=HR.out.symm
   obtain rfl:r=.returned (.float .f64 f):=hr
   have aa:=zh (cK af.out HU.out)
   obtain⟨x0,x1,x2,x3,x4,x5,⟨e0,z0⟩,⟨e1,z1⟩,⟨e2,z2⟩,⟨e3,z3⟩,⟨e4,z4⟩,⟨e5,z5⟩⟩:=eJ aa.out
   go_wp2_with fail
   go_end0
   refine⟨(ac.out.trans (HU.out.mono ad.out)).setCell (Nat.le_refl _) _,?_⟩
   rw[HF.out]
   exact⟨rfl,aej aa.out ai.out f⟩
 rw[if_neg h5] at hR
 have d5:(key==[87,101,105,103,104,116])=false:=beq_eq_false_iff_ne.2 h5
 clear h5
 have HF:Hid (R=.ok p):=hR.symm
 clear hR
 go_enter Tryz.func55,Tryz.ntmps55
 go_wp2_with fail
 go_end0
 refine⟨ac.out,?_⟩
 rw[HF.out]
 exact⟨rfl,af.out⟩
end
namespace Sz
open Go.RowKit Go.Maps
theorem zeroI (w:World):(zeroValue 3).run Tryz.prog w=.ok (.int .i64 0) w:=by kernel_rfl
def KMap (w:World) (b:Nat) (ks:List (List UInt8)):Prop:=∃ (n:Nat) (D:DataW Unit),w.ownsMap Tryz.prog 9 (plainElem Tryz.prog 3) b n D/\n<=ks.length/\∀ k:List UInt8,k.length<=140737488355328->Maps.has D (.string k)=(placeOf ks k).isSome/\∀ p:Nat,placeOf ks k=some p->D.atKey (.string k) (.lit (.int .i64 0))=.lit (.int .i64 p)
theorem oX (ks:List (List UInt8))(x k:List UInt8):placeOf (ks++[x]) k=match placeOf ks k with | some p=>some p | none=>if x=k then some ks.length else none:=by
 unfold placeOf
 rw[List.findIdx?_append]
 cases h:ks.findIdx? (. == k) with
 | some p=>simp
 | none=>by_cases e:x=k <;> simp[e,List.findIdx?_cons]
theorem acI {ks:List (List UInt8)}{k:List UInt8}{p:Nat}(h:placeOf ks k=some p):p<ks.length:=by
 unfold placeOf at h
 obtain⟨h1,_⟩:=List.findIdx?_eq_some_iff_getElem.1 h
 exact h1
theorem aaN (w:World):KMap (w.alloc (.map #[] 0)) w.heap.size []:=⟨0,_,World.ownsMap_made w _ _ _,Nat.le_refl _,fun _k _=>⟨rfl,fun p h=>by cases h⟩⟩
theorem qL {w:World}{b:Nat}{ks:List (List UInt8)}(h:KMap w b ks){k:List UInt8}(hk:k.length<=140737488355328) :
  (Instr.lookup 214 (.map (some b)) (.string ⟨k.toArray⟩) true).run Tryz.prog w=.ok (.tuple #[.int .i64 ((placeOf ks k).getD 0:Nat),.bool (placeOf ks k).isSome]) w:=by
 obtain⟨n,D,ab,_,hh⟩:=h
 obtain⟨v,ps,ac,hv⟩:=ab.look_ok keyLaw Tryz.underlying214 (zeroI w) (plainElem_int Tryz.underlying3 (by decide)) (iO hk)
 obtain⟨c,rfl,hc,_⟩:=plainElem_int_inv Tryz.underlying3 hv
 obtain⟨h1,h2⟩:=hh k hk
 have aa:D.atKey (.string k) (.lit (.int .i64 0))=.lit (.int .i64 c):=congrArg Prod.fst hc
 rw[ac,h1]
 cases hp:placeOf ks k with
 | some p =>
  rw[h2 p hp] at aa
  have e:=(Lit.int.inj (DataW.lit.inj aa)).2
  rw[<-e];rfl
 | none =>
  rw[hp] at h1
  rw[Maps.atKey_of_not_has h1] at aa
  have e:=(Lit.int.inj (DataW.lit.inj aa)).2
  rw[<-e];rfl
theorem acJ {w:World}{b:Nat}{ks:List (List UInt8)}(h:KMap w b ks){k:List UInt8}(hk:k.length<=140737488355328)(hl:ks.length<=1000000)(hn:placeOf ks k=none) :
  ∃ w',(Instr.mapUpdate 214 (.map (some b)) (.string ⟨k.toArray⟩) (.int .i64 ks.length)).run Tryz.prog w=.ok () w'/\KMap w' b (ks++[k])/\w.mapTurned w' b:=by
 obtain⟨n,D,aa,ad,hh⟩:=h
 obtain⟨w',ac,ab,ht⟩:=aa.store keyLaw Tryz.underlying214 (by unfold maxLen;omega) (iO hk) (val:=.int .i64 ks.length) (plainElem_int Tryz.underlying3 (by
  have h1:IntKind.i64.min = -9223372036854775808:=rfl
  have h2:IntKind.i64.max=9223372036854775807:=rfl
  unfold Lit.wf
  rw[Bool.and_eq_true,decide_eq_true_eq,decide_eq_true_eq,h1,h2];omega))
 refine⟨w',ac,⟨n+1,_,ab,by rw[List.length_append];simp;omega,fun x hx=>?_⟩,ht⟩
 rw[oX]
 by_cases e:x=k
 ·subst e
  rw[Maps.has_put_same aa.isMap (by trivial),hn,if_pos rfl]
  refine⟨rfl,fun p hp=>?_⟩
  rw[Maps.atKey_put_same aa.isMap (by trivial),Option.some.inj hp]
 ·rw[Maps.has_put_other (by intro h;exact e (Lit.string.inj h)),(hh x hx).1]
  have ek:¬ k=x:=fun h=>e h.symm
  rw[if_neg ek]
  refine⟨by cases placeOf ks x <;> rfl,fun p hp=>?_⟩
  rw[Maps.atKey_put_other (by intro h;exact e (Lit.string.inj h))]
  refine (hh x hx).2 p ?_
  cases hq:placeOf ks x with
  | none=>rw[hq] at hp;exact hp
  | some q=>rw[hq] at hp;exact hp
theorem aaO {w:World}{b:Nat}{ks:List (List UInt8)}(h:KMap w b ks){k:List UInt8}{q:Nat}(hn:placeOf ks k=some q):KMap w b (ks++[k]):=by
 obtain⟨n,D,aa,ab,hh⟩:=h
 refine⟨n,D,aa,by rw[List.length_append];simp;omega,fun x hx=>?_⟩
 obtain⟨h1,h2⟩:=hh x hx
 rw[oX,h1]
 cases hp:placeOf ks x with
 | some p=>exact⟨rfl,fun p' hp'=>h2 p' (by rw[hp];exact hp')⟩
 | none =>
  have ek:¬ k=x:=fun e=>by subst e;rw[hn] at hp;cases hp
  dsimp only
  rw[if_neg ek]
  exact⟨rfl,fun p' hp'=>by cases hp'⟩
theorem yB {w w':World}{b B:Nat}{ks:List (List UInt8)}(h:KMap w b ks)(hb:Below B w w')(hlt:b<B):KMap w' b ks:=by
 obtain⟨n,D,⟨es,clock,hh,r⟩,h2⟩:=h
 exact⟨n,D,⟨es,clock,(hb.block b hlt).trans hh,r⟩,h2⟩
end Sz
section
open Go.RowKit Go.Maps Sz
attribute [local go_sem ↓] Go.wp_at_zero Go.wp_at_succ
def Sz.ShortT (l:List (List UInt8)):Prop:=∀ k∈l,k.length<=140737488355328
theorem oY (A:Option Addr)(n c:Nat)(l:List (List UInt8))(w:World)(hn:l.length=n)(hr:Rg.Row encT 1 w A l)(hl:n<=100000)(hs:Sz.ShortT l) :
  Calls Tryz.prog 143 #[.slice A n c] w fun e w'=>e=.returned (.map (some w.heap.size))/\KMap w' w.heap.size l/\w.heap.size<w'.heap.size/\Below w.heap.size w w':=by
 obtain⟨W1,ac⟩:=ex (w.alloc (.map #[] 0))
 have ak:Hid (Below w.heap.size w W1):=ag ac
 have al:Hid (KMap W1 w.heap.size []):=by show KMap _ _ _;rw[<-ac];exact aaN w
 have am:Hid (w.heap.size<W1.heap.size):=by show _<_;rw[<-ac];simp
 have an:(Instr.makeMap 214 none).run Tryz.prog w=.ok (.map (some w.heap.size)) W1:=by rw[<-ac];rfl
 have HR:=zh hr
 have HN:=zh hn
 have HS:=zh hs
 clear hr hn hs
 go_enter Tryz.func143,Tryz.ntmps143
 go_wp2_with fail
 clear ac an
 go_loopw [11] (fun i wr=>∃ k:Nat,k<=n/\i=.int .i64 k/\Hid (Below w.heap.size w wr/\w.heap.size<wr.heap.size)/\Hid (KMap wr w.heap.size (l.take k))) (fun i _=>n-(intOf i).toNat)
 case atStart=>exact⟨0,Nat.zero_le _,rfl,⟨ak.out,am.out⟩,al.out⟩
 case round =>
  obtain⟨k,hk,rfl,HW,HH⟩:=hrel
  by_cases ao:k<n
  ·have af:k<l.length:=by rw[HN.out];exact ao
   obtain⟨ad,rfl,_,c0⟩:=Sz.bU (Rg.ai HR.out HW.out.1) k af
   have ht:l.take (k+1)=l.take k++[l[k]]:=List.take_succ_eq_append_getElem af
   have ab:l[k].length<=140737488355328:=HS.out _ (List.getElem_mem af)
   obtain⟨x,hx⟩:=ex (l[k])
   rw[hx] at c0 ht ab
   have ae:=qL HH.out ab
   have hlen:(l.take k).length=k:=by rw[List.length_take];omega
   cases hp:placeOf (l.take k) x with
   | some p =>
    rw[hp] at ae
    have HE:Hid (KMap wr w.heap.size (l.take (k+1))):=by show KMap _ _ _;rw[ht];exact aaO HH.out hp
    have HK:=zh hk
    clear ht hx hp hlen ab
    dsimp only[Option.getD,Option.isSome] at ae
    go_wp2_with fail
    go_roundw
    case rel=>exact⟨k+1,by omega,by go_num,HW,HE⟩
    case measure=>simp[intOf];omega
   | none =>
    rw[hp] at ae
    obtain⟨w2,ah,aj,aa⟩:=acJ HH.out ab (by omega) hp
    rw[hlen] at ah
    rw[<-ht] at aj
    have HE:=zh aj
    have ap:Hid (Below w.heap.size w w2/\w.heap.size<w2.heap.size):=by
     have hg:=aa.grown
     exact⟨HW.out.1.grown hg (Nat.le_of_lt HW.out.2) (fun j hj=>by have:=Option.some.inj hj;omega),Nat.lt_of_lt_of_le HW.out.2 hg.size⟩
    clear ht hx hp hlen ab aj aa
    dsimp only[Option.getD,Option.isSome] at ae
    go_wp2_with fail
    go_roundw
    case rel=>exact⟨k+1,by omega,by go_num,ap,HE⟩
    case measure=>simp[intOf];omega
  ·obtain rfl:k=n:=by omega
   have HE:Hid (KMap wr w.heap.size l):=by
    have h:=HH.out
    rw[List.take_of_length_le (by rw[HN.out];exact Nat.le_refl _)] at h
    exact h
   go_wp2_with fail
   go_ret
   exact⟨rfl,HE.out,HW.out.2,HW.out.1⟩
theorem Sz.lO (ks:List (List UInt8))(i:Nat)(x:Int)(f:Fld)(l:List Fld):ordP ks i x (f :: l)=match placeOf ks f.key with
  | none=>((i:Int),10)
  | some p=>if x<p then ordP ks (i+1) p l else ((i:Int),7):=by rw[ordP];rfl
def Sz.OrdRet (w:World) (X:Int × Int) (e:Ending) (w':World):Prop:=Below w.heap.size w w'/\if X.2=0 then e=.returned (.tuple #[]) else e=panAt X.1 X.2
theorem nC (A:Option Addr)(n c:Nat)(l:List Fld)(B:Option Addr)(m d:Nat)(ks:List (List UInt8))(w:World)(hn:l.length=n)(hr:Rg.Row encF 3 w A l)(hl:n<=100000)(hs:Sz.Short l)(hm:ks.length=m)(hk:Rg.Row encT 1 w B ks)(hml:m<=100000)(hks:Sz.ShortT ks) :
  Calls Tryz.prog 94 #[.slice A n c,.slice B m d] w (Sz.OrdRet w (ordP ks 0 (-1) l)):=by
 obtain⟨R,hR⟩:=ex (ordP ks 0 (-1) l)
 rw[hR]
 have HG:=zh hR
 have af:=zh (oY B m d ks w hm hk hml hks)
 have HR:=zh hr
 have HN:=zh hn
 have HS:=zh hs
 have HM:Hid (ks.length<=100000):=by show _<=_;rw[hm];exact hml
 clear hR hr hn hs hm hk hks hml
 go_enter Tryz.func94,Tryz.ntmps94
 go_wp2_with fail
 refine af.out.mono ?_
 rintro _ u ⟨rfl,ak,al,hb⟩
 have am:=zh ak
 have an:=zh al
 have HB:=zh hb
 clear ak al hb af
 go_wp2_with fail
 go_loopw [5,14] (fun v i wr=>∃ (k:Nat) (x:Int),k<=n/\i=.int .i64 k/\v=.int .i64 x/\-1<=x/\x<=1000000/\Hid (Below u.heap.size u wr)/\Hid (ordP ks k x (l.drop k)=R)) (fun _ i _=>n-(intOf i).toNat)
 case atStart=>exact⟨0,-1,Nat.zero_le _,rfl,rfl,by decide,by decide,Below.refl _ _,HG.out⟩
 case round =>
  obtain⟨k,x,hk,rfl,rfl,aq,ar,HW,HH⟩:=hrel
  by_cases ao:k<n
  ·have ac:k<l.length:=by rw[HN.out];exact ao
   obtain⟨ad,rfl,_,c0,c1,c2⟩:=bS (Rg.ai HR.out (bt HB.out HW.out)) k ac
   have hd:l.drop k=l[k] :: l.drop (k+1):=List.drop_eq_getElem_cons ac
   obtain⟨s1,_⟩:=short_at HS.out k ac
   have hh:=HH.out
   rw[hd,lO] at hh
   obtain⟨f,hf⟩:=ex (l[k])
   rw[hf] at c0 c1 c2 hh s1
   obtain⟨fk,fv,fl⟩:=f
   dsimp only at c0 c1 c2 hh s1
   obtain⟨V,hV⟩:=ex (wr.alloc (.cells #[.string ⟨fk.toArray⟩,.string ⟨fv.toArray⟩,.int .i64 fl] 53))
   have ae:Hid (Below u.heap.size u V):=HW.out.trans ((ag hV).mono HW.out.size)
   obtain⟨v0,v1,v2,_⟩:=dq hV (Below.refl _ _)
   have aa:=qL (yB am.out ae.out an.out) s1
   have ah:Hid (Below w.heap.size w V):=bt HB.out ae.out
   clear hd hf s1
   cases hp:placeOf ks fk with
   | none =>
    rw[hp] at aa hh
    dsimp only[Option.getD,Option.isSome] at aa hh
    have HE:Hid (R=((k:Int),10)):=hh.symm
    clear hh hp
    go_wp2_with fail
    clear hV
    refine (aO _).mono ?_
    rintro _ z ⟨rfl,rfl⟩
    go_wp2_with fail
    exact⟨rfl,by show OrdRet w R _ _;rw[HE.out];exact⟨ah.out,rfl⟩⟩
   | some p =>
    have aj:=acI hp
    have ap:p<=100000:=Nat.le_trans (Nat.le_of_lt aj) HM.out
    rw[hp] at aa hh
    dsimp only[Option.getD,Option.isSome] at aa hh
    clear hp aj
    by_cases ab:x<p
    ·have d0:decide (x<(p:Int))=true:=decide_eq_true ab
     have HE:Hid (ordP ks (k+1) p (l.drop (k+1))=R):=by rw[if_pos ab] at hh;exact hh
     clear hh
     go_wp2_with fail
     clear hV
     refine (aV _).mono ?_
     rintro _ z ⟨rfl,rfl⟩
     go_wp2_with fail
     refine (aV _).mono ?_
     rintro _ z ⟨rfl,rfl⟩
     go_wp2_with fail
     go_roundw
     case rel=>exact⟨k+1,p,by omega,by go_num,rfl,by omega,by omega,ae,HE⟩
     case measure=>simp[intOf];omega
    ·have d0:decide (x<(p:Int))=false:=decide_eq_false ab
     have HE:Hid (R=((k:Int),7)):=by rw[if_neg ab] at hh;exact hh.symm
     clear hh
     go_wp2_with fail
     clear hV
     refine (aV _).mono ?_
     rintro _ z ⟨rfl,rfl⟩
     go_wp2_with fail
     refine (aO _).mono ?_
     rintro _ z ⟨rfl,rfl⟩
     go_wp2_with fail
     exact⟨rfl,by show OrdRet w R _ _;rw[HE.out];exact⟨ah.out,rfl⟩⟩
  ·obtain rfl:k=n:=by omega
   have HE:Hid (R=(0,0)):=by show _=_;rw[<-HH.out,List.drop_eq_nil_of_le (by rw[HN.out];exact Nat.le_refl _)];rfl
   go_wp2_with fail
   go_end0
   show OrdRet w R _ _
   rw[HE.out]
   exact⟨bt HB.out HW.out,rfl⟩
end
end Go.Proofs.YtkaeamjnphaadaaGreatDoor
