/- Part 16 of what the laws lean on. -/
import Derived.Test.YtkoaljpfoekgkaaGreatDoorM15
set_option maxRecDepth 100000
set_option maxHeartbeats 4000000
namespace Go.Proofs.YtkoaljpfoekgkaaGreatDoor
section
open Go.RowKit
theorem kinds (b:Nat)(hb:b<Wm.W):Wm.nan b=true\/(∃ n,b=Wm.word n 9218868437227405312)\/(∃ n r,Fin r/\b=Wm.word n r)\/(∃ n,b=Wm.word n 0):=by
 have e:=Wm.jR b hb
 cases hn:Wm.nan b
 ·right
  have hr:Wm.rung b<=9218868437227405312:=by unfold Wm.nan at hn;simpa using hn
  by_cases h1:Wm.rung b=9218868437227405312
  ·left;exact⟨Wm.neg b,by rw[<-h1];exact e⟩
  ·right
   by_cases h2:Wm.rung b=0
   ·right;exact⟨Wm.neg b,by rw[<-h2];exact e⟩
   ·left;exact⟨Wm.neg b,Wm.rung b,⟨by omega,by omega⟩,e⟩
 ·left;rfl
theorem yh (n:Bool){r:Nat}(h:Fin r):Wm.textW (Wm.word n r)=Wm.textF n r:=by
 obtain⟨_,g2,_⟩:=bm h n
 have h1:=h.1
 have h2:=h.2
 obtain⟨a1,a2,_⟩:=Wm.bg n (r:=r) (by omega)
 unfold Wm.textW
 rw[g2,a1,a2,if_neg Bool.false_ne_true,if_neg (by omega),if_neg (by omega)]
theorem yi (w:World) :
  Calls Tryz.prog 103 #[.float .f64 9218868437227405312] w fun e w'=>e=.returned (.string ⟨#[105,110,102]⟩)/\w=w':=by
 have o1:(FloatKind.f64.format.order 9218868437227405312 9218868437227405311==some .gt)=true:=by decide +kernel
 have o2:(FloatKind.f64.format.order 9218868437227405312 18442240474082181119==some .lt)=false:=by decide +kernel
 have o3:(FloatKind.f64.format.order 9218868437227405312 0 != some .eq)=true:=by decide +kernel
 have aa:=cV
 have hn:Wm.nan 9218868437227405312=false:=by decide +kernel
 go_enter Tryz.func103,Tryz.ntmps103
 go_wp2_with fail
 refine (bZ 9218868437227405312 (by decide) _).mono ?_
 rintro e w' ⟨rfl,rfl⟩
 rw[hn]
 go_wp2_with fail
 go_ret
 exact⟨rfl,rfl⟩
theorem yj (w:World) :
  Calls Tryz.prog 103 #[.float .f64 18442240474082181120] w fun e w'=>e=.returned (.string ⟨#[45,105,110,102]⟩)/\w=w':=by
 have o1:(FloatKind.f64.format.order 18442240474082181120 9218868437227405311==some .gt)=false:=by decide +kernel
 have o2:(FloatKind.f64.format.order 18442240474082181120 18442240474082181119==some .lt)=true:=by decide +kernel
 have o3:(FloatKind.f64.format.order 18442240474082181120 0 != some .eq)=true:=by decide +kernel
 have aa:=cV
 have hn:Wm.nan 18442240474082181120=false:=by decide +kernel
 go_enter Tryz.func103,Tryz.ntmps103
 go_wp2_with fail
 refine (bZ 18442240474082181120 (by decide) _).mono ?_
 rintro e w' ⟨rfl,rfl⟩
 rw[hn]
 go_wp2_with fail
 go_ret
 exact⟨rfl,rfl⟩
theorem acm (w:World) :
  Calls Tryz.prog 103 #[.float .f64 0] w fun e w'=>e=.returned (.string ⟨#[48]⟩)/\w=w':=by
 have o1:(FloatKind.f64.format.order 0 9218868437227405311==some .gt)=false:=by decide +kernel
 have o2:(FloatKind.f64.format.order 0 18442240474082181119==some .lt)=false:=by decide +kernel
 have o3:(FloatKind.f64.format.order 0 0 != some .eq)=false:=by decide +kernel
 have aa:=cV
 have hn:Wm.nan 0=false:=by decide +kernel
 go_enter Tryz.func103,Tryz.ntmps103
 go_wp2_with fail
 refine (bZ 0 (by decide) _).mono ?_
 rintro e w' ⟨rfl,rfl⟩
 rw[hn]
 go_wp2_with fail
 go_ret
 exact⟨rfl,rfl⟩
theorem acn (w:World) :
  Calls Tryz.prog 103 #[.float .f64 9223372036854775808] w fun e w'=>e=.returned (.string ⟨#[45,48]⟩)/\w=w':=by
 have o1:(FloatKind.f64.format.order 9223372036854775808 9218868437227405311==some .gt)=false:=by decide +kernel
 have o2:(FloatKind.f64.format.order 9223372036854775808 18442240474082181119==some .lt)=false:=by decide +kernel
 have o3:(FloatKind.f64.format.order 9223372036854775808 0 != some .eq)=false:=by decide +kernel
 have aa:=cV
 have hn:Wm.nan 9223372036854775808=false:=by decide +kernel
 go_enter Tryz.func103,Tryz.ntmps103
 go_wp2_with fail
 refine (bZ 9223372036854775808 (by decide) _).mono ?_
 rintro e w' ⟨rfl,rfl⟩
 rw[hn]
 go_wp2_with fail
 go_ret
 exact⟨rfl,rfl⟩
theorem adl (b:Nat)(hb:b<Wm.W)(w:World)(hk:KOk w) :
  Calls Tryz.prog 103 #[.float .f64 b] w fun e w'=>e=.returned (.string ⟨(Wm.textW b).toArray⟩)/\Below w.heap.size w w':=by
 have o1:=Wm.ya b 9218868437227405311 hb (by decide)
 have o2:=Wm.qY b 18442240474082181119 hb (by decide)
 have o3:=Wm.qX b 0 hb (by decide)
 have aa:=cV
 rw[show Wm.nan 9218868437227405311=false from rfl,show Wm.sk 9218868437227405311=9218868437227405311 from rfl] at o1
 rw[show Wm.nan 18442240474082181119=false from rfl,show Wm.sk 18442240474082181119 = -9218868437227405311 from rfl] at o2
 rw[kL,m7] at o3
 rcases kinds b hb with hn | ⟨n,rfl⟩ | ⟨n,r,hf,rfl⟩ | ⟨n,rfl⟩
 ·have HV:Hid (Wm.textW b=[110,97,110]):=by show _=_;rw[Wm.textW,hn];rfl
  clear o1 o2 o3
  go_enter Tryz.func103,Tryz.ntmps103
  go_wp2_with fail
  refine (bZ b hb _).mono ?_
  rintro e w' ⟨rfl,rfl⟩
  rw[hn]
  go_wp2_with fail
  go_ret
  exact⟨by rw[HV.out];rfl,Below.refl _ _⟩
 ·cases n
  ·refine (yi w).mono ?_
   rintro e w' ⟨rfl,rfl⟩
   exact⟨rfl,Below.refl _ _⟩
  ·refine (yj w).mono ?_
   rintro e w' ⟨rfl,rfl⟩
   exact⟨rfl,Below.refl _ _⟩
 ·have HV:=zh (yh n hf)
  obtain⟨g1,g2,g3,g4,g5⟩:=bm hf n
  rw[decide_eq_false (by omega)] at o1 o2
  rw[decide_eq_true g3] at o3
  simp only[Bool.and_false,Bool.or_true] at o1 o2 o3
  clear g3 g4 g5
  go_enter Tryz.func103,Tryz.ntmps103
  go_wp2_with fail
  refine (bZ _ hb _).mono ?_
  rintro e w' ⟨rfl,rfl⟩
  rw[g2]
  go_wp2_with fail
  refine (tH n r hf _ hk).mono ?_
  rintro e w' ⟨g1,g2⟩;subst g1
  go_wp2_with fail
  go_ret
  exact⟨by rw[HV.out];rfl,g2⟩
 ·cases n
  ·refine (acm w).mono ?_
   rintro e w' ⟨rfl,rfl⟩
   exact⟨rfl,Below.refl _ _⟩
  ·refine (acn w).mono ?_
   rintro e w' ⟨rfl,rfl⟩
   exact⟨rfl,Below.refl _ _⟩
def lastOdd (l:List UInt8):Bool:=(((l.getLast?.getD 0).toNat:Int)-48) % 2==1
theorem yk (l:List UInt8)(h:l≠[])(hl:l.length<=1000)(w:World) :
  Calls Tryz.prog 280 #[.string ⟨l.toArray⟩] w fun e w'=>e=.returned (.bool (lastOdd l))/\w=w':=by
 have ab:0<l.length:=List.length_pos_iff.2 h
 obtain⟨c,hc,aa⟩:=byte_at l (l.length-1) (by omega)
 have HL:Hid (lastOdd l=(((c.toNat:Int)-48) % 2==1)):=by
  show _=_
  rw[lastOdd,List.getLast?_eq_some_getLast h,List.getLast_eq_getElem,aa];rfl
 clear aa
 go_enter Tryz.func280,Tryz.ntmps280
 go_wp2_with fail
 go_ret
 exact⟨by rw[HL.out];rfl,rfl⟩
theorem iM (l:List UInt8)(_hl:l.length<=1000)(w:World) :
  Calls Tryz.prog 279 #[.string ⟨l.toArray⟩] w fun e w'=>e=.returned (.bool (Wm.decB l))/\Below w.heap.size w w':=by
 have HB:Hid (Wm.decB l=if (Wm.mgn l).isEmpty||(Wm.mgn l).head? == some 48 then l==[48] else (Vm.undigs (Wm.mgn l)).isEmpty):=rfl
 have hd:=Wm.adi l
 go_enter Tryz.func279,Tryz.ntmps279
 go_wp2_with fail
 refine (Tryz.strings_TrimPrefix _ _ _).mono ?_
 rintro e w' ⟨g1,g2⟩;subst g1 g2
 rw[show Lib.trimPrefix (ByteArray.data ⟨l.toArray⟩).toList (ByteArray.data ⟨#[45]⟩).toList=Wm.mgn l from Wm.adh l]
 generalize Wm.mgn l=d at *
 by_cases h0:d=[]
 ·subst h0
  have HV:Hid (Wm.decB l=(l==[48])):=by show _=_;rw[HB.out];rfl
  clear HB
  go_wp2_with fail
  go_ret
  exact⟨by rw[HV.out];rfl,Below.refl _ _⟩
 ·have aa:0<d.length:=List.length_pos_iff.2 h0
  have he:d.isEmpty=false:=by cases d <;> simp at *
  obtain⟨c,hc,ac⟩:=byte_at d 0 aa
  have hh:(d.head? == some 48)=((c.toNat:Int)==48):=by
   cases d with
   | nil=>exact absurd rfl h0
   | cons x t =>
    have:x=c:=ac
    subst this
    rw[Bool.eq_iff_iff]
    simp only[List.head?_cons,beq_iff_eq,Option.some.injEq]
    exact⟨fun h=>by rw[h];rfl,fun h=>UInt8.toNat.inj (show x.toNat=48 by omega)⟩
  rw[he,hh,Bool.false_or] at HB
  clear ac hh h0
  cases ab:((c.toNat:Int)==48)
  ·have HV:Hid (Wm.decB l=(Vm.undigs d).isEmpty):=by show _=_;rw[HB.out,ab];rfl
   clear HB
   go_wp2_with fail
   refine (gB d _).mono ?_
   rintro e w1 ⟨g1,g2⟩;subst g1
   obtain⟨u,hu⟩:=ex (Vm.undigs d)
   rw[hu] at HV
   rw[hu]
   have HD:=zh g2
   clear hu g2
   go_wp2_with fail
   go_ret
   exact⟨by rw[HV.out];rfl,HD.out⟩
  ·have HV:Hid (Wm.decB l=(l==[48])):=by show _=_;rw[HB.out,ab];rfl
   clear HB
   go_wp2_with fail
   go_ret
   exact⟨by rw[HV.out];rfl,Below.refl _ _⟩
theorem l8 (l:List UInt8)(hl:l.length<=1000)(hp:Wm.plain (Wm.mgn l))(w:World)(hk:KOk w) :
  Calls Tryz.prog 281 #[.string ⟨l.toArray⟩] w fun e w'=>e=.returned (.int .i64 (Wm.nmb l))/\Below w.heap.size w w':=by
 obtain⟨tp,p,hv⟩:=hk.2.2.2
 have aa:=Wm.yg l hp
 generalize Wm.nmb l=v at *
 rcases aa with h1 | ⟨h1,h2⟩
 ·go_enter Tryz.func281,Tryz.ntmps281
  go_wp2_with fail
  refine (Tryz.strconv_ParseInt_10_at64_ok ⟨l.toArray⟩ (by show l.toArray.size<=_;simp;omega) v h1 _).mono ?_
  rintro e w1 ⟨g1,g2⟩;subst g1
  go_wp2_with fail
  go_ret
  refine⟨rfl,?_⟩
  rcases g2 with rfl | ⟨t,rfl⟩
  ·exact Below.refl _ _
  ·exact Lib.bytesWorld_below _ _ _
 ·go_enter Tryz.func281,Tryz.ntmps281
  go_wp2_with fail
  refine (Tryz.strconv_ParseInt_10_at64_range_var ⟨l.toArray⟩ (by show l.toArray.size<=_;simp;omega) h1 tp p _ hv).mono ?_
  rintro e w1 ⟨N,g1,g2,g3,g4⟩;subst g1
  rw[show Lib.intSat 64 (ByteArray.data ⟨l.toArray⟩).toList=v from h2]
  go_wp2_with fail
  go_ret
  exact⟨rfl,g4⟩
end
section
open Go.RowKit
namespace Wm
theorem wj {k:Nat}(h:0<k)(h2:k<2 ^ 53):Lib.bitLen k=k.log2+1:=by
 obtain⟨b1,b2,b3⟩:=Lib.bitLenAux_bounds 64 k (by omega) (by omega)
 unfold Lib.bitLen
 generalize Lib.bitLenAux 64 k=m at *
 have:=mZ (l:=m-1) b2 (by rwa [show m-1+1=m from by omega])
 omega
def rangeOk (F P:Int):Bool:=decide (-9007199254740992<F)&&(decide (F<9007199254740992)&&(decide (-1074<=P)&&decide (P<=1024-((F.natAbs.log2+1:Nat):Int))))
theorem l9 {F P:Int}(h:F<=-9007199254740992):rangeOk F P=false:=by
 have:¬ -9007199254740992<F:=by omega
 simp[rangeOk,this]
theorem ma {F P:Int}(h:9007199254740992<=F):rangeOk F P=false:=by
 have:¬ F<9007199254740992:=by omega
 simp[rangeOk,this]
theorem kj {F P:Int}(h:-9007199254740992<F)(h2:F<9007199254740992):rangeOk F P=(decide (-1074<=P)&&decide (P<=1024-((F.natAbs.log2+1:Nat):Int))):=by
 simp[rangeOk,h,h2]
def prodVal (F P:Int):Nat:=word (decide (F<0)) (rungOf F.natAbs P)
end Wm
def formOk (l:List UInt8):Bool:=Vm.has 112 l&&(Wm.decB (Vm.fst 112 l)&&(Wm.decB (Vm.snd 112 l)&&lastOdd (Vm.fst 112 l)))
def prodErr (l:List UInt8):Int:=if formOk l then (if Wm.rangeOk (Wm.nmb (Vm.fst 112 l)) (Wm.nmb (Vm.snd 112 l)) then 0 else 8) else 2
def prodOf (l:List UInt8):Nat:=if prodErr l=0 then Wm.prodVal (Wm.nmb (Vm.fst 112 l)) (Wm.nmb (Vm.snd 112 l)) else 0
def prodEnd (l:List UInt8):Ending:=if prodErr l=0 then .returned (.float .f64 (prodOf l)) else pan (prodErr l)
theorem yl (l:List UInt8)(hd:Wm.decB l=true)(ho:lastOdd l=true):Wm.nmb l % 2=1\/Wm.nmb l = -9223372036854775808:=by
 obtain⟨⟨h1,h2,_⟩,_⟩:=(Wm.kN l).1 hd
 have hm:Wm.mgn l=l\/Wm.mgn l=l.drop 1:=by unfold Wm.mgn;split <;> simp
 have aa:l.getLast? = (Wm.mgn l).getLast?:=by
  rcases hm with h | h
  ·rw[h]
  ·rw[h] at h1 ⊢
   cases l with
   | nil=>rfl
   | cons c t =>
    cases t with
    | nil=>exact absurd rfl h1
    | cons d t=>rfl
 have e:=Wm.aaJ (Wm.mgn l) h1
 unfold lastOdd at ho
 rw[aa,List.getLast?_eq_some_getLast h1] at ho
 have ab:Vm.dig ((Wm.mgn l).getLast h1)=true:=by rw[List.all_eq_true] at h2;exact h2 _ (List.getLast_mem h1)
 rw[Wm.m9] at ab
 have ac:((((Wm.mgn l).getLast h1).toNat:Int)-48) % 2=1:=by simpa using ho
 unfold Wm.nmb
 split <;> split <;> omega
theorem mb (l:List UInt8):-9223372036854775808<=Wm.nmb l/\Wm.nmb l<=9223372036854775807:=by
 unfold Wm.nmb;split <;> split <;> omega
theorem aco (l:List UInt8)(c:UInt8):(Vm.fst c l).length<=l.length/\(Vm.snd c l).length<=l.length:=⟨qe l c,qm c l⟩
theorem kO (l:List UInt8)(hl:l.length<=1000)(w:World)(hk:KOk w) :
  Calls Tryz.prog 266 #[.string ⟨l.toArray⟩] w fun e w'=>e=prodEnd l/\Below w.heap.size w w':=by
 have HE:Hid (prodEnd l=if prodErr l=0 then .returned (.float .f64 (prodOf l)) else pan (prodErr l)):=rfl
 have HO:Hid (prodOf l=if prodErr l=0 then Wm.prodVal (Wm.nmb (Vm.fst 112 l)) (Wm.nmb (Vm.snd 112 l)) else 0):=rfl
 have HR:Hid (prodErr l=if formOk l then (if Wm.rangeOk (Wm.nmb (Vm.fst 112 l)) (Wm.nmb (Vm.snd 112 l)) then 0 else 8) else 2):=rfl
 have HF:Hid (formOk l=(Vm.has 112 l&&(Wm.decB (Vm.fst 112 l)&&(Wm.decB (Vm.snd 112 l)&&lastOdd (Vm.fst 112 l))))):=rfl
 have ad:formOk l=false->prodEnd l=pan 2:=fun h=>by rw[HE.out,HR.out,h];rfl
 have HB:=zh ad
 clear ad
 obtain⟨la,lb⟩:=aco l 112
 cases hh:Vm.has 112 l
 ·have HV:Hid (prodEnd l=pan 2):=HB.out (by rw[HF.out,hh];rfl)
  go_enter Tryz.func266,Tryz.ntmps266
  go_wp2_with fail
  refine (lD l 112 _ hk.1 (by omega) hh).mono ?_
  rintro e w1 ⟨g1,g2⟩;subst g1
  have HD:Hid (Below w.heap.size w w1):=by obtain⟨n,rfl⟩:=g2;exact below_drewN (Below.refl _ _) n
  clear g2 hh
  go_wp2_with fail
  refine (ai _).mono ?_
  rintro e w2 ⟨g1,g2⟩;subst g2;subst g1
  go_wp2_with fail
  exact⟨rfl,HV.out.symm,HD.out⟩
 ·have hcut:=fun W h=>jL l 112 W h (by omega) hh
  rw[hh] at HF
  generalize Vm.fst 112 l=bf at *
  generalize Vm.snd 112 l=af at *
  clear hh
  go_enter Tryz.func266,Tryz.ntmps266
  go_wp2_with fail
  refine (hcut _ hk.1).mono ?_
  rintro e w1 ⟨g1,g2⟩;subst g1
  have HD:Hid (Below w.heap.size w w1):=by obtain⟨n,rfl⟩:=g2;exact below_drewN (Below.refl _ _) n
  have ar:=az hk HD.out
  clear g2 hk hcut
  go_wp2_with fail
  refine (iM bf (by omega) _).mono ?_
  rintro e w2 ⟨g1,g2⟩;subst g1
  have al:=zh (bt HD.out g2)
  have au:=az ar g2
  clear g2 ar HD
  cases ab:Wm.decB bf
  ·have HV:Hid (prodEnd l=pan 2):=HB.out (by rw[HF.out,ab];rfl)
   clear ab
   go_wp2_with fail
   refine (ai _).mono ?_
   rintro e w3 ⟨g1,g2⟩;subst g2;subst g1
   go_wp2_with fail
   exact⟨rfl,HV.out.symm,al.out⟩
  ·go_wp2_with fail
   refine (iM af (by omega) _).mono ?_
   rintro e w3 ⟨g1,g2⟩;subst g1
   have aj:=zh (bt al.out g2)
   have am:=az au g2
   clear g2 au al
   cases ac:Wm.decB af
   ·have HV:Hid (prodEnd l=pan 2):=HB.out (by rw[HF.out,ab,ac];rfl)
    clear ab ac
    go_wp2_with fail
    refine (ai _).mono ?_
    rintro e w4 ⟨g1,g2⟩;subst g2;subst g1
    go_wp2_with fail
    exact⟨rfl,HV.out.symm,aj.out⟩
   ·have an:=((Wm.kN bf).1 ab).1
    have av:=((Wm.kN af).1 ac).1
    have aw:bf≠[]:=fun h=>an.1 (by rw[h];rfl)
    have ax:=zh an
    have ay:=zh av
    have aA:=zh aw
    clear an av aw
    go_wp2_with fail
    refine (yk bf aA.out (by omega) _).mono ?_
    rintro e w4 ⟨g1,g2⟩;subst g2;subst g1
    cases ho:lastOdd bf
    ·have HV:Hid (prodEnd l=pan 2):=HB.out (by rw[HF.out,ab,ac,ho];rfl)
     clear ab ac ho
     go_wp2_with fail
     refine (ai _).mono ?_
     rintro e w4 ⟨g1,g2⟩;subst g2;subst g1
     go_wp2_with fail
     exact⟨rfl,HV.out.symm,aj.out⟩
    ·have aF:Hid (formOk l=true):=by show _=_;rw[HF.out,ab,ac,ho];rfl
     rw[aF.out] at HR
     have aB:=zh (yl bf ab ho)
     clear ab ac ho HF HB
     go_wp2_with fail
     refine (ag _).mono ?_
     rintro e w4 ⟨g1,g2⟩;subst g2;subst g1
     go_wp2_with fail
     refine (l8 bf (by omega) ax.out _ am).mono ?_
     rintro e w4 ⟨g1,g2⟩;subst g1
     have aC:=zh (bt aj.out g2)
     have aD:=az am g2
     clear g2 am aj
     go_wp2_with fail
     refine (l8 af (by omega) ay.out _ aD).mono ?_
     rintro e w5 ⟨g1,g2⟩;subst g1
     have ae:=zh (bt aC.out g2)
     clear g2 aD aC ax ay aA
     have hF:=mb bf
     have hP:=mb af
     generalize Wm.nmb bf=F at *
     generalize Wm.nmb af=P at *
     have aE:Hid (prodErr l=if Wm.rangeOk F P then 0 else 8):=by show _=_;rw[HR.out];rfl
     have ak:Hid (Wm.rangeOk F P=false->prodEnd l=pan 8):=by
      show _->_
      intro h
      rw[HE.out,aE.out,h];rfl
     clear HR
     by_cases c1:F<=-9007199254740992
     ·have HV:Hid (prodEnd l=pan 8):=ak.out (Wm.l9 c1)
      go_wp2_with fail
      refine (ai _).mono ?_
      rintro e w6 ⟨g1,g2⟩;subst g2;subst g1
      go_wp2_with fail
      exact⟨rfl,HV.out.symm,ae.out⟩
     by_cases c2:9007199254740992<=F
     ·have HV:Hid (prodEnd l=pan 8):=ak.out (Wm.ma c2)
      go_wp2_with fail
      rw[show decide (F<9007199254740992)=false from decide_eq_false (by omega)]
      refine (ai _).mono ?_
      rintro e w6 ⟨g1,g2⟩;subst g2;subst g1
      go_wp2_with fail
      exact⟨rfl,HV.out.symm,ae.out⟩
     have aG:F % 2=1:=by rcases aB.out with h | h <;> omega
     have ah:0<F.natAbs:=by omega
     have aa:F.natAbs<2 ^ 53:=by omega
     have aH:=zh (Wm.wj ah aa)
     have aL:=Wm.bQ ah aa
     have ao:max F (-F)=((F.natAbs:Nat):Int):=by omega
     have ap:Hid (Wm.rangeOk F P=(decide (-1074<=P)&&decide (P<=1024-((F.natAbs.log2+1:Nat):Int)))):=Wm.kj (by omega) (by omega)
     clear aB
     have aM:-9007199254740992<F:=by omega
     have aN:F<9007199254740992:=by omega
     clear c1 c2
     go_wp2_with fail
     refine (ag _).mono ?_
     rintro e w6 ⟨g1,g2⟩;subst g2;subst g1
     go_wp2_with fail
     refine (Tryz.bits_Len64 _ _ (by omega) (by omega)).mono ?_
     rintro e w6 ⟨g1,g2⟩;subst g2;subst g1
     rw[show ((F.natAbs:Nat):Int).toNat=F.natAbs from rfl,aH.out]
     clear ao
     by_cases p1:P < -1074
     ·have HV:Hid (prodEnd l=pan 8):=ak.out (by rw[ap.out,decide_eq_false (by omega)];rfl)
      go_wp2_with fail
      refine (ai _).mono ?_
      rintro e w7 ⟨g1,g2⟩;subst g2;subst g1
      go_wp2_with fail
      exact⟨rfl,HV.out.symm,ae.out⟩
     by_cases p2:1024-((F.natAbs.log2+1:Nat):Int)<P
     ·have HV:Hid (prodEnd l=pan 8):=ak.out (by rw[ap.out,decide_eq_false (show ¬ P<=1024-((F.natAbs.log2+1:Nat):Int) by omega),Bool.and_false])
      go_wp2_with fail
      rw[show decide (P<=1024-((F.natAbs.log2:Int)+1))=false from decide_eq_false (by omega)]
      refine (ai _).mono ?_
      rintro e w7 ⟨g1,g2⟩;subst g2;subst g1
      go_wp2_with fail
      exact⟨rfl,HV.out.symm,ae.out⟩
     have HZ:Hid (prodErr l=0):=by show _=_;rw[aE.out,ap.out,decide_eq_true (show -1074<=P by omega),decide_eq_true (show P<=1024-((F.natAbs.log2+1:Nat):Int) by omega)];rfl
     have HV:Hid (prodEnd l=.returned (.float .f64 (Wm.prodVal F P))):=by show _=_;rw[HE.out,HO.out,if_pos HZ.out,if_pos HZ.out]
     have aI:FloatKind.f64.nearest F=Wm.word (decide (F<0)) (Wm.rungOf F.natAbs 0):=Wm.aay F (by omega) aa
     have aJ:=Wm.rung0 ah aa
     have aK:=Wm.jl (e:=0) ah aa (by omega)
     have hx:=Wm.x9 (decide (F<0)) ah aa (show -1074<=P by omega) (by omega)
     have aq:Fin (Wm.rungOf F.natAbs 0):=aK
     go_wp2_with fail
     rw[show decide (P<=1024-((F.natAbs.log2:Int)+1))=true from decide_eq_true (by omega)]
     refine (ag _).mono ?_
     rintro e w7 ⟨g1,g2⟩;subst g2;subst g1
     go_wp2_with fail
     rw[show floatOfInt .f64 F=Wm.word (decide (F<0)) (Wm.rungOf F.natAbs 0) from aI]
     refine (oc (decide (F<0)) (Wm.rungOf F.natAbs 0) P aq aJ.2.2 (by omega) _).mono ?_
     rintro e w8 ⟨g1,g2⟩;subst g2;subst g1
     rw[hx]
     go_wp2_with fail
     go_ret
     exact⟨by rw[HV.out];rfl,ae.out⟩
end
section
open Go.RowKit
def litW (l:List UInt8):Option Nat :=
 if l=[105,110,102] then some 9218868437227405312 else if l=[45,105,110,102] then some 18442240474082181120
 else if l=[110,97,110] then some 9221120237041090561 else if l=[48] then some 0 else if l=[45,48] then some 9223372036854775808 else none
def errW (l:List UInt8):Int:=if (litW l).isSome then 0 else prodErr l
def valW (l:List UInt8):Nat:=(litW l).getD (prodOf l)
theorem oe (l:List UInt8):l=[105,110,102]\/l=[45,105,110,102]\/l=[110,97,110]\/l=[48]\/l=[45,48] \/
  ((l==[105,110,102])=false/\(l==[45,105,110,102])=false/\(l==[110,97,110])=false/\(l==[48])=false/\(l==[45,48])=false/\errW l=prodErr l/\valW l=prodOf l):=by
 by_cases h1:l=[105,110,102]
 ·exact Or.inl h1
 by_cases h2:l=[45,105,110,102]
 ·exact Or.inr (Or.inl h2)
 by_cases h3:l=[110,97,110]
 ·exact Or.inr (Or.inr (Or.inl h3))
 by_cases h4:l=[48]
 ·exact Or.inr (Or.inr (Or.inr (Or.inl h4)))
 by_cases h5:l=[45,48]
 ·exact Or.inr (Or.inr (Or.inr (Or.inr (Or.inl h5))))
 have hl:litW l=none:=by unfold litW;rw[if_neg h1,if_neg h2,if_neg h3,if_neg h4,if_neg h5]
 refine Or.inr (Or.inr (Or.inr (Or.inr (Or.inr ⟨?_,?_,?_,?_,?_,?_,?_⟩))))
 ·exact beq_eq_false_iff_ne.2 h1
 ·exact beq_eq_false_iff_ne.2 h2
 ·exact beq_eq_false_iff_ne.2 h3
 ·exact beq_eq_false_iff_ne.2 h4
 ·exact beq_eq_false_iff_ne.2 h5
 ·unfold errW;rw[hl];rfl
 ·unfold valW;rw[hl];rfl
def parseEnd (l:List UInt8):Ending:=if errW l=0 then .returned (.float .f64 (valW l)) else pan (errW l)
theorem mc (l:List UInt8)(hl:l.length<=1000)(w:World)(hk:KOk w) :
  Calls Tryz.prog 249 #[.string ⟨l.toArray⟩] w fun e w'=>e=parseEnd l/\Below w.heap.size w w':=by
 rcases oe l with rfl | rfl | rfl | rfl | rfl | ⟨h1,h2,h3,h4,h5,he,hv⟩
 ·go_enter Tryz.func249,Tryz.ntmps249
  go_wp2_with fail
  refine (m3 _ _).mono ?_
  rintro e w1 ⟨g1,g2⟩;subst g2;subst g1
  go_wp2_with fail
  go_ret
  exact⟨rfl,Below.refl _ _⟩
 ·go_enter Tryz.func249,Tryz.ntmps249
  go_wp2_with fail
  refine (m3 _ _).mono ?_
  rintro e w1 ⟨g1,g2⟩;subst g2;subst g1
  go_wp2_with fail
  go_ret
  exact⟨rfl,Below.refl _ _⟩
 ·go_enter Tryz.func249,Tryz.ntmps249
  go_wp2_with fail
  refine (aca _).mono ?_
  rintro e w1 ⟨g1,g2⟩;subst g2;subst g1
  go_wp2_with fail
  go_ret
  exact⟨rfl,Below.refl _ _⟩
 ·go_enter Tryz.func249,Tryz.ntmps249
  go_wp2_with fail
  go_ret
  exact⟨rfl,Below.refl _ _⟩
 ·go_enter Tryz.func249,Tryz.ntmps249
  go_wp2_with fail
  refine (jr _ _ (by decide) (by decide) _).mono ?_
  rintro e w1 ⟨g1,g2⟩;subst g2;subst g1
  go_wp2_with fail
  go_ret
  exact⟨rfl,Below.refl _ _⟩
 ·have HV:Hid (parseEnd l=prodEnd l):=by show _=_;unfold parseEnd prodEnd;rw[he,hv]
  clear he hv
  go_enter Tryz.func249,Tryz.ntmps249
  go_wp2_with fail
  refine (kO l hl _ hk).mono ?_
  rintro e w1 ⟨g1,g2⟩;subst g1
  by_cases h0:prodErr l=0
  ·have e1:prodEnd l=.returned (.float .f64 (prodOf l)):=if_pos h0
   rw[e1] at HV
   rw[e1]
   clear e1 h0
   go_wp2_with fail
   go_ret
   exact⟨HV.out.symm,g2⟩
  ·have e1:prodEnd l=pan (prodErr l):=if_neg h0
   rw[e1] at HV
   rw[e1]
   clear e1 h0
   go_wp2_with fail
   exact⟨rfl,HV.out.symm,g2⟩
theorem wk (l:List UInt8)(hl:l.length<=1000)(w:World)(hk:KOk w)(h:errW l=0) :
  Calls Tryz.prog 249 #[.string ⟨l.toArray⟩] w fun e w'=>e=.returned (.float .f64 (valW l))/\Below w.heap.size w w':=by
 have:=mc l hl w hk
 unfold parseEnd at this
 rwa [if_pos h] at this
theorem ym (l:List UInt8)(hl:l.length<=1000)(w:World)(hk:KOk w)(h:errW l≠0) :
  Calls Tryz.prog 249 #[.string ⟨l.toArray⟩] w fun e w'=>e=pan (errW l)/\Below w.heap.size w w':=by
 have:=mc l hl w hk
 unfold parseEnd at this
 rwa [if_neg h] at this
theorem rl (p:Addr)(x:Int)(n:Int)(w:World)(hc:w.cell? p=some (.int .i64 x))(hz:w.frozen? p=false) :
  CallsD Tryz.prog 248 #[.pointer (some p)] (.panicking [{ v:=.iface 29 (.int .i64 n),recovered:=false }]) w fun e u' w' =>
   e=.returned (.tuple #[])/\u'=.panicking [{ v:=.iface 29 (.int .i64 n),recovered:=true }]/\w'=w.setCell p (.int .i64 n):=by
 refine callsD_of_wpS Tryz.func248 rfl fun c₀ cs hu=>?_
 apply wpS_region
 simp[wpOpsS,go_sem,recoverD,hu,Tryz.ntmps248]
 refine (bE n _).mono ?_
 rintro e w' ⟨rfl,rfl⟩
 simp[go_sem,hc,hz,bodyPostS,results,Tryz.results248]
theorem tI (p:Addr)(x:Int)(w:World)(hc:w.cell? p=some (.int .i64 x))(hz:w.frozen? p=false) :
  CallsD Tryz.prog 248 #[.pointer (some p)] .returning w fun e u' w'=>e=.returned (.tuple #[])/\u'=.returning/\w'=w.setCell p (.int .i64 0):=by
 refine callsD_of_wpS Tryz.func248 rfl fun c₀ cs hu=>?_
 apply wpS_region
 simp[wpOpsS,go_sem,recoverD,hu,Tryz.ntmps248]
 refine (bD _).mono ?_
 rintro e w' ⟨rfl,rfl⟩
 cases c₀
 simp_all [go_sem,bodyPostS,results,Tryz.results248]
def outW (l:List UInt8):Nat:=if errW l=0 then valW l else 0
theorem acp (l:List UInt8)(hl:l.length<=1000)(w:World)(hw:KOk w) :
  Calls Tryz.prog 222 #[.string ⟨l.toArray⟩] w fun e w'=>e=.returned (.tuple #[.float .f64 (outW l),.int .i64 (errW l)])/\Below w.heap.size w w':=by
 have af:∀ (fn:Fn) (first cap:Array Value) (w:World),(Instr.makeFunc fn first cap).run Tryz.prog w=.ok (.func fn first cap) w:=fun _ _ _ _=>rfl
 have hM:KOk (w.alloc (.cells #[.int .i64 0] 29)):=az hw ((Below.refl _ _).alloc (Nat.le_refl _) _)
 have HM:=zh hM
 clear hw hM
 by_cases h:errW l=0
 ·have H:=zh h
  have HC:Hid (outW l=valW l):=by show _=_;rw[outW,if_pos h]
  clear h
  go_enter_defers Tryz.func222,Tryz.ntmps222
  go_wp2_with fail
  refine (wk l hl _ HM.out H.out).mono ?_
  rintro e w2 ⟨rfl,hb⟩
  have ac:Below (w.heap.size+1) (w.alloc (.cells #[.int .i64 0] 29)) w2:=by simpa using hb
  obtain⟨aa,ab⟩:=aT w w2 _ _ ac
  have ae:=zh ac
  clear hb ac
  go_wp2_with fail
  refine leaves_cons (f:=248) (args:=#[.pointer (some ⟨w.heap.size,0,none⟩)]) (by simp) (by simp[go_sem]) ?_
  refine (tI ⟨w.heap.size,0,none⟩ 0 _ ?_ ?_).mono ?_
  ·simp[go_sem,aa]
  ·simp[go_sem,ab]
  rintro e u' w3 ⟨rfl,rfl,rfl⟩
  simp[Leaves,settle,results,Tryz.results222,go_sem,aa]
  exact⟨⟨by rw[HC.out],H.out.symm⟩,((aU ae.out).setCell (Nat.le_refl _) _).setCell (Nat.le_refl _) _⟩
 ·have H:=zh h
  have HC:Hid (outW l=0):=by show _=_;rw[outW,if_neg h]
  clear h
  go_enter_defers Tryz.func222,Tryz.ntmps222
  go_wp2_with fail
  refine (ym l hl _ HM.out H.out).mono ?_
  rintro e w1 ⟨rfl,hb⟩
  have ad:Below (w.heap.size+1) (w.alloc (.cells #[.int .i64 0] 29)) w1:=by simpa using hb
  obtain⟨aa,ab⟩:=aT w w1 _ _ ad
  have HB:=zh ad
  clear hb ad
  go_wp2_with fail
  refine leaves_cons (f:=248) (args:=#[.pointer (some ⟨w.heap.size,0,none⟩)]) (by simp) (by simp[go_sem]) ?_
  refine (rl ⟨w.heap.size,0,none⟩ 0 _ _ ?_ ?_).mono ?_
  ·simp[go_sem,aa]
  ·simp[go_sem,ab]
  rintro e u' w2 ⟨rfl,rfl,rfl⟩
  simp[Leaves,settle,results,Tryz.results222,go_sem,aa]
  exact⟨by rw[HC.out],(aU HB.out).setCell (Nat.le_refl _) _⟩
end
section
open Go.RowKit Rs At Pg
def Pg.okAt (i e:Int):Ending:=if e=0 then .returned (.tuple #[]) else panAt i e
theorem Pg.ef (i:Int):okAt i 0=.returned (.tuple #[]):=rfl
theorem Pg.gM {i e:Int}(h:e≠0):okAt i e=panAt i e:=if_neg h
attribute [local go_sem ↓] Go.wp_at_zero Go.wp_at_succ
theorem aJ (t:List UInt8)(i:Int)(b:Bool)(e:Int)(w:World) :
  Calls Tryz.prog 218 #[.agg #[.string ⟨t.toArray⟩,.int .i64 i],.bool b,.int .i64 e] w fun r w'=>r=(if b then .returned (.tuple #[]) else panAt i e)/\Below w.heap.size w w':=by
 obtain⟨V,hV⟩:=ex (w.alloc (.cells #[.string ⟨t.toArray⟩,.int .i64 i] 206))
 have HB:Hid (Below w.heap.size w V):=ab hV
 obtain⟨c0,c1⟩:=ao hV (Below.refl _ _)
 cases b
 ·go_enter Tryz.func218,Tryz.ntmps218
  go_wp2_with fail
  refine (an _).mono ?_
  rintro _ u ⟨rfl,rfl⟩
  go_wp2_with fail
  exact⟨rfl,rfl,HB.out⟩
 ·go_enter Tryz.func218,Tryz.ntmps218
  go_wp2_with fail
  refine (ax _).mono ?_
  rintro _ u ⟨rfl,rfl⟩
  go_wp2_with fail
  go_end0
  exact⟨rfl,HB.out⟩
theorem cW (t:List UInt8)(i e:Int)(w:World) :
  Calls Tryz.prog 219 #[.agg #[.string ⟨t.toArray⟩,.int .i64 i],.int .i64 e] w fun r w'=>r=okAt i e/\Below w.heap.size w w':=by
 obtain⟨V,hV⟩:=ex (w.alloc (.cells #[.string ⟨t.toArray⟩,.int .i64 i] 206))
 have HB:Hid (Below w.heap.size w V):=ab hV
 obtain⟨c0,c1⟩:=ao hV (Below.refl _ _)
 by_cases h0:e=0
 ·subst h0
  rw[ef]
  go_enter Tryz.func219,Tryz.ntmps219
  go_wp2_with fail
  refine (aJ t i true 0 _).mono ?_
  rintro _ u ⟨rfl,hb⟩
  have HU:Hid (Below w.heap.size w u):=bt HB.out hb
  clear hb
  go_wp2_with fail
  go_end0
  exact⟨rfl,HU.out⟩
 ·have d:(e==0)=false:=beq_eq_false_iff_ne.2 h0
  rw[gM h0]
  clear h0
  go_enter Tryz.func219,Tryz.ntmps219
  go_wp2_with fail
  refine (aJ t i false e _).mono ?_
  rintro _ u ⟨rfl,hb⟩
  have HU:Hid (Below w.heap.size w u):=bt HB.out hb
  clear hb
  go_wp2_with fail
  exact⟨rfl,rfl,HU.out⟩
theorem fj (t:List UInt8)(i:Int)(w:World)(hw:MaxOk w) :
  Calls Tryz.prog 183 #[.agg #[.string ⟨t.toArray⟩,.int .i64 i]] w fun r w'=>r=(if Vm.check t=0 then .returned (.string ⟨(canonOf t).toArray⟩) else panAt i (Vm.check t))/\Below w.heap.size w w':=by
 obtain⟨V,hV⟩:=ex (w.alloc (.cells #[.string ⟨t.toArray⟩,.int .i64 i] 206))
 have HB:Hid (Below w.heap.size w V):=ab hV
 obtain⟨c0,c1⟩:=ao hV (Below.refl _ _)
 have HC:=zh (bY t V (aa hw HB.out))
 obtain⟨x,hx⟩:=ex (canonOf t)
 obtain⟨k,hk⟩:=ex (Vm.check t)
 rw[hx,hk] at HC
 rw[hx,hk]
 have HV:=zh hV
 clear hx hk hw
 go_enter Tryz.func183,Tryz.ntmps183
 go_wp2_with fail
 clear hV
 refine HC.out.mono ?_
 rintro _ u ⟨rfl,hb⟩
 have HU:Hid (Below w.heap.size w u):=bt HB.out hb
 clear c0 c1
 obtain⟨c0,c1⟩:=ao HV.out hb
 clear hb HC
 go_wp2_with fail
 refine (cW t i k _).mono ?_
 rintro _ u2 ⟨rfl,hb⟩
 have ac:Hid (Below w.heap.size w u2):=bt HU.out hb
 clear hb c0 c1
 by_cases h0:k=0
 ·subst h0
  rw[ef]
  go_wp2_with fail
  go_ret
  exact⟨rfl,ac.out⟩
 ·rw[gM h0]
  have H0:=zh h0
  clear h0
  go_wp2_with fail
  exact⟨rfl,by first | exact (if_neg H0.out).symm | rfl | rw[if_neg H0.out],ac.out⟩
theorem iN (t:List UInt8)(i:Int)(w:World)(ht:t.length<=281474976710656) :
  Calls Tryz.prog 182 #[.agg #[.string ⟨t.toArray⟩,.int .i64 i]] w fun r w'=>r=(if nameB t=true then .returned (.string ⟨t.toArray⟩) else panAt i 3)/\Below w.heap.size w w':=by
 obtain⟨b,hb⟩:=ex w.heap.size
 obtain⟨V,hV⟩:=ex (w.alloc (.cells #[.string ⟨t.toArray⟩,.int .i64 i] 206))
 have HB:Hid (Below w.heap.size w V):=ab hV
 have HP:=zh (fun W (h:Below V.heap.size V W)=>ao hV h)
 rw[hb] at HP
 obtain⟨c0,c1⟩:=HP.out _ (Below.refl _ _)
 have HN:=zh (fun W=>d7 t W (Nat.le_trans ht (by decide)))
 obtain⟨x,hx⟩:=ex (nameB t)
 rw[hx] at HN
 rw[hx]
 have HL:Hid (t.length<=281474976710656):=ht
 clear hx ht
 go_enter Tryz.func182,Tryz.ntmps182
 go_wp2_with fail
 have aa:Hid (Below V.heap.size V V.drew):=(Below.refl _ _).drew
 clear hb hV
 cases x
 ·clear c0 c1
  obtain⟨c0,c1⟩:=HP.out _ aa.out
  go_region_with (first
    | (go_at_call 128;refine (HN.out _).mono ?_;rintro _ u2 ⟨rfl,rfl⟩)
    | (go_at_call 218;refine (aJ t i false 3 _).mono ?_;rintro _ u3 ⟨rfl,hs⟩;have ac:=zh hs;clear hs;refine df (P:=Tryz.prog) (a:={ tmps:=#[],defers:=[] }) (w:=w) ?_))
  all_goals exact⟨rfl,rfl,HB.out.trans ((bt aa.out ac.out).mono HB.out.size)⟩
 ·go_region_held3 (fun w'=>w'.cell? ⟨b,0,none⟩=some (.string ⟨t.toArray⟩)/\w'.cell? ⟨b,1,none⟩=some (.int .i64 i))
   (first
    | exact HP.out _ aa.out
    | exact HP.out _ (bt aa.out ac.out))
   (first
    | (go_at_call 128;refine (HN.out _).mono ?_;rintro _ u2 ⟨rfl,rfl⟩)
    | (go_at_call 218;refine (aJ t i true 3 _).mono ?_;rintro _ u3 ⟨rfl,hs⟩;have ac:=zh hs;clear hs))
  have ad:Hid (Below V.heap.size V u3):=bt aa.out ac.out
  clear c0 c1 ac
  obtain⟨c0,c1⟩:=HP.out _ ad.out
  go_wp2_with fail
  refine (aN t _ HL.out).mono ?_
  rintro _ u5 ⟨rfl,ae⟩
  have af:Hid (Below w.heap.size w u5):=HB.out.trans ((bt ad.out ae).mono HB.out.size)
  clear ae
  go_wp2_with fail
  go_ret
  exact⟨rfl,af.out⟩
end
section
open Go.RowKit
attribute [local go_sem ↓] Go.wp_at_zero Go.wp_at_succ
theorem cP {w W1 u:World}{a b c:Value}{T:TypeId}(h1:w.alloc (.cells #[a,b,c] T)=W1)(hb:Below W1.heap.size W1 u) :
  u.cell? ⟨w.heap.size,0,none⟩=some a/\u.cell? ⟨w.heap.size,1,none⟩=some b/\u.cell? ⟨w.heap.size,2,none⟩=some c/\u.frozen? ⟨w.heap.size,0,none⟩=false/\u.frozen? ⟨w.heap.size,1,none⟩=false/\u.frozen? ⟨w.heap.size,2,none⟩=false:=by
 subst h1
 have h:u.heap[w.heap.size]?=some (.cells #[a,b,c] T (0,0)):=(hb.block _ (by simp)).trans (heap_alloc_new w _)
 refine⟨?_,?_,?_,?_,?_,?_⟩ <;> simp[World.cell?,World.frozen?,h]
def FC (b:Nat) (key val:List UInt8) (line:Int) (u:World):Prop :=
 u.cell? ⟨b,0,none⟩=some (.string ⟨key.toArray⟩)/\u.cell? ⟨b,1,none⟩=some (.string ⟨val.toArray⟩)/\u.cell? ⟨b,2,none⟩=some (.int .i64 line) /\
 u.cell? ⟨b+1,0,none⟩=some (.string ⟨#[]⟩)/\u.cell? ⟨b+1,1,none⟩=some (.string ⟨#[]⟩)/\u.cell? ⟨b+1,2,none⟩=some (.int .i64 0)/\u.frozen? ⟨b+1,0,none⟩=false/\u.frozen? ⟨b+1,1,none⟩=false/\u.frozen? ⟨b+1,2,none⟩=false
theorem adN {w W1 W2 u:World}{key val:List UInt8}{line:Int}(h1:w.alloc (.cells #[.string ⟨key.toArray⟩,.string ⟨val.toArray⟩,.int .i64 line] 108)=W1)(h2:W1.alloc (.cells #[.string ⟨#[]⟩,.string ⟨#[]⟩,.int .i64 0] 108)=W2)(hb:Below W2.heap.size W2 u):FC w.heap.size key val line u:=by
 have aa:W1.heap.size=w.heap.size+1:=by rw[<-h1];simp
 have ac:Below W1.heap.size W1 u:=(ab h2).trans (hb.mono (ab h2).size)
 obtain⟨a0,a1,a2,_⟩:=cP h1 ac
 have h:=cP h2 hb
 rw[aa] at h
 exact⟨a0,a1,a2,h⟩
theorem fc3 {b:Nat}{key val:List UInt8}{line:Int}{u:World}(h:FC b key val line u):u.cell? ⟨b,0,none⟩=some (.string ⟨key.toArray⟩)/\u.cell? ⟨b,1,none⟩=some (.string ⟨val.toArray⟩)/\u.cell? ⟨b,2,none⟩=some (.int .i64 line):=⟨h.1,h.2.1,h.2.2.1⟩
theorem adm {b:Nat}{key val:List UInt8}{line:Int}{u:World}(h:FC b key val line u)(x y z:Value) :
  (((u.setCell ⟨b+1,0,none⟩ x).setCell ⟨b+1,1,none⟩ y).setCell ⟨b+1,2,none⟩ z).cell? ⟨b,0,none⟩=some (.string ⟨key.toArray⟩)/\(((u.setCell ⟨b+1,0,none⟩ x).setCell ⟨b+1,1,none⟩ y).setCell ⟨b+1,2,none⟩ z).cell? ⟨b,1,none⟩=some (.string ⟨val.toArray⟩)/\(((u.setCell ⟨b+1,0,none⟩ x).setCell ⟨b+1,1,none⟩ y).setCell ⟨b+1,2,none⟩ z).cell? ⟨b,2,none⟩=some (.int .i64 line):=by
 have far:∀ j,(((u.setCell ⟨b+1,0,none⟩ x).setCell ⟨b+1,1,none⟩ y).setCell ⟨b+1,2,none⟩ z).cell? ⟨b,j,none⟩=u.cell? ⟨b,j,none⟩:=fun j=>by
  rw[World.cell?_setCell_far _ _ _ _ (by show b+1≠b;omega),World.cell?_setCell_far _ _ _ _ (by show b+1≠b;omega),World.cell?_setCell_far _ _ _ _ (by show b+1≠b;omega)]
 exact⟨(far 0).trans h.1,(far 1).trans h.2.1,(far 2).trans h.2.2.1⟩
theorem adn {b:Nat}{key val:List UInt8}{line:Int}{u:World}(h:FC b key val line u)(x y z:Value) :
  (((u.setCell ⟨b+1,0,none⟩ x).setCell ⟨b+1,1,none⟩ y).setCell ⟨b+1,2,none⟩ z).cell? ⟨b+1,0,none⟩=some x/\(((u.setCell ⟨b+1,0,none⟩ x).setCell ⟨b+1,1,none⟩ y).setCell ⟨b+1,2,none⟩ z).cell? ⟨b+1,1,none⟩=some y/\(((u.setCell ⟨b+1,0,none⟩ x).setCell ⟨b+1,1,none⟩ y).setCell ⟨b+1,2,none⟩ z).cell? ⟨b+1,2,none⟩=some z:=by
 obtain⟨_,_,_,b0,b1,b2,_⟩:=h
 refine⟨?_,?_,?_⟩ <;> simp[go_sem,b0,b1,b2]
theorem me (key val:List UInt8)(line:Int)(w:World)(hk:key.length<=140737488355328)(hv:val.length<=140737488355328) :
  Calls Tryz.prog 152 #[.agg #[.string ⟨key.toArray⟩,.string ⟨val.toArray⟩,.int .i64 line]] w fun e w'=>e=.returned (.agg #[.string ⟨key.toArray⟩,.string ⟨val.toArray⟩,.int .i64 line])/\Below w.heap.size w w':=by
 obtain⟨W1,ad⟩:=ex (w.alloc (.cells #[.string ⟨key.toArray⟩,.string ⟨val.toArray⟩,.int .i64 line] 108))
 obtain⟨W2,af⟩:=ex (W1.alloc (.cells #[.string ⟨#[]⟩,.string ⟨#[]⟩,.int .i64 0] 108))
 have aa:Hid (∀ u,Below W2.heap.size W2 u->FC w.heap.size key val line u):=fun u hb=>adN ad af hb
 have al:W1.heap.size=w.heap.size+1:=by rw[<-ad];simp
 have aj:Hid (Below w.heap.size w W2):=(ab ad).trans ((ab af).mono (ab ad).size)
 have HK:=zh hk
 have HV:=zh hv
 clear hk hv
 go_enter Tryz.func152,Tryz.ntmps152
 go_wp2_with fail
 have ae:Hid (Below W2.heap.size W2 W2.drew):=(Below.refl _ _).drew
 obtain⟨a0,a1,a2,b0,b1,b2,f0,f1,f2⟩:=aa.out _ ae.out
 clear ad af
 clear b0 b1 b2 f0 f1 f2
 go_region_held3 (fun w'=>w'.cell? ⟨w.heap.size,0,none⟩=some (.string ⟨key.toArray⟩)/\w'.cell? ⟨w.heap.size,1,none⟩=some (.string ⟨val.toArray⟩)/\w'.cell? ⟨w.heap.size,2,none⟩=some (.int .i64 line))
  (first
   | exact fc3 (aa.out _ ae.out)
   | exact fc3 (aa.out _ ag.out)
   | exact fc3 (aa.out _ ac.out)
   | exact adm (aa.out _ ac.out) _ _ _)
  (first
   | (go_at_call 41;refine (aN val _ (by have:=HV.out;omega)).mono ?_;rintro _ u3 ⟨rfl,ah⟩;have ac:=zh (bt ag.out ah);clear ah;obtain⟨_,_,_,b0,b1,b2,f0,f1,f2⟩:=aa.out _ ac.out)
   | (go_at_call 41;refine (aN key _ (by have:=HK.out;omega)).mono ?_;rintro _ u2 ⟨rfl,ai⟩;have ag:=zh (bt ae.out ai);clear ai))
 have ak:Hid (Below w.heap.size w (((u3.setCell ⟨w.heap.size+1,0,none⟩ (.string ⟨key.toArray⟩)).setCell ⟨w.heap.size+1,1,none⟩ (.string ⟨val.toArray⟩)).setCell ⟨w.heap.size+1,2,none⟩ (.int .i64 line))) :=
  (((bt aj.out ac.out).setCell (Nat.le_succ _) _).setCell (Nat.le_succ _) _).setCell (Nat.le_succ _) _
 have g:=adn (aa.out _ ac.out) (.string ⟨key.toArray⟩) (.string ⟨val.toArray⟩) (.int .i64 line)
 go_wp2_with fail
 generalize ((u3.setCell ⟨w.heap.size+1,0,none⟩ (.string ⟨key.toArray⟩)).setCell ⟨w.heap.size+1,1,none⟩ (.string ⟨val.toArray⟩)).setCell ⟨w.heap.size+1,2,none⟩ (.int .i64 line)=V at *
 obtain⟨g0,g1,g2⟩:=g
 refine bodyPost_ret (v:=.agg #[.string ⟨key.toArray⟩,.string ⟨val.toArray⟩,.int .i64 line]) ?_ rfl ⟨rfl,ak.out⟩
 simp[results,Tryz.results152,go_sem,g0,g1,g2]
def FieldRet (w:World) (n:Int) (R:Option Sz.Fld) (e:Ending) (w':World):Prop :=
 Below w.heap.size w w'/\match R with
  | some f=>e=.returned (.agg #[.string ⟨f.key.toArray⟩,.string ⟨f.val.toArray⟩,.int .i64 n])
  | none=>e=panAt n 2
theorem tJ (s:List UInt8)(w:World)(hm:MaxOk w)(hl:s.length<=1000000) :
  Calls Tryz.prog 89 #[.string ⟨s.toArray⟩,.string ⟨#[58,32]⟩] w fun e w'=>e=.returned (.tuple #[.string ⟨(Lib.cut s Sz.mark).1.toArray⟩,.string ⟨(Lib.cut s Sz.mark).2.1.toArray⟩,.bool (Lib.cut s Sz.mark).2.2])/\Below w.heap.size w w':=by
 obtain⟨m,hm⟩:=hm
 exact (Tryz.strings_Cut ⟨s.toArray⟩ ⟨#[58,32]⟩ m w (by show s.length<_;omega) hm).mono fun e w' ⟨h1,n,h2⟩=>⟨h1,h2 ▸ below_drewN (Below.refl _ _) n⟩
theorem yn (s:List UInt8)(n:Int):Sz.fieldP s n=if (Lib.cut s Sz.mark).2.2&&(Sz.keyB (Lib.cut s Sz.mark).1&&Sz.valB (Lib.cut s Sz.mark).2.1) then some ⟨(Lib.cut s Sz.mark).1,(Lib.cut s Sz.mark).2.1,n⟩ else none:=by
 unfold Sz.fieldP Lib.cut
 by_cases h:0<=Lib.index s Sz.mark
 ·rw[if_pos h]
  show (if _/\_/\_ then _ else _)=if (true&&_)=true then _ else _
  rw[Bool.true_and]
  show _=if (Sz.keyB (s.take (Lib.index s Sz.mark).toNat)&&Sz.valB (s.drop ((Lib.index s Sz.mark).toNat+2)))=true then some (⟨s.take (Lib.index s Sz.mark).toNat,s.drop ((Lib.index s Sz.mark).toNat+2),n⟩:Sz.Fld) else none
  by_cases h1:Sz.keyB (s.take (Lib.index s Sz.mark).toNat)=true
  ·by_cases h2:Sz.valB (s.drop ((Lib.index s Sz.mark).toNat+2))=true
   ·rw[if_pos ⟨h,h1,h2⟩,if_pos (by rw[h1,h2];rfl)]
   ·rw[if_neg (fun hh=>h2 hh.2.2),if_neg (by rw[h1,Bool.true_and];exact h2)]
  ·rw[if_neg (fun hh=>h1 hh.2.1),if_neg (by rw[Bool.and_eq_true];exact fun hh=>h1 hh.1)]
 ·rw[if_neg (fun hh=>h hh.1),if_neg h];rfl
theorem ado (s:List UInt8):(Lib.cut s Sz.mark).1.length<=s.length/\(Lib.cut s Sz.mark).2.1.length<=s.length:=by
 unfold Lib.cut
 split
 ·show (s.take (Lib.index s Sz.mark).toNat).length<=s.length/\(s.drop ((Lib.index s Sz.mark).toNat+Sz.mark.length)).length<=s.length
  rw[List.length_take,List.length_drop];omega
 ·exact⟨Nat.le_refl _,Nat.zero_le _⟩
theorem kk (s:List UInt8)(n:Int)(w:World)(hw:MaxOk w)(hs:s.length<=1000000) :
  Calls Tryz.prog 116 #[.string ⟨s.toArray⟩,.int .i64 n] w (FieldRet w n (Sz.fieldP s n)):=by
 obtain⟨R,hR⟩:=ex (Sz.fieldP s n)
 rw[hR]
 rw[yn] at hR
 obtain⟨W1,ad⟩:=ex (w.alloc (.cells #[.string ⟨#[]⟩,.string ⟨#[]⟩,.int .i64 0] 108))
 have al:Hid (∀ u,Below W1.heap.size W1 u->u.cell? ⟨w.heap.size,0,none⟩=some (.string ⟨#[]⟩)/\u.cell? ⟨w.heap.size,1,none⟩=some (.string ⟨#[]⟩)/\u.cell? ⟨w.heap.size,2,none⟩=some (.int .i64 0)/\u.frozen? ⟨w.heap.size,0,none⟩=false/\u.frozen? ⟨w.heap.size,1,none⟩=false/\u.frozen? ⟨w.heap.size,2,none⟩=false):=fun u hb=>cP ad hb
 have ae:Hid (Below w.heap.size w W1):=ab ad
 have hcut:=tJ s W1 (aa hw ae.out) hs
 obtain⟨ag,ah⟩:=ado s
 obtain⟨c,hc⟩:=ex (Lib.cut s Sz.mark)
 obtain⟨k,v,f⟩:=c
 rw[hc] at hR hcut ag ah
 dsimp only at hR hcut ag ah
 have ac:=zh hcut
 have af:Hid (k.length<=1000000):=Nat.le_trans ag hs
 have ai:Hid (v.length<=1000000):=Nat.le_trans ah hs
 clear hcut hc ag ah hs hw
 cases f
 ·have HR:Hid (R=none):=hR.symm
  clear hR
  go_enter Tryz.func116,Tryz.ntmps116
  go_wp2_with fail
  clear ad
  refine ac.out.mono ?_
  rintro _ u ⟨rfl,hb⟩
  have HB:Hid (Below w.heap.size w u):=bt ae.out hb
  clear hb
  go_wp2_with fail
  refine (an _).mono ?_
  rintro _ z ⟨rfl,rfl⟩
  go_wp2_with fail
  exact⟨rfl,by show FieldRet w n R _ _;rw[HR.out];exact⟨HB.out,rfl⟩⟩
 ·cases hk:Sz.keyB k
  ·have HR:Hid (R=none):=by rw[hk] at hR;exact hR.symm
   have HK:=zh hk
   clear hR hk
   go_enter Tryz.func116,Tryz.ntmps116
   go_wp2_with fail
   clear ad
   refine ac.out.mono ?_
   rintro _ u ⟨rfl,hb⟩
   have HB:Hid (Below w.heap.size w u):=bt ae.out hb
   clear hb
   go_wp2_with fail
   refine (jq k _ af.out).mono ?_
   rintro _ z ⟨rfl,rfl⟩
   rw[HK.out]
   go_wp2_with fail
   refine (an _).mono ?_
   rintro _ z ⟨rfl,rfl⟩
   go_wp2_with fail
   exact⟨rfl,by show FieldRet w n R _ _;rw[HR.out];exact⟨HB.out,rfl⟩⟩
  ·have HK:=zh hk
   cases hv:Sz.valB v
   ·have HR:Hid (R=none):=by rw[hk,hv] at hR;exact hR.symm
    have HV:=zh hv
    clear hR hk hv
    go_enter Tryz.func116,Tryz.ntmps116
    go_wp2_with fail
    clear ad
    refine ac.out.mono ?_
    rintro _ u ⟨rfl,hb⟩
    have HB:Hid (Below w.heap.size w u):=bt ae.out hb
    clear hb
    go_wp2_with fail
    refine (jq k _ af.out).mono ?_
    rintro _ z ⟨rfl,rfl⟩
    rw[HK.out]
    go_wp2_with fail
    refine (ki v _ ai.out).mono ?_
    rintro _ z ⟨rfl,rfl⟩
    rw[HV.out]
    go_wp2_with fail
    refine (an _).mono ?_
    rintro _ z ⟨rfl,rfl⟩
    go_wp2_with fail
    exact⟨rfl,by show FieldRet w n R _ _;rw[HR.out];exact⟨HB.out,rfl⟩⟩
   ·have HR:Hid (R=some ⟨k,v,n⟩):=by rw[hk,hv] at hR;exact hR.symm
    have HV:=zh hv
    clear hR hk hv
    go_enter Tryz.func116,Tryz.ntmps116
    go_wp2_with fail
    clear ad
    refine ac.out.mono ?_
    rintro _ u ⟨rfl,hb⟩
    have HB:=zh hb
    clear hb
    go_wp2_with fail
    refine (jq k _ af.out).mono ?_
    rintro _ z ⟨rfl,rfl⟩
    rw[HK.out]
    go_wp2_with fail
    refine (ki v _ ai.out).mono ?_
    rintro _ z ⟨rfl,rfl⟩
    rw[HV.out]
    go_wp2_with fail
    refine (ax _).mono ?_
    rintro _ z ⟨rfl,rfl⟩
    go_wp2_with fail
    refine (me k v n _ (Nat.le_trans af.out (by decide)) (Nat.le_trans ai.out (by decide))).mono ?_
    rintro _ u3 ⟨rfl,ak⟩
    have aj:Hid (Below W1.heap.size W1 u3):=bt HB.out ak
    clear ak
    obtain⟨b0,b1,b2,f0,f1,f2⟩:=al.out u3 aj.out
    have am:Hid (Below w.heap.size w (((u3.setCell ⟨w.heap.size,0,none⟩ (.string ⟨k.toArray⟩)).setCell ⟨w.heap.size,1,none⟩ (.string ⟨v.toArray⟩)).setCell ⟨w.heap.size,2,none⟩ (.int .i64 n))) :=
     (((bt ae.out aj.out).setCell (Nat.le_refl _) _).setCell (Nat.le_refl _) _).setCell (Nat.le_refl _) _
    have g0:(((u3.setCell ⟨w.heap.size,0,none⟩ (.string ⟨k.toArray⟩)).setCell ⟨w.heap.size,1,none⟩ (.string ⟨v.toArray⟩)).setCell ⟨w.heap.size,2,none⟩ (.int .i64 n)).cell? ⟨w.heap.size,0,none⟩=some (.string ⟨k.toArray⟩):=by simp[go_sem,b0]
    have g1:(((u3.setCell ⟨w.heap.size,0,none⟩ (.string ⟨k.toArray⟩)).setCell ⟨w.heap.size,1,none⟩ (.string ⟨v.toArray⟩)).setCell ⟨w.heap.size,2,none⟩ (.int .i64 n)).cell? ⟨w.heap.size,1,none⟩=some (.string ⟨v.toArray⟩):=by simp[go_sem,b1]
    have g2:(((u3.setCell ⟨w.heap.size,0,none⟩ (.string ⟨k.toArray⟩)).setCell ⟨w.heap.size,1,none⟩ (.string ⟨v.toArray⟩)).setCell ⟨w.heap.size,2,none⟩ (.int .i64 n)).cell? ⟨w.heap.size,2,none⟩=some (.int .i64 n):=by simp[go_sem,b2]
    go_wp2_with fail
    generalize ((u3.setCell ⟨w.heap.size,0,none⟩ (.string ⟨k.toArray⟩)).setCell ⟨w.heap.size,1,none⟩ (.string ⟨v.toArray⟩)).setCell ⟨w.heap.size,2,none⟩ (.int .i64 n)=V at *
    refine bodyPost_ret (v:=.agg #[.string ⟨k.toArray⟩,.string ⟨v.toArray⟩,.int .i64 n]) ?_ rfl ?_
    ·simp[results,Tryz.results116,go_sem,g0,g1,g2]
    ·rw[HR.out];exact⟨am.out,rfl⟩
end
namespace Sz
open Go.RowKit
attribute [local go_sem ↓] Go.wp_at_zero Go.wp_at_succ
theorem kF (w:World)(T:TypeId)(l:List (List UInt8))(cs:Array Value)(h:cs.toList=Rg.flat encT l):Rg.Row encT 1 (w.alloc (.cells cs T)) (some ⟨w.heap.size,0,none⟩) l:=fun _=>by
 refine⟨_,rfl,by simp,fun i hi j v hv=>?_⟩
 have hj:j<1:=(List.getElem?_eq_some_iff.1 hv).1
 rw[<-Rg.jK]
 exact Rg.ay w T l cs h _ _ ((Rg.flat_get fitsT l i hi j hj).trans hv)
theorem cU {w:World}{A:Option Addr}{l:List (List UInt8)}(h:Rg.Row encT 1 w A l)(k:Nat)(hk:k<l.length):∃ ad,A=some ad/\ad.block<w.heap.size/\w.cell? (ad.add k)=some (.string ⟨l[k].toArray⟩):=by
 obtain⟨ad,x,e,hx,aa,hc⟩:=Rg.bO h k hk
 refine⟨ad,e,aa,?_⟩
 have:=hc 0 _ rfl
 rw[if_pos rfl,Nat.mul_one] at this
 rw[hx]
 exact this
theorem flatT (l:List (List UInt8)):Rg.flat encT l=l.map fun t=>Value.string ⟨t.toArray⟩:=by
 induction l with
 | nil=>rfl
 | cons a l ih=>show encT a++Rg.flat encT l=_;rw[ih];rfl
theorem cm (sep:List UInt8):∀ (k:Nat) (s:List UInt8),∀ p∈Lib.splitK sep 0 k s,p.length<=s.length
 | 0,s,p,hp=>by
  unfold Lib.splitK at hp
  rw[List.mem_singleton.1 hp];exact Nat.le_refl _
 | k+1,s,p,hp=>by
  unfold Lib.splitK at hp
  split at hp
  ·rw[List.mem_singleton.1 hp];exact Nat.le_refl _
  ·rcases List.mem_cons.1 hp with e | hp
   ·rw[e];simp;omega
   ·have:=cm sep k _ p hp
    simp at this;omega
theorem fN (s sep:List UInt8)(w:World)(hm:MaxOk w)(hl:s.length<=900000)(h1:1<=sep.length) :
  Calls Tryz.prog 149 #[.string ⟨s.toArray⟩,.string ⟨sep.toArray⟩] w fun e w'=>∃ A n,e=.returned (.slice A n n)/\(Lib.split s sep).length=n/\n<=s.length+1/\Rg.Row encT 1 w' A (Lib.split s sep)/\Below w.heap.size w w':=by
 obtain⟨m,hm⟩:=hm
 refine (Tryz.strings_Split ⟨s.toArray⟩ ⟨sep.toArray⟩ m w (by show s.length<_;omega) hm h1).mono ?_
 rintro e w' ⟨rfl,rfl⟩
 have hd:(Lib.splitB ⟨sep.toArray⟩ 0 (Lib.countB ⟨s.toArray⟩ ⟨sep.toArray⟩) ⟨s.toArray⟩).map (·.data.toList)=Lib.split s sep:=Lib.splitB_data _ _ _ _
 have hn:=Lib.splitB_all ⟨sep.toArray⟩ h1 0 (Lib.countB ⟨s.toArray⟩ ⟨sep.toArray⟩) ⟨s.toArray⟩ rfl
 have hc:=Lib.countB_le ⟨sep.toArray⟩ h1 s.length ⟨s.toArray⟩ (Nat.le_refl _)
 refine⟨_,_,rfl,by rw[<-hd,List.length_map,hn],Nat.succ_le_succ hc,kF w _ _ _ ?_,(Below.refl _ _).alloc (Nat.le_refl _) _⟩
 rw[flatT,<-hd,List.map_map]
 rfl
theorem yo {w:World}{A:Option Addr}{l:List (List UInt8)}(h:Rg.Row encT 1 w A l):Rg.Row encT 1 w A l.dropLast:=fun h0=>by
 rw[List.length_dropLast] at h0
 obtain⟨a,e,hl,hc⟩:=h (by omega)
 refine⟨a,e,hl,fun i hi=>?_⟩
 rw[List.getElem_dropLast]
 exact hc i (by rw[List.length_dropLast] at hi;omega)
theorem uN {s p:List UInt8}(h:p∈linesL s):p.length<=s.length:=cm [10] _ _ p (List.dropLast_subset _ h)
theorem kl (s:List UInt8)(w:World)(hw:MaxOk w)(hs:s.length<=100000) :
  Calls Tryz.prog 113 #[.string ⟨s.toArray⟩] w fun e w'=>∃ A n c,e=.returned (.slice A n c)/\(linesL s).length=n/\n<=s.length/\Rg.Row encT 1 w' A (linesL s)/\Below w.heap.size w w':=by
 have hc:=fN s [10] w hw (by omega) (by decide)
 have ac:=lV s
 have HL:Hid ((linesL s).length=(Lib.split s [10]).length-1):=by show _=_;unfold linesL;rw[List.length_dropLast]
 have HF:Hid (∀ (u:World) (A:Option Addr),Rg.Row encT 1 u A (Lib.split s [10])->Rg.Row encT 1 u A (linesL s)):=fun u A h=>yo h
 have HC:=zh hc
 have ad:Hid (1<=(Lib.split s [10]).length):=List.length_pos_iff.2 ac
 clear hc ac
 go_enter Tryz.func113,Tryz.ntmps113
 go_wp2_with fail
 refine HC.out.mono ?_
 rintro _ u ⟨A,n,rfl,hn,ae,aa,hb⟩
 have h1:1<=n:=by rw[<-hn];exact ad.out
 have HN:=zh hn
 have ab:=zh (HF.out _ _ aa)
 have HB:=zh hb
 clear hn aa hb
 have i0:(0:Int)<=(n:Int)-1:=by omega
 have i1:(n:Int)-1<=(n:Int):=by omega
 have i2:((n:Int)-1).toNat=n-1:=by omega
 go_wp2_with fail
 go_ret
 exact⟨A,_,_,rfl,by rw[HL.out,HN.out],by omega,ab.out,HB.out⟩
end Sz
namespace Sz
open Go.RowKit Go.Maps
attribute [local go_sem ↓] Go.wp_at_zero Go.wp_at_succ
def encF (f:Fld):List Value:=[.string ⟨f.key.toArray⟩,.string ⟨f.val.toArray⟩,.int .i64 f.line]
theorem fitsF:Rg.Fits encF 3:=⟨fun _=>rfl,fun x u hu=>by
 simp only[encF,List.mem_cons,List.not_mem_nil,or_false] at hu
 rcases hu with rfl | rfl | rfl <;> rfl⟩
theorem sliceF:Rg.SliceT Tryz.prog encF 3 103 108:=⟨fitsF,by decide,by kernel_rfl,Rg.bL (z:=.agg #[.string ByteArray.empty,.string ByteArray.empty,.int .i64 0]) (b:=40) (by kernel_rfl) (by rfl) (by decide)⟩
theorem sliceE:Rg.SliceT Tryz.prog encO 1 77 103:=⟨fitsO,by decide,by kernel_rfl,Rg.bL (z:=.slice none 0 0) (b:=24) (by kernel_rfl) (by rfl) (by decide)⟩
theorem keyLaw:Keyed Tryz.prog 9:=string_keyed Tryz.underlying9
theorem zeroU (w:World):(zeroValue 199).run Tryz.prog w=.ok (.agg #[]) w:=by kernel_rfl
def KSet (w:World) (b:Nat) (ks:List (List UInt8)):Prop:=∃ (n:Nat) (D:DataW Unit),w.ownsMap Tryz.prog 9 unitElem b n D/\n<=ks.length/\∀ k:List UInt8,k.length<=1000000->Maps.has D (.string k)=ks.contains k
theorem yp (w:World):KSet (w.alloc (.map #[] 0)) w.heap.size []:=⟨0,_,World.ownsMap_made w _ _ _,Nat.le_refl _,fun _k _=>rfl⟩
theorem fQ {k:List UInt8}(hk:k.length<=140737488355328):keyOf Tryz.prog 9 (.string ⟨k.toArray⟩)=some (.string k):=by
 have:=WideMaps.keyOf_string_mk (P:=Tryz.prog) (k:=9) Tryz.underlying9 (s:=⟨k.toArray⟩) (by show k.toArray.size<=_;rw[List.size_toArray];unfold maxLen;omega)
 exact this
theorem fR {w:World}{b:Nat}{ks:List (List UInt8)}(h:KSet w b ks){k:List UInt8}(hk:k.length<=1000000) :
  (Instr.lookup 171 (.map (some b)) (.string ⟨k.toArray⟩) true).run Tryz.prog w=.ok (.tuple #[.agg #[],.bool (ks.contains k)]) w:=by
 obtain⟨n,D,aa,_,hh⟩:=h
 obtain⟨v,ps,ab,hv⟩:=aa.look_ok keyLaw Tryz.underlying171 (zeroU w) unitElem_mk (fQ (Nat.le_trans hk (by decide)))
 obtain⟨rfl,_⟩:=unitElem_inv hv
 rw[ab,hh k hk]
theorem rm {w:World}{b:Nat}{ks:List (List UInt8)}(h:KSet w b ks){k:List UInt8}(hk:k.length<=1000000)(hl:ks.length<=1000000) :
  ∃ w',(Instr.mapUpdate 171 (.map (some b)) (.string ⟨k.toArray⟩) (.agg #[])).run Tryz.prog w=.ok () w'/\KSet w' b (ks++[k])/\w.mapTurned w' b:=by
 obtain⟨n,D,aa,hn,hh⟩:=h
 obtain⟨w',ac,ab,ht⟩:=aa.store keyLaw Tryz.underlying171 (by unfold maxLen;omega) (fQ (Nat.le_trans hk (by decide))) (val:=.agg #[]) unitElem_mk
 refine⟨w',ac,⟨n+1,_,ab,by rw[List.length_append];simp;omega,fun x hx=>?_⟩,ht⟩
 by_cases e:x=k
 ·subst e
  rw[Maps.has_put_same aa.isMap (by trivial)]
  simp
 ·rw[Maps.has_put_other (by intro h;exact e (Lit.string.inj h)),hh x hx]
  simp[e]
theorem bG {w w':World}{b B:Nat}{ks:List (List UInt8)}(h:KSet w b ks)(hb:Below B w w')(hlt:b<B):KSet w' b ks:=by
 obtain⟨n,D,⟨es,clock,hh,r⟩,h2⟩:=h
 exact⟨n,D,⟨es,clock,(hb.block b hlt).trans hh,r⟩,h2⟩
theorem fS {w w':World}{b:Nat}{ks:List (List UInt8)}(h:KSet w b ks)(hb:w'.heap[b]?=w.heap[b]?):KSet w' b ks:=by
 obtain⟨n,D,⟨es,clock,hh,r⟩,h2⟩:=h
 exact⟨n,D,⟨es,clock,hb.trans hh,r⟩,h2⟩
end Sz
end Go.Proofs.YtkoaljpfoekgkaaGreatDoor
