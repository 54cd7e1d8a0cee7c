/- Part 23 of what the laws lean on. -/
import Derived.Test.YtkaeamjnphaadaaGreatDoorL22
import Derived.Lib.AppendIntMem
import Derived.Lib.ItoaLen
set_option maxHeartbeats 4000000
namespace Go.Proofs.YtkaeamjnphaadaaGreatDoor
section
open Go.RowKit
def Fin (r:Nat):Prop:=0<r/\r<9218868437227405312
theorem bR {r:Nat}(h:Fin r)(n:Bool):Wm.word n r<Wm.W/\Wm.nan (Wm.word n r)=false/\Wm.sk (Wm.word n r)≠0/\Wm.sk (Wm.word n r)<9218868437227405312/\-9218868437227405312<Wm.sk (Wm.word n r):=by
 obtain⟨h1,h2⟩:=h
 obtain⟨a1,a2,a3⟩:=Wm.bu n (r:=r) (by omega)
 refine⟨a3,?_,?_⟩
 ·unfold Wm.nan;rw[a1];exact decide_eq_false (by omega)
 ·unfold Wm.sk;rw[a1,a2];cases n <;> simp <;> omega
theorem oI (b:Nat)(hb:b<Wm.W)(w:World) :
  Calls Tryz.prog 203 #[.float .f64 b] w fun e w'=>e=.returned (.bool (Wm.nan b))/\w=w':=by
 have H:=Wm.ib b hb
 go_enter Tryz.func203,Tryz.ntmps203
 go_wp2_with fail
 go_ret
 exact⟨rfl,rfl⟩
theorem fin_pos {r:Nat}(h:Fin r):r<Wm.W/\Wm.nan r=false/\Wm.sk r=r:=by
 obtain⟨h1,h2⟩:=h
 obtain⟨a1,a2,a3⟩:=Wm.bu false (r:=r) (by omega)
 refine⟨a3,?_,?_⟩
 ·unfold Wm.nan;rw[show Wm.rung r=r from a1];exact decide_eq_false (by omega)
 ·unfold Wm.sk;rw[show Wm.neg r=false from a2,show Wm.rung r=r from a1];rfl
theorem nn (n:Bool){r:Nat}(h:Fin r)(w:World) :
  Calls Tryz.prog 239 #[.float .f64 (Wm.word n r)] w fun e w'=>e=.returned (.float .f64 r)/\w=w':=by
 have h2:=h.2
 obtain⟨a1,a2,a3⟩:=Wm.bu n (r:=r) (by omega)
 have:=ad5 (Wm.word n r) a3 w
 rwa [a1] at this
theorem tx (n:Bool)(r:Nat)(h:Fin r)(w:World) :
  Calls Tryz.prog 202 #[.float .f64 (Wm.word n r),.int .i64 0] w fun e w'=>e=.returned (.bool false)/\w=w':=by
 obtain⟨g1,g2,g3⟩:=fin_pos h
 have h2:=h.2
 have o1:=Wm.oC r 9218868437227405311 g1 (by decide)
 rw[g2,g3,show Wm.sk 9218868437227405311=9218868437227405311 from rfl,decide_eq_false (by omega)] at o1
 simp only[Bool.and_false] at o1
 clear g1 g2 g3 h2
 go_enter Tryz.func202,Tryz.ntmps202
 go_wp2_with fail
 refine (nn n h _).mono ?_
 rintro e w' ⟨rfl,rfl⟩
 go_wp2_with fail
 go_ret
 exact⟨rfl,rfl⟩
theorem pN (x y r:Nat)(h:Ieee.double.mul x y=some r)(W:World):(binOp .mul 29 (.float .f64 x) (.float .f64 y)).run Tryz.prog W=.ok (.float .f64 r) W :=
 run_float_arith W .mul _ .f64 x y r h
def nrmX (r:Nat):Int:=if r<4503599627370496 then -52 else 0
theorem ku (n:Bool)(r:Nat)(h:Fin r)(w:World) :
  Calls Tryz.prog 204 #[.float .f64 (Wm.word n r)] w fun e w'=>e=.returned (.tuple #[.float .f64 (Wm.word n (Wm.nrm r)),.int .i64 (nrmX r)])/\w=w':=by
 obtain⟨g1,g2,g3⟩:=fin_pos h
 have o1:=Wm.oB r 4503599627370496 g1 (by decide)
 rw[g2,g3,show Wm.nan 4503599627370496=false from rfl,show Wm.sk 4503599627370496=4503599627370496 from rfl] at o1
 clear g1 g2 g3
 by_cases hr:r<4503599627370496
 ·rw[decide_eq_true (by omega)] at o1
  simp only[Bool.not_false,Bool.and_true] at o1
  have hm:=pN _ _ _ (Wm.adW n h.1 hr)
  have HX:Hid (nrmX r = -52):=by show _=_;rw[nrmX,if_pos hr]
  clear hr
  go_enter Tryz.func204,Tryz.ntmps204
  go_wp2_with fail
  refine (nn n h _).mono ?_
  rintro e w' ⟨rfl,rfl⟩
  go_wp2_with fail
  go_ret2
  exact⟨by rw[HX.out];rfl,rfl⟩
 ·rw[decide_eq_false (by omega)] at o1
  simp only[Bool.not_false,Bool.and_false] at o1
  have HX:Hid (nrmX r=0/\Wm.nrm r=r):=by show _/\_;rw[nrmX,if_neg hr,Wm.nrm,if_neg hr];exact⟨rfl,rfl⟩
  clear hr
  go_enter Tryz.func204,Tryz.ntmps204
  go_wp2_with fail
  refine (nn n h _).mono ?_
  rintro e w' ⟨rfl,rfl⟩
  go_wp2_with fail
  go_ret2
  exact⟨by rw[HX.out.1,HX.out.2];rfl,rfl⟩
theorem wR (n:Bool){r:Nat}(h:Fin r):(FloatKind.f64.format.order (Wm.word n r) 0==some .eq)=false:=by
 obtain⟨g1,g2,g3,_⟩:=bR h n
 rw[Wm.aeX _ 0 g1 (by decide),g2,kg,me,decide_eq_false g3];rfl
theorem acx (n:Bool)(r:Nat)(h:Fin r)(w:World) :
  Calls Tryz.prog 169 #[.float .f64 (Wm.word n r)] w fun e w'=>e=.returned (.tuple #[.float .f64 (Wm.word n (4602678819172646912+Wm.fOf r)),.int .i64 (Wm.xOf r)])/\w=w':=by
 have o1:=wR n h
 obtain⟨n1,n2⟩:=Wm.aaj h.1 h.2
 have ab:=dL
 have aa:=ic
 have e1:=Wm.expB n (Wm.nrm r) (by omega)
 have e2:=Wm.clearB n (Wm.nrm r) (by omega)
 have e3:bits .or .u64 (Wm.word n (Wm.nrm r % 4503599627370496):Nat) 4602678819172646912=(Wm.word n (4602678819172646912+Wm.nrm r % 4503599627370496):Nat):=Wm.setB n 1022 (Wm.nrm r % 4503599627370496) (by decide) (by omega)
 have hq:Wm.nrm r / 4503599627370496<2048:=by omega
 have HX:Hid (Wm.xOf r=nrmX r+((Wm.nrm r / 4503599627370496:Nat)-1023+1)):=by
  show _=_
  unfold Wm.xOf nrmX
  split <;> omega
 have HF:Hid (Wm.fOf r=Wm.nrm r % 4503599627370496):=rfl
 have ac:nrmX r = -52\/nrmX r=0:=by unfold nrmX;split <;> simp
 clear n1 n2
 generalize Wm.nrm r / 4503599627370496=q at *
 go_enter Tryz.func169,Tryz.ntmps169
 go_wp2_with fail
 refine (tx n r h _).mono ?_
 rintro e w' ⟨rfl,rfl⟩
 go_wp2_with fail
 refine (oI _ (bR h n).1 _).mono ?_
 rintro e w' ⟨rfl,rfl⟩
 rw[(bR h n).2.1]
 go_wp2_with fail
 refine (ku n r h _).mono ?_
 rintro e w' ⟨rfl,rfl⟩
 go_wp2_with fail
 go_ret2
 exact⟨by rw[HX.out,HF.out];rfl,rfl⟩
theorem aar (n:Bool)(r:Nat)(h:Fin r)(w:World) :
  Calls Tryz.prog 132 #[.float .f64 (Wm.word n r)] w fun e w'=>e=.returned (.tuple #[.float .f64 (Wm.word n (4602678819172646912+Wm.fOf r)),.int .i64 (Wm.xOf r)])/\w=w':=by
 go_enter Tryz.func132,Tryz.ntmps132
 go_wp2_with fail
 refine (acx n r h _).mono ?_
 rintro e w' ⟨rfl,rfl⟩
 go_wp2_with fail
 go_ret2
 exact⟨rfl,rfl⟩
theorem lH (b c:Nat)(hb:b<Wm.W)(hc:c<Wm.W)(w:World) :
  Calls Tryz.prog 205 #[.float .f64 b,.float .f64 c] w fun e w'=>e=.returned (.float .f64 (Wm.word (Wm.neg c) (Wm.rung b)))/\w=w':=by
 have ab:=dL
 have aa:=ic
 have e1:=Wm.absB b hb
 have e2:=Wm.sgnB c hc
 have e3:=Wm.signB (Wm.rung b) (Wm.jo b)
 have e4:bits .or .u64 (Wm.rung b:Int) 0=(Wm.rung b:Int):=by
  have h:=u64_or_nat (Wm.rung b) 0 (by have:=Wm.jo b;omega) (by decide)
  rw[Nat.or_zero] at h
  exact h
 have HW:Hid (∀ g r,Wm.word g r=if g then 9223372036854775808+r else r):=fun _ _=>rfl
 cases hg:Wm.neg c
 all_goals
  rw[hg] at e2
  go_enter Tryz.func205,Tryz.ntmps205
  go_wp2_with fail
  go_ret
  exact⟨by rw[HW.out];rfl,rfl⟩
theorem acy (n:Bool)(r:Nat)(e:Int)(h:Fin r)(hr:4503599627370496<=r)(he:-100000<=e/\e<=100000)(w:World) :
  Calls Tryz.prog 171 #[.float .f64 (Wm.word n r),.int .i64 e] w fun e' w'=>e'=.returned (.float .f64 (Wm.ldx n r e))/\w=w':=by
 have o1:=wR n h
 have h2:=h.2
 have ad:=dL
 have ac:=ic
 have e1:=Wm.expI n r (by omega)
 have e2:=Wm.clearB n r (by omega)
 have hq:r / 4503599627370496<2048:=by omega
 have aa:Wm.nrm r=r/\nrmX r=0:=by unfold Wm.nrm nrmX;rw[if_neg (by omega),if_neg (by omega)];exact⟨rfl,rfl⟩
 have HL:Hid (Wm.ldx n r e=if Wm.ldE r e < -1075 then Wm.word n 0 else if 1023<Wm.ldE r e then Wm.word n 9218868437227405312
  else if Wm.ldE r e < -1022 then Wm.deno n ((Wm.ldE r e+1076).toNat*4503599627370496+r % 4503599627370496)
  else Wm.word n ((Wm.ldE r e+1023).toNat*4503599627370496+r % 4503599627370496)):=rfl
 have HE:Hid (Wm.ldE r e=(r / 4503599627370496:Nat)-1023+e):=rfl
 have ab:r % 4503599627370496<4503599627370496:=by omega
 have ae:0<=(Wm.word n r:Int) / 4503599627370496:=by omega
 have af:(Wm.word n r:Int) / 4503599627370496<=4095:=by have:=(bR h n).1;unfold Wm.W at this;omega
 go_enter Tryz.func171,Tryz.ntmps171
 go_wp2_with fail
 refine (tx n r h _).mono ?_
 rintro e' w' ⟨rfl,rfl⟩
 go_wp2_with fail
 refine (oI _ (bR h n).1 _).mono ?_
 rintro e' w' ⟨rfl,rfl⟩
 rw[(bR h n).2.1]
 go_wp2_with fail
 refine (ku n r h _).mono ?_
 rintro e' w' ⟨rfl,rfl⟩
 rw[aa.1,aa.2]
 clear aa hr h2
 generalize r / 4503599627370496=q at *
 by_cases c1:(q:Int)-1023+e < -1075
 ·have HV:Hid (Wm.ldx n r e=Wm.word n 0):=by show _=_;rw[HL.out,if_pos (by rw[HE.out];exact c1)]
  clear HL HE
  go_wp2_with fail
  refine (lH 0 (Wm.word n r) (by decide) (bR h n).1 _).mono ?_
  rintro e' w' ⟨rfl,rfl⟩
  rw[(Wm.bu n (r:=r) (by have:=h.2;omega)).2.1]
  go_wp2_with fail
  go_ret
  exact⟨by rw[HV.out];rfl,rfl⟩
 ·by_cases c2:1023<(q:Int)-1023+e
  ·have HV:Hid (Wm.ldx n r e=Wm.word n 9218868437227405312):=by show _=_;rw[HL.out,if_neg (by rw[HE.out];exact c1),if_pos (by rw[HE.out];exact c2)]
   clear HL HE
   have o2:=wP _ (bR h n).1
   rw[(bR h n).2.1] at o2
   have hs:decide (Wm.sk (Wm.word n r)<0)=n:=by
    obtain⟨a1,a2,a3⟩:=Wm.bu n (r:=r) (by have:=h.2;omega)
    have:=h.1
    unfold Wm.sk;rw[a1,a2];cases n <;> simp <;> omega
   rw[hs] at o2
   clear hs
   cases n
   all_goals
    simp only[Bool.not_false,Bool.true_and] at o2
    go_wp2_with fail
    refine (pK _ _).mono ?_
    rintro e' w' ⟨rfl,rfl⟩
    go_wp2_with fail
    go_ret
    exact⟨by rw[HV.out];rfl,rfl⟩
  ·by_cases c3:(q:Int)-1023+e < -1022
   ·have HV:Hid (Wm.ldx n r e=Wm.deno n ((Wm.ldE r e+1076).toNat*4503599627370496+r % 4503599627370496)):=by show _=_;rw[HL.out,if_neg (by rw[HE.out];exact c1),if_neg (by rw[HE.out];exact c2),if_pos (by rw[HE.out];exact c3)]
    clear HL
    obtain⟨p,hp⟩:∃ p:Nat,(q:Int)-1023+e+1076=p:=⟨((q:Int)-1023+e+1076).toNat,by omega⟩
    have HP:Hid ((Wm.ldE r e+1076).toNat=p):=by show _=_;rw[HE.out];omega
    rw[HP.out] at HV
    have e3:bits .or .u64 (Wm.word n (r % 4503599627370496):Nat) ((e+((q:Int)-1023)+53+1023)*4503599627370496)=(Wm.word n (p*4503599627370496+r % 4503599627370496):Nat):=by
     rw[show (e+((q:Int)-1023)+53+1023)*4503599627370496=((p*4503599627370496:Nat):Int) from by omega]
     exact Wm.setB n p _ (by omega) ab
    have hm:=pN _ _ _ (Wm.acr n (r:=p*4503599627370496+r % 4503599627370496) (by omega)).1
    clear HP HE hp
    go_wp2_with fail
    go_ret
    exact⟨by rw[HV.out];rfl,rfl⟩
   ·have HV:Hid (Wm.ldx n r e=Wm.word n ((Wm.ldE r e+1023).toNat*4503599627370496+r % 4503599627370496)):=by show _=_;rw[HL.out,if_neg (by rw[HE.out];exact c1),if_neg (by rw[HE.out];exact c2),if_neg (by rw[HE.out];exact c3)]
    clear HL
    obtain⟨p,hp⟩:∃ p:Nat,(q:Int)-1023+e+1023=p:=⟨((q:Int)-1023+e+1023).toNat,by omega⟩
    have HP:Hid ((Wm.ldE r e+1023).toNat=p):=by show _=_;rw[HE.out];omega
    rw[HP.out] at HV
    have e3:bits .or .u64 (Wm.word n (r % 4503599627370496):Nat) ((e+((q:Int)-1023)+1023)*4503599627370496)=(Wm.word n (p*4503599627370496+r % 4503599627370496):Nat):=by
     rw[show (e+((q:Int)-1023)+1023)*4503599627370496=((p*4503599627370496:Nat):Int) from by omega]
     exact Wm.setB n p _ (by omega) ab
    have hm:=pN _ _ _ (Wm.mul_one n (r:=p*4503599627370496+r % 4503599627370496) (by omega) (by omega))
    clear HP HE hp
    go_wp2_with fail
    go_ret
    exact⟨by rw[HV.out];rfl,rfl⟩
theorem qC (n:Bool)(r:Nat)(e:Int)(h:Fin r)(hr:4503599627370496<=r)(he:-100000<=e/\e<=100000)(w:World) :
  Calls Tryz.prog 133 #[.float .f64 (Wm.word n r),.int .i64 e] w fun e' w'=>e'=.returned (.float .f64 (Wm.ldx n r e))/\w=w':=by
 go_enter Tryz.func133,Tryz.ntmps133
 go_wp2_with fail
 refine (acy n r e h hr he _).mono ?_
 rintro e' w' ⟨rfl,rfl⟩
 go_wp2_with fail
 go_ret
 exact⟨rfl,rfl⟩
end
namespace Wm
open Go.Lib
theorem tA (l:List UInt8)(c:UInt8):Vm.num (l++[c])=10*Vm.num l+(c.toNat-48):=by
 unfold Vm.num;rw[List.foldl_append];rfl
theorem jt (c:UInt8):Vm.dig c=true↔48<=c.toNat/\c.toNat<=57:=by unfold Vm.dig;simp
def plain (l:List UInt8):Prop:=l≠[]/\l.all Vm.dig=true/\(l.head? = some 48->l=[48])
theorem tB (l:List UInt8)(h:l≠[]):Vm.num l % 2=((l.getLast h).toNat-48) % 2:=by
 obtain⟨m,c,rfl⟩:∃ m c,l=m++[c]:=⟨l.dropLast,l.getLast h,(List.dropLast_concat_getLast h).symm⟩
 rw[tA,List.getLast_concat];omega
theorem ju:∀ (l:List UInt8) (acc:Nat),l.all Vm.dig=true->acc<=18446744073709551615 ->
  parseUintM 18446744073709551615 acc l=if l.foldl (fun n c=>10*n+(c.toNat-48)) acc<=18446744073709551615 then .ok (l.foldl (fun n c=>10*n+(c.toNat-48)) acc) else .range
 | [],acc,_,h=>by simp[parseUintM,h]
 | c :: l,acc,h,ha=>by
  simp only[List.all_cons,Bool.and_eq_true] at h
  have hc:=(jt c).1 h.1
  have mono:∀ (l:List UInt8) (a:Nat),a<=l.foldl (fun n c=>10*n+(c.toNat-48)) a:=fun l=>by
   induction l with
   | nil=>intro a;exact Nat.le_refl _
   | cons c l ih=>intro a;rw[List.foldl_cons];exact Nat.le_trans (by omega) (ih _)
  have hm:=mono l (10*acc+(c.toNat-48))
  rw[List.foldl_cons]
  unfold parseUintM
  rw[if_pos hc,show acc*10+(c.toNat-48)=10*acc+(c.toNat-48) from by omega]
  by_cases c1:10*acc+(c.toNat-48)<=18446744073709551615
  ·rw[if_neg (by omega),if_neg (by omega)]
   exact ju l _ h.2 c1
  ·rw[if_neg (show ¬ l.foldl (fun n c=>10*n+(c.toNat-48)) (10*acc+(c.toNat-48))<=18446744073709551615 by omega)]
   split
   ·rfl
   ·rw[if_pos (by omega)]
def sgnd (l:List UInt8):Bool:=l.head? == some 45
def mgn (l:List UInt8):List UInt8:=if sgnd l then l.drop 1 else l
def decOk (l:List UInt8):Prop:=plain (mgn l)/\(mgn l=[48]->sgnd l=false)
def nmb (l:List UInt8):Int :=
 if sgnd l then (if Vm.num (mgn l)<=9223372036854775808 then -(Vm.num (mgn l):Int) else -9223372036854775808)
 else (if Vm.num (mgn l)<9223372036854775808 then (Vm.num (mgn l):Int) else 9223372036854775807)
theorem aas (l:List UInt8)(h:plain (mgn l)):parseIntB 64 l=.ok (nmb l)\/(parseIntB 64 l=.range/\intSat 64 l=nmb l):=by
 obtain⟨h1,h2,_⟩:=h
 have hu:=ju (mgn l) 0 h2 (by omega)
 have hB:parseUintB 64 (mgn l)=if Vm.num (mgn l)<=18446744073709551615 then .ok (Vm.num (mgn l)) else .range:=by
  unfold parseUintB;rw[if_neg h1];exact hu
 clear hu
 unfold nmb
 cases l with
 | nil=>exact absurd rfl h1
 | cons c r =>
  have aa:(45:UInt8).toNat=45:=rfl
  by_cases hc:c=45
  ·have hs:sgnd (c :: r)=true:=by unfold sgnd;rw[hc];rfl
   have hm:mgn (c :: r)=r:=by unfold mgn;rw[hs];rfl
   rw[hm] at hB ⊢
   rw[hs]
   unfold parseIntB intSat
   subst hc
   simp only[aa,or_true,if_true,hB]
   by_cases g1:Vm.num r<=18446744073709551615
   ·simp only[if_pos g1]
    by_cases g2:Vm.num r<=9223372036854775808
    ·left
     rw[if_neg (by simp),if_neg (by simp;omega)]
     simp[g2]
    ·right
     rw[if_neg (by simp),if_pos (by simp;omega)]
     simp[g2]
   ·right
    simp only[if_neg g1]
    simp;omega
  ·have hs:sgnd (c :: r)=false:=by unfold sgnd;simp[hc]
   have hm:mgn (c :: r)=c :: r:=by unfold mgn;rw[hs];rfl
   rw[hm] at hB h2 ⊢
   rw[hs]
   have hd:Vm.dig c=true:=by simp only[List.all_cons,Bool.and_eq_true] at h2;exact h2.1
   rw[jt] at hd
   unfold parseIntB intSat
   simp only[List.head?_cons,Option.map_some,Option.some.injEq]
   rw[if_neg (show ¬ (c.toNat=43\/c.toNat=45) by omega),hB,if_neg (show ¬ c.toNat=45 by omega)]
   by_cases g1:Vm.num (c :: r)<=18446744073709551615
   ·simp only[if_pos g1]
    by_cases g2:Vm.num (c :: r)<9223372036854775808
    ·left
     rw[if_neg (by simp;omega),if_neg (by simp;omega),if_neg (show ¬ c.toNat=45 by omega)]
     simp[g2]
    ·right
     rw[if_pos (by simp;omega)]
     simp[g2]
   ·right
    simp only[if_neg g1]
    simp;omega
theorem ae0 (l:List UInt8):Lib.trimPrefix l [45]=mgn l:=by
 unfold Lib.trimPrefix mgn sgnd Lib.hasPrefix
 cases l with
 | nil=>rfl
 | cons c t =>
  by_cases hc:c=45
  ·subst hc;rfl
  ·have h1:(List.isPrefixOf [45] (c :: t))=false:=by simp[List.isPrefixOf];exact fun h=>hc h.symm
   rw[h1];simp[hc]
theorem tC (l:List UInt8):(mgn l).length<=l.length:=by
 unfold mgn;split
 ·rw[List.length_drop];omega
 ·exact Nat.le_refl _
def decB (l:List UInt8):Bool:=if (mgn l).isEmpty||(mgn l).head? == some 48 then l==[48] else (Vm.undigs (mgn l)).isEmpty
theorem oJ (l:List UInt8):(Vm.undigs l).isEmpty=true↔l.all Vm.dig=true:=by
 unfold Vm.undigs
 induction l with
 | nil=>simp
 | cons c t ih =>
  rw[List.dropWhile_cons,List.all_cons]
  cases hc:Vm.dig c
  ·simp
  ·simp only[if_true,Bool.true_and];exact ih
theorem kh (l:List UInt8):decB l=true↔decOk l:=by
 unfold decB decOk plain
 constructor
 ·intro h
  split at h
  ·have:l=[48]:=by simpa using h
   subst this
   refine⟨⟨by decide,by decide,fun _=>rfl⟩,fun _=>rfl⟩
  ·rename_i h2
   simp only[Bool.or_eq_true,List.isEmpty_iff,beq_iff_eq,not_or] at h2
   refine⟨⟨h2.1,(oJ _).1 h,fun h3=>absurd h3 h2.2⟩,fun h3=>absurd (by rw[h3];rfl) h2.2⟩
 ·rintro⟨⟨h1,h2,h3⟩,h4⟩
  split
  ·rename_i h5
   simp only[Bool.or_eq_true,List.isEmpty_iff,beq_iff_eq] at h5
   rcases h5 with h5 | h5
   ·exact absurd h5 h1
   ·have h6:=h3 h5
    have h7:=h4 h6
    have:mgn l=l:=by unfold mgn;rw[h7];rfl
    rw[this] at h6
    rw[h6];rfl
  ·exact (oJ _).2 h2
end Wm
section
open Go.RowKit
namespace Wm
theorem ae1 {x:Nat}(h0:0<x)(h:x<18446744073709551616):Lib.ctz 64 x=tz x:=by
 obtain⟨m,e,_⟩:=Lib.ctzFrom_spec 64 x h0 h
 have:Lib.ctz 64 x=Lib.ctzFrom 64 x:=by unfold Lib.ctz;rw[if_neg (by omega)]
 rw[this]
 generalize Lib.ctzFrom 64 x=t at *
 rw[e,Nat.mul_comm,jr (by omega),lC (by omega)];omega
theorem ada {m i:Nat}(h0:0<m)(h:m<2 ^ i):tz m<i:=by
 have e:=(gA m m (Nat.le_refl _) h0).2
 have hp:=aag h0
 rcases Nat.lt_or_ge (tz m) i with h1 | h1
 ·exact h1
 ·have:2 ^ i<=2 ^ tz m:=Nat.pow_le_pow_right (by decide) h1
  have:1*2 ^ tz m<=od m*2 ^ tz m:=Nat.mul_le_mul_right _ hp
  omega
theorem ae2 {m:Nat}(h0:0<m)(h:m<2 ^ 53):tz (18446744073709551616-m)=tz m:=by
 obtain⟨ho,e⟩:=gA m m (Nat.le_refl _) h0
 have ht:=ada h0 h
 have hle:=ac9 m
 generalize od m=k at *
 generalize tz m=t at *
 have e2:18446744073709551616-m=(2 ^ (64-t)-k)*2 ^ t:=by
  rw[Nat.sub_mul,<-Nat.pow_add,show 64-t+t=64 from by omega,<-e]
 have h2:2 ^ (64-t)=2*2 ^ (63-t):=by rw[show 64-t=(63-t)+1 from by omega,Nat.pow_succ];omega
 have h4:k<2 ^ (64-t):=by
  have h5:k*2 ^ t<2 ^ (64-t)*2 ^ t:=by
   rw[<-Nat.pow_add,show 64-t+t=64 from by omega,<-e];omega
  exact Nat.lt_of_mul_lt_mul_right h5
 rw[e2,jr (by omega),lC (by omega)];omega
def sg (n:Bool) (k:Nat):Int:=(if n then -1 else 1)*(k:Int)
def textF (n:Bool) (r:Nat):List UInt8:=Lib.itoa (sg n (kOf r))++112 :: Lib.itoa (eOf r)
def signed (n:Bool) (l:List UInt8):List UInt8:=if n then 45 :: l else l
def textW (b:Nat):List UInt8 :=
 if nan b then [110,97,110] else if rung b=9218868437227405312 then signed (neg b) [105,110,102] else if rung b=0 then signed (neg b) [48] else textF (neg b) (rung b)
end Wm
def KOk (w:World):Prop := MaxOk w/\Lib.TabIs Tryz.prog w "internal/strconv.uint64pow10" .u64 Lib.pow10Tab/\Lib.TabIs Tryz.prog w "math/bits.deBruijn64tab" .u8 (Lib.deBruijn64tab.map Int.ofNat)/\∃ tp p, w.var? Tryz.prog "strconv.ErrRange" = some #[.iface tp p]
theorem tD {w:World}{n:String}{g:Nat}{cs:Array Value}(hg:Tryz.prog.globalNamed n=some g)(h:w.var? Tryz.prog n=some cs):g<w.heap.size:=by
 unfold World.var? at h
 simp only[hg,Option.bind_some] at h
 rcases Nat.lt_or_ge g w.heap.size with h1 | h1
 ·exact h1
 ·simp[Array.getElem?_eq_none h1] at h
theorem aZ {w w':World}(h:KOk w)(hb:Below w.heap.size w w'):KOk w':=by
 obtain⟨h1,h2,h3,tp,p,h4⟩:=h
 have g2:Tryz.prog.globalNamed "internal/strconv.uint64pow10" = some 3 := by kernel_rfl
 have g3:Tryz.prog.globalNamed "math/bits.deBruijn64tab" = some 1 := by kernel_rfl
 have g4:Tryz.prog.globalNamed "strconv.ErrRange" = some 8 := by kernel_rfl
 exact⟨ah h1 hb,var?_below hb g2 (tD g2 h2) h2,var?_below hb g3 (tD g3 h3) h3,tp,p,var?_below hb g4 (tD g4 h4) h4⟩
theorem ad8 {w:World}(h:KOk w):TabAt 1 Lib.deBruijn64tab w:=by
 intro j hj
 have := Lib.TabIs.cell h.2.2.1 (show Tryz.prog.globalNamed "math/bits.deBruijn64tab" = some 1 by kernel_rfl) j (by simpa using hj)
 rw[this]
 simp[List.getD,hj]
theorem vq (n:Bool)(r:Nat)(h:Fin r)(w:World)(hk:KOk w) :
  Calls Tryz.prog 85 #[.float .f64 (Wm.word n r)] w fun e w'=>e=.returned (.string ⟨(Wm.textF n r).toArray⟩)/\Below w.heap.size w w':=by
 have hf:=Wm.aeW r
 obtain⟨x1,x2⟩:=Wm.adX h.1
 have ae:=Wm.aeV n (Wm.fOf r) hf
 have ab:=Wm.yn n (Wm.fOf r) hf
 obtain⟨M,hM⟩:=ex (4503599627370496+Wm.fOf r)
 rw[hM] at x1 x2 ab
 obtain⟨F,hF⟩:∃ F:Int,(if n then -1 else 1)*(M:Int)=F:=⟨_,rfl⟩
 rw[hF] at ab
 have ah:∀ W:World,(convert 29 2 (.float .f64 (Wm.word n (4841369599423283200+Wm.fOf r)))).run Tryz.prog W=.ok (.int .i64 F) W :=
  fun W=>run_convert_float_int W 29 2 .f64 .i64 _ _ (by kernel_rfl) Tryz.underlying2 ab
 have ac:0<M:=by omega
 have af:M<2 ^ 53:=by omega
 have ao:-9007199254740992<=F/\F<=9007199254740992:=by rw[<-hF];cases n <;> simp <;> omega
 obtain⟨U,hU⟩:∃ U:Nat,IntKind.u64.wrap F=(U:Int)/\0<U/\U<18446744073709551616/\Wm.tz U=Wm.tz M:=by
  rw[<-hF]
  cases n
  ·refine⟨M,?_,ac,by omega,rfl⟩
   rw[IntKind.wrap_u64];simp;omega
  ·refine⟨18446744073709551616-M,?_,by omega,by omega,Wm.ae2 ac af⟩
   rw[IntKind.wrap_u64];simp;omega
 have aa:=Wm.ae1 hU.2.1 hU.2.2.1
 rw[hU.2.2.2] at aa
 have hz:=Wm.ada ac af
 have ai:=hU.1
 have ag:Fin (4602678819172646912+Wm.fOf r):=⟨by omega,by omega⟩
 clear ab
 go_enter Tryz.func85,Tryz.ntmps85
 go_wp2_with fail
 refine (aar n r h _).mono ?_
 rintro e' w' ⟨rfl,rfl⟩
 go_wp2_with fail
 refine (qC n (4602678819172646912+Wm.fOf r) 53 ag (by omega) (by omega) _).mono ?_
 rintro e' w' ⟨rfl,rfl⟩
 rw[ae]
 clear ae hf hM ag
 go_wp2_with fail
 refine (Tryz.bits_TrailingZeros64 U hU.2.2.1 _ (fun _=>ad8 hk)).mono ?_
 rintro e' w' ⟨rfl,rfl⟩
 rw[aa]
 clear aa hU ah ai
 have HD:F / 2 ^ Wm.tz M=Wm.sg n (Wm.kOf r):=by
  have e:=(Wm.gA M M (Nat.le_refl _) ac).2
  rw[x1] at e
  rw[<-hF]
  have e3:(if n then -1 else 1)*(M:Int)=Wm.sg n (Wm.kOf r)*(2:Int) ^ Wm.tz M:=by
   unfold Wm.sg
   conv=>lhs;rw[e]
   rw[Int.natCast_mul,Int.mul_assoc,Int.natCast_pow];rfl
  rw[e3,Int.mul_ediv_cancel _ (Int.ne_of_gt (Int.pow_pos (by decide)))]
 have aj:=(Wm.acq h.1 h.2).2.1
 have ap:-9007199254740992<=Wm.sg n (Wm.kOf r)/\Wm.sg n (Wm.kOf r)<=9007199254740992:=by unfold Wm.sg;cases n <;> simp <;> omega
 have aq:-2000<=Wm.xOf r/\Wm.xOf r<=2000:=by
  have:=h.2
  have:=(Wm.aaj h.1 h.2).2
  unfold Wm.xOf;split <;> omega
 have HT:Hid (Wm.textF n r=Lib.itoa (Wm.sg n (Wm.kOf r))++112 :: Lib.itoa (Wm.eOf r)):=rfl
 have ar:Wm.xOf r+((Wm.tz M:Int)-53)=Wm.eOf r:=by omega
 clear x1 x2 hF aj
 generalize Wm.tz M=z at *
 go_wp2_with fail
 refine (Tryz.strconv_FormatInt_10 _ (by omega) (by omega) _ hk.2.1).mono ?_
 rintro e' w1 ⟨g1,k1,am,g2⟩;subst g1
 have ad:=zh (g2 ▸ Lib.below_grow _ _ (Nat.le_refl _) k1 am:Below w'.heap.size w' w1)
 have ak:=aZ hk ad.out
 clear g2 hk
 have au:=Lib.itoa_length_le (Wm.sg n (Wm.kOf r)) (by omega) (by omega)
 have av:=Lib.itoa_length_le (Wm.eOf r) (by omega) (by omega)
 go_wp2_with fail
 refine (Tryz.strconv_Itoa _ (by omega) (by omega) _ ak.2.1).mono ?_
 rintro e' w2 ⟨g1,k2,an,g2⟩;subst g1
 have al:=zh (ad.out.trans ((g2 ▸ Lib.below_grow _ _ (Nat.le_refl _) k2 an:Below w1.heap.size w1 w2).mono ad.out.size))
 clear g2
 go_wp2_with fail
 go_ret
 refine⟨?_,al.out⟩
 rw[HT.out]
 show Ending.returned (.string ((ByteArray.mk _++ByteArray.mk #[112])++ByteArray.mk _))=_
 rw[show (#[112]:Array UInt8)=([112]:List UInt8).toArray from rfl,ByteArray.mk_append_mk,ByteArray.mk_append_mk,List.append_assoc]
 rfl
end
section
open Go.RowKit
theorem kinds (b:Nat)(hb:b<Wm.W):Wm.nan b=true\/(∃ n,b=Wm.word n 9218868437227405312)\/(∃ n r,Fin r/\b=Wm.word n r)\/(∃ n,b=Wm.word n 0):=by
 have e:=Wm.mc b hb
 cases hn:Wm.nan b
 ·right
  have hr:Wm.rung b<=9218868437227405312:=by unfold Wm.nan at hn;simpa using hn
  by_cases h1:Wm.rung b=9218868437227405312
  ·left;exact⟨Wm.neg b,by rw[<-h1];exact e⟩
  ·right
   by_cases h2:Wm.rung b=0
   ·right;exact⟨Wm.neg b,by rw[<-h2];exact e⟩
   ·left;exact⟨Wm.neg b,Wm.rung b,⟨by omega,by omega⟩,e⟩
 ·left;rfl
theorem aat (n:Bool){r:Nat}(h:Fin r):Wm.textW (Wm.word n r)=Wm.textF n r:=by
 obtain⟨_,g2,_⟩:=bR h n
 have h1:=h.1
 have h2:=h.2
 obtain⟨a1,a2,_⟩:=Wm.bu n (r:=r) (by omega)
 unfold Wm.textW
 rw[g2,a1,a2,if_neg Bool.false_ne_true,if_neg (by omega),if_neg (by omega)]
theorem aau (w:World) :
  Calls Tryz.prog 41 #[.float .f64 9218868437227405312] w fun e w'=>e=.returned (.string ⟨#[105,110,102]⟩)/\w=w':=by
 have o1:(FloatKind.f64.format.order 9218868437227405312 9218868437227405311==some .gt)=true:=by decide +kernel
 have o2:(FloatKind.f64.format.order 9218868437227405312 18442240474082181119==some .lt)=false:=by decide +kernel
 have o3:(FloatKind.f64.format.order 9218868437227405312 0 != some .eq)=true:=by decide +kernel
 have aa:=dL
 have hn:Wm.nan 9218868437227405312=false:=by decide +kernel
 go_enter Tryz.func41,Tryz.ntmps41
 go_wp2_with fail
 refine (c7 9218868437227405312 (by decide) _).mono ?_
 rintro e w' ⟨rfl,rfl⟩
 rw[hn]
 go_wp2_with fail
 go_ret
 exact⟨rfl,rfl⟩
theorem aav (w:World) :
  Calls Tryz.prog 41 #[.float .f64 18442240474082181120] w fun e w'=>e=.returned (.string ⟨#[45,105,110,102]⟩)/\w=w':=by
 have o1:(FloatKind.f64.format.order 18442240474082181120 9218868437227405311==some .gt)=false:=by decide +kernel
 have o2:(FloatKind.f64.format.order 18442240474082181120 18442240474082181119==some .lt)=true:=by decide +kernel
 have o3:(FloatKind.f64.format.order 18442240474082181120 0 != some .eq)=true:=by decide +kernel
 have aa:=dL
 have hn:Wm.nan 18442240474082181120=false:=by decide +kernel
 go_enter Tryz.func41,Tryz.ntmps41
 go_wp2_with fail
 refine (c7 18442240474082181120 (by decide) _).mono ?_
 rintro e w' ⟨rfl,rfl⟩
 rw[hn]
 go_wp2_with fail
 go_ret
 exact⟨rfl,rfl⟩
theorem ad9 (w:World) :
  Calls Tryz.prog 41 #[.float .f64 0] w fun e w'=>e=.returned (.string ⟨#[48]⟩)/\w=w':=by
 have o1:(FloatKind.f64.format.order 0 9218868437227405311==some .gt)=false:=by decide +kernel
 have o2:(FloatKind.f64.format.order 0 18442240474082181119==some .lt)=false:=by decide +kernel
 have o3:(FloatKind.f64.format.order 0 0 != some .eq)=false:=by decide +kernel
 have aa:=dL
 have hn:Wm.nan 0=false:=by decide +kernel
 go_enter Tryz.func41,Tryz.ntmps41
 go_wp2_with fail
 refine (c7 0 (by decide) _).mono ?_
 rintro e w' ⟨rfl,rfl⟩
 rw[hn]
 go_wp2_with fail
 go_ret
 exact⟨rfl,rfl⟩
theorem aea (w:World) :
  Calls Tryz.prog 41 #[.float .f64 9223372036854775808] w fun e w'=>e=.returned (.string ⟨#[45,48]⟩)/\w=w':=by
 have o1:(FloatKind.f64.format.order 9223372036854775808 9218868437227405311==some .gt)=false:=by decide +kernel
 have o2:(FloatKind.f64.format.order 9223372036854775808 18442240474082181119==some .lt)=false:=by decide +kernel
 have o3:(FloatKind.f64.format.order 9223372036854775808 0 != some .eq)=false:=by decide +kernel
 have aa:=dL
 have hn:Wm.nan 9223372036854775808=false:=by decide +kernel
 go_enter Tryz.func41,Tryz.ntmps41
 go_wp2_with fail
 refine (c7 9223372036854775808 (by decide) _).mono ?_
 rintro e w' ⟨rfl,rfl⟩
 rw[hn]
 go_wp2_with fail
 go_ret
 exact⟨rfl,rfl⟩
theorem ae3 (b:Nat)(hb:b<Wm.W)(w:World)(hk:KOk w) :
  Calls Tryz.prog 41 #[.float .f64 b] w fun e w'=>e=.returned (.string ⟨(Wm.textW b).toArray⟩)/\Below w.heap.size w w':=by
 have o1:=Wm.oC b 9218868437227405311 hb (by decide)
 have o2:=Wm.oB b 18442240474082181119 hb (by decide)
 have o3:=Wm.tn b 0 hb (by decide)
 have aa:=dL
 rw[show Wm.nan 9218868437227405311=false from rfl,show Wm.sk 9218868437227405311=9218868437227405311 from rfl] at o1
 rw[show Wm.nan 18442240474082181119=false from rfl,show Wm.sk 18442240474082181119 = -9218868437227405311 from rfl] at o2
 rw[kg,me] at o3
 rcases kinds b hb with hn | ⟨n,rfl⟩ | ⟨n,r,hf,rfl⟩ | ⟨n,rfl⟩
 ·have HV:Hid (Wm.textW b=[110,97,110]):=by show _=_;rw[Wm.textW,hn];rfl
  clear o1 o2 o3
  go_enter Tryz.func41,Tryz.ntmps41
  go_wp2_with fail
  refine (c7 b hb _).mono ?_
  rintro e w' ⟨rfl,rfl⟩
  rw[hn]
  go_wp2_with fail
  go_ret
  exact⟨by rw[HV.out];rfl,Below.refl _ _⟩
 ·cases n
  ·refine (aau w).mono ?_
   rintro e w' ⟨rfl,rfl⟩
   exact⟨rfl,Below.refl _ _⟩
  ·refine (aav w).mono ?_
   rintro e w' ⟨rfl,rfl⟩
   exact⟨rfl,Below.refl _ _⟩
 ·have HV:=zh (aat n hf)
  obtain⟨g1,g2,g3,g4,g5⟩:=bR hf n
  rw[decide_eq_false (by omega)] at o1 o2
  rw[decide_eq_true g3] at o3
  simp only[Bool.and_false,Bool.or_true] at o1 o2 o3
  clear g3 g4 g5
  go_enter Tryz.func41,Tryz.ntmps41
  go_wp2_with fail
  refine (c7 _ hb _).mono ?_
  rintro e w' ⟨rfl,rfl⟩
  rw[g2]
  go_wp2_with fail
  refine (vq n r hf _ hk).mono ?_
  rintro e w' ⟨g1,g2⟩;subst g1
  go_wp2_with fail
  go_ret
  exact⟨by rw[HV.out];rfl,g2⟩
 ·cases n
  ·refine (ad9 w).mono ?_
   rintro e w' ⟨rfl,rfl⟩
   exact⟨rfl,Below.refl _ _⟩
  ·refine (aea w).mono ?_
   rintro e w' ⟨rfl,rfl⟩
   exact⟨rfl,Below.refl _ _⟩
def lastOdd (l:List UInt8):Bool:=(((l.getLast?.getD 0).toNat:Int)-48) % 2==1
theorem aaw (l:List UInt8)(h:l≠[])(hl:l.length<=1000)(w:World) :
  Calls Tryz.prog 258 #[.string ⟨l.toArray⟩] w fun e w'=>e=.returned (.bool (lastOdd l))/\w=w':=by
 have ab:0<l.length:=List.length_pos_iff.2 h
 obtain⟨c,hc,aa⟩:=byte_at l (l.length-1) (by omega)
 have HL:Hid (lastOdd l=(((c.toNat:Int)-48) % 2==1)):=by
  show _=_
  rw[lastOdd,List.getLast?_eq_some_getLast h,List.getLast_eq_getElem,aa];rfl
 clear aa
 go_enter Tryz.func258,Tryz.ntmps258
 go_wp2_with fail
 go_ret
 exact⟨by rw[HL.out];rfl,rfl⟩
theorem kv (l:List UInt8)(_hl:l.length<=1000)(w:World) :
  Calls Tryz.prog 257 #[.string ⟨l.toArray⟩] w fun e w'=>e=.returned (.bool (Wm.decB l))/\Below w.heap.size w w':=by
 have HB:Hid (Wm.decB l=if (Wm.mgn l).isEmpty||(Wm.mgn l).head? == some 48 then l==[48] else (Vm.undigs (Wm.mgn l)).isEmpty):=rfl
 have hd:=Wm.tC l
 go_enter Tryz.func257,Tryz.ntmps257
 go_wp2_with fail
 refine (Tryz.strings_TrimPrefix _ _ _).mono ?_
 rintro e w' ⟨g1,g2⟩;subst g1 g2
 rw[show Lib.trimPrefix (ByteArray.data ⟨l.toArray⟩).toList (ByteArray.data ⟨#[45]⟩).toList=Wm.mgn l from Wm.ae0 l]
 generalize Wm.mgn l=d at *
 by_cases h0:d=[]
 ·subst h0
  have HV:Hid (Wm.decB l=(l==[48])):=by show _=_;rw[HB.out];rfl
  clear HB
  go_wp2_with fail
  go_ret
  exact⟨by rw[HV.out];rfl,Below.refl _ _⟩
 ·have aa:0<d.length:=List.length_pos_iff.2 h0
  have he:d.isEmpty=false:=by cases d <;> simp at *
  obtain⟨c,hc,ac⟩:=byte_at d 0 aa
  have hh:(d.head? == some 48)=((c.toNat:Int)==48):=by
   cases d with
   | nil=>exact absurd rfl h0
   | cons x t =>
    have:x=c:=ac
    subst this
    rw[Bool.eq_iff_iff]
    simp only[List.head?_cons,beq_iff_eq,Option.some.injEq]
    exact⟨fun h=>by rw[h];rfl,fun h=>UInt8.toNat.inj (show x.toNat=48 by omega)⟩
  rw[he,hh,Bool.false_or] at HB
  clear ac hh h0
  cases ab:((c.toNat:Int)==48)
  ·have HV:Hid (Wm.decB l=(Vm.undigs d).isEmpty):=by show _=_;rw[HB.out,ab];rfl
   clear HB
   go_wp2_with fail
   refine (jl d _).mono ?_
   rintro e w1 ⟨g1,g2⟩;subst g1
   obtain⟨u,hu⟩:=ex (Vm.undigs d)
   rw[hu] at HV
   rw[hu]
   have HD:=zh g2
   clear hu g2
   go_wp2_with fail
   go_ret
   exact⟨by rw[HV.out];rfl,HD.out⟩
  ·have HV:Hid (Wm.decB l=(l==[48])):=by show _=_;rw[HB.out,ab];rfl
   clear HB
   go_wp2_with fail
   go_ret
   exact⟨by rw[HV.out];rfl,Below.refl _ _⟩
theorem oK (l:List UInt8)(hl:l.length<=1000)(hp:Wm.plain (Wm.mgn l))(w:World)(hk:KOk w) :
  Calls Tryz.prog 259 #[.string ⟨l.toArray⟩] w fun e w'=>e=.returned (.int .i64 (Wm.nmb l))/\Below w.heap.size w w':=by
 obtain⟨tp,p,hv⟩:=hk.2.2.2
 have aa:=Wm.aas l hp
 generalize Wm.nmb l=v at *
 rcases aa with h1 | ⟨h1,h2⟩
 ·go_enter Tryz.func259,Tryz.ntmps259
  go_wp2_with fail
  refine (Tryz.strconv_ParseInt_10_at64_ok ⟨l.toArray⟩ (by show l.toArray.size<=_;simp;omega) v h1 _).mono ?_
  rintro e w1 ⟨g1,g2⟩;subst g1
  go_wp2_with fail
  go_ret
  refine⟨rfl,?_⟩
  rcases g2 with rfl | ⟨t,rfl⟩
  ·exact Below.refl _ _
  ·exact Lib.bytesWorld_below _ _ _
 ·go_enter Tryz.func259,Tryz.ntmps259
  go_wp2_with fail
  refine (Tryz.strconv_ParseInt_10_at64_range_var ⟨l.toArray⟩ (by show l.toArray.size<=_;simp;omega) h1 tp p _ hv).mono ?_
  rintro e w1 ⟨N,g1,g2,g3,g4⟩;subst g1
  rw[show Lib.intSat 64 (ByteArray.data ⟨l.toArray⟩).toList=v from h2]
  go_wp2_with fail
  go_ret
  exact⟨rfl,g4⟩
end
section
open Go.RowKit
namespace Wm
theorem yr {k:Nat}(h:0<k)(h2:k<2 ^ 53):Lib.bitLen k=k.log2+1:=by
 obtain⟨b1,b2,b3⟩:=Lib.bitLenAux_bounds 64 k (by omega) (by omega)
 unfold Lib.bitLen
 generalize Lib.bitLenAux 64 k=m at *
 have:=l9 (l:=m-1) b2 (by rwa [show m-1+1=m from by omega])
 omega
def rangeOk (F P:Int):Bool:=decide (-9007199254740992<F)&&(decide (F<9007199254740992)&&(decide (-1074<=P)&&decide (P<=1024-((F.natAbs.log2+1:Nat):Int))))
theorem oL {F P:Int}(h:F<=-9007199254740992):rangeOk F P=false:=by
 have:¬ -9007199254740992<F:=by omega
 simp[rangeOk,this]
theorem oM {F P:Int}(h:9007199254740992<=F):rangeOk F P=false:=by
 have:¬ F<9007199254740992:=by omega
 simp[rangeOk,this]
theorem mJ {F P:Int}(h:-9007199254740992<F)(h2:F<9007199254740992):rangeOk F P=(decide (-1074<=P)&&decide (P<=1024-((F.natAbs.log2+1:Nat):Int))):=by
 simp[rangeOk,h,h2]
def prodVal (F P:Int):Nat:=word (decide (F<0)) (rungOf F.natAbs P)
end Wm
def formOk (l:List UInt8):Bool:=Vm.has 112 l&&(Wm.decB (Vm.fst 112 l)&&(Wm.decB (Vm.snd 112 l)&&lastOdd (Vm.fst 112 l)))
def prodErr (l:List UInt8):Int:=if formOk l then (if Wm.rangeOk (Wm.nmb (Vm.fst 112 l)) (Wm.nmb (Vm.snd 112 l)) then 0 else 8) else 2
def prodOf (l:List UInt8):Nat:=if prodErr l=0 then Wm.prodVal (Wm.nmb (Vm.fst 112 l)) (Wm.nmb (Vm.snd 112 l)) else 0
def prodEnd (l:List UInt8):Ending:=if prodErr l=0 then .returned (.float .f64 (prodOf l)) else pan (prodErr l)
theorem aax (l:List UInt8)(hd:Wm.decB l=true)(ho:lastOdd l=true):Wm.nmb l % 2=1\/Wm.nmb l = -9223372036854775808:=by
 obtain⟨⟨h1,h2,_⟩,_⟩:=(Wm.kh l).1 hd
 have hm:Wm.mgn l=l\/Wm.mgn l=l.drop 1:=by unfold Wm.mgn;split <;> simp
 have aa:l.getLast? = (Wm.mgn l).getLast?:=by
  rcases hm with h | h
  ·rw[h]
  ·rw[h] at h1 ⊢
   cases l with
   | nil=>rfl
   | cons c t =>
    cases t with
    | nil=>exact absurd rfl h1
    | cons d t=>rfl
 have e:=Wm.tB (Wm.mgn l) h1
 unfold lastOdd at ho
 rw[aa,List.getLast?_eq_some_getLast h1] at ho
 have ab:Vm.dig ((Wm.mgn l).getLast h1)=true:=by rw[List.all_eq_true] at h2;exact h2 _ (List.getLast_mem h1)
 rw[Wm.jt] at ab
 have ac:((((Wm.mgn l).getLast h1).toNat:Int)-48) % 2=1:=by simpa using ho
 unfold Wm.nmb
 split <;> split <;> omega
theorem oN (l:List UInt8):-9223372036854775808<=Wm.nmb l/\Wm.nmb l<=9223372036854775807:=by
 unfold Wm.nmb;split <;> split <;> omega
theorem aeb (l:List UInt8)(c:UInt8):(Vm.fst c l).length<=l.length/\(Vm.snd c l).length<=l.length:=⟨eO l c,gP c l⟩
theorem np (l:List UInt8)(hl:l.length<=1000)(w:World)(hk:KOk w) :
  Calls Tryz.prog 220 #[.string ⟨l.toArray⟩] w fun e w'=>e=prodEnd l/\Below w.heap.size w w':=by
 have HE:Hid (prodEnd l=if prodErr l=0 then .returned (.float .f64 (prodOf l)) else pan (prodErr l)):=rfl
 have HO:Hid (prodOf l=if prodErr l=0 then Wm.prodVal (Wm.nmb (Vm.fst 112 l)) (Wm.nmb (Vm.snd 112 l)) else 0):=rfl
 have HR:Hid (prodErr l=if formOk l then (if Wm.rangeOk (Wm.nmb (Vm.fst 112 l)) (Wm.nmb (Vm.snd 112 l)) then 0 else 8) else 2):=rfl
 have HF:Hid (formOk l=(Vm.has 112 l&&(Wm.decB (Vm.fst 112 l)&&(Wm.decB (Vm.snd 112 l)&&lastOdd (Vm.fst 112 l))))):=rfl
 have ad:formOk l=false->prodEnd l=pan 2:=fun h=>by rw[HE.out,HR.out,h];rfl
 have HB:=zh ad
 clear ad
 obtain⟨la,lb⟩:=aeb l 112
 cases hh:Vm.has 112 l
 ·have HV:Hid (prodEnd l=pan 2):=HB.out (by rw[HF.out,hh];rfl)
  go_enter Tryz.func220,Tryz.ntmps220
  go_wp2_with fail
  refine (nW l 112 _ hk.1 (by omega) hh).mono ?_
  rintro e w1 ⟨g1,g2⟩;subst g1
  have HD:Hid (Below w.heap.size w w1):=by obtain⟨n,rfl⟩:=g2;exact below_drewN (Below.refl _ _) n
  clear g2 hh
  go_wp2_with fail
  refine (an _).mono ?_
  rintro e w2 ⟨g1,g2⟩;subst g2;subst g1
  go_wp2_with fail
  exact⟨rfl,HV.out.symm,HD.out⟩
 ·have hcut:=fun W h=>lX l 112 W h (by omega) hh
  rw[hh] at HF
  generalize Vm.fst 112 l=bf at *
  generalize Vm.snd 112 l=af at *
  clear hh
  go_enter Tryz.func220,Tryz.ntmps220
  go_wp2_with fail
  refine (hcut _ hk.1).mono ?_
  rintro e w1 ⟨g1,g2⟩;subst g1
  have HD:Hid (Below w.heap.size w w1):=by obtain⟨n,rfl⟩:=g2;exact below_drewN (Below.refl _ _) n
  have ar:=aZ hk HD.out
  clear g2 hk hcut
  go_wp2_with fail
  refine (kv bf (by omega) _).mono ?_
  rintro e w2 ⟨g1,g2⟩;subst g1
  have ak:=zh (bt HD.out g2)
  have au:=aZ ar g2
  clear g2 ar HD
  cases ab:Wm.decB bf
  ·have HV:Hid (prodEnd l=pan 2):=HB.out (by rw[HF.out,ab];rfl)
   clear ab
   go_wp2_with fail
   refine (an _).mono ?_
   rintro e w3 ⟨g1,g2⟩;subst g2;subst g1
   go_wp2_with fail
   exact⟨rfl,HV.out.symm,ak.out⟩
  ·go_wp2_with fail
   refine (kv af (by omega) _).mono ?_
   rintro e w3 ⟨g1,g2⟩;subst g1
   have ah:=zh (bt ak.out g2)
   have al:=aZ au g2
   clear g2 au ak
   cases ac:Wm.decB af
   ·have HV:Hid (prodEnd l=pan 2):=HB.out (by rw[HF.out,ab,ac];rfl)
    clear ab ac
    go_wp2_with fail
    refine (an _).mono ?_
    rintro e w4 ⟨g1,g2⟩;subst g2;subst g1
    go_wp2_with fail
    exact⟨rfl,HV.out.symm,ah.out⟩
   ·have am:=((Wm.kh bf).1 ab).1
    have av:=((Wm.kh af).1 ac).1
    have aw:bf≠[]:=fun h=>am.1 (by rw[h];rfl)
    have ax:=zh am
    have ay:=zh av
    have az:=zh aw
    clear am av aw
    go_wp2_with fail
    refine (aaw bf az.out (by omega) _).mono ?_
    rintro e w4 ⟨g1,g2⟩;subst g2;subst g1
    cases ho:lastOdd bf
    ·have HV:Hid (prodEnd l=pan 2):=HB.out (by rw[HF.out,ab,ac,ho];rfl)
     clear ab ac ho
     go_wp2_with fail
     refine (an _).mono ?_
     rintro e w4 ⟨g1,g2⟩;subst g2;subst g1
     go_wp2_with fail
     exact⟨rfl,HV.out.symm,ah.out⟩
    ·have aE:Hid (formOk l=true):=by show _=_;rw[HF.out,ab,ac,ho];rfl
     rw[aE.out] at HR
     have aA:=zh (aax bf ab ho)
     clear ab ac ho HF HB
     go_wp2_with fail
     refine (aj _).mono ?_
     rintro e w4 ⟨g1,g2⟩;subst g2;subst g1
     go_wp2_with fail
     refine (oK bf (by omega) ax.out _ al).mono ?_
     rintro e w4 ⟨g1,g2⟩;subst g1
     have aB:=zh (bt ah.out g2)
     have aC:=aZ al g2
     clear g2 al ah
     go_wp2_with fail
     refine (oK af (by omega) ay.out _ aC).mono ?_
     rintro e w5 ⟨g1,g2⟩;subst g1
     have ae:=zh (bt aB.out g2)
     clear g2 aC aB ax ay az
     have hF:=oN bf
     have hP:=oN af
     generalize Wm.nmb bf=F at *
     generalize Wm.nmb af=P at *
     have aD:Hid (prodErr l=if Wm.rangeOk F P then 0 else 8):=by show _=_;rw[HR.out];rfl
     have ai:Hid (Wm.rangeOk F P=false->prodEnd l=pan 8):=by
      show _->_
      intro h
      rw[HE.out,aD.out,h];rfl
     clear HR
     by_cases c1:F<=-9007199254740992
     ·have HV:Hid (prodEnd l=pan 8):=ai.out (Wm.oL c1)
      go_wp2_with fail
      refine (an _).mono ?_
      rintro e w6 ⟨g1,g2⟩;subst g2;subst g1
      go_wp2_with fail
      exact⟨rfl,HV.out.symm,ae.out⟩
     by_cases c2:9007199254740992<=F
     ·have HV:Hid (prodEnd l=pan 8):=ai.out (Wm.oM c2)
      go_wp2_with fail
      rw[show decide (F<9007199254740992)=false from decide_eq_false (by omega)]
      refine (an _).mono ?_
      rintro e w6 ⟨g1,g2⟩;subst g2;subst g1
      go_wp2_with fail
      exact⟨rfl,HV.out.symm,ae.out⟩
     have aF:F % 2=1:=by rcases aA.out with h | h <;> omega
     have ag:0<F.natAbs:=by omega
     have aa:F.natAbs<2 ^ 53:=by omega
     have aG:=zh (Wm.yr ag aa)
     have aK:=Wm.bP ag aa
     have ao:max F (-F)=((F.natAbs:Nat):Int):=by omega
     have ap:Hid (Wm.rangeOk F P=(decide (-1074<=P)&&decide (P<=1024-((F.natAbs.log2+1:Nat):Int)))):=Wm.mJ (by omega) (by omega)
     clear aA
     have aL:-9007199254740992<F:=by omega
     have aM:F<9007199254740992:=by omega
     clear c1 c2
     go_wp2_with fail
     refine (aj _).mono ?_
     rintro e w6 ⟨g1,g2⟩;subst g2;subst g1
     go_wp2_with fail
     refine (Tryz.bits_Len64 _ _ (by omega) (by omega)).mono ?_
     rintro e w6 ⟨g1,g2⟩;subst g2;subst g1
     rw[show ((F.natAbs:Nat):Int).toNat=F.natAbs from rfl,aG.out]
     clear ao
     by_cases p1:P < -1074
     ·have HV:Hid (prodEnd l=pan 8):=ai.out (by rw[ap.out,decide_eq_false (by omega)];rfl)
      go_wp2_with fail
      refine (an _).mono ?_
      rintro e w7 ⟨g1,g2⟩;subst g2;subst g1
      go_wp2_with fail
      exact⟨rfl,HV.out.symm,ae.out⟩
     by_cases p2:1024-((F.natAbs.log2+1:Nat):Int)<P
     ·have HV:Hid (prodEnd l=pan 8):=ai.out (by rw[ap.out,decide_eq_false (show ¬ P<=1024-((F.natAbs.log2+1:Nat):Int) by omega),Bool.and_false])
      go_wp2_with fail
      rw[show decide (P<=1024-((F.natAbs.log2:Int)+1))=false from decide_eq_false (by omega)]
      refine (an _).mono ?_
      rintro e w7 ⟨g1,g2⟩;subst g2;subst g1
      go_wp2_with fail
      exact⟨rfl,HV.out.symm,ae.out⟩
     have HZ:Hid (prodErr l=0):=by show _=_;rw[aD.out,ap.out,decide_eq_true (show -1074<=P by omega),decide_eq_true (show P<=1024-((F.natAbs.log2+1:Nat):Int) by omega)];rfl
     have HV:Hid (prodEnd l=.returned (.float .f64 (Wm.prodVal F P))):=by show _=_;rw[HE.out,HO.out,if_pos HZ.out,if_pos HZ.out]
     have aH:FloatKind.f64.nearest F=Wm.word (decide (F<0)) (Wm.rungOf F.natAbs 0):=Wm.acp F (by omega) aa
     have aI:=Wm.rung0 ag aa
     have aJ:=Wm.iN (e:=0) ag aa (by omega)
     have hx:=Wm.aak (decide (F<0)) ag aa (show -1074<=P by omega) (by omega)
     have aq:Fin (Wm.rungOf F.natAbs 0):=aJ
     go_wp2_with fail
     rw[show decide (P<=1024-((F.natAbs.log2:Int)+1))=true from decide_eq_true (by omega)]
     refine (aj _).mono ?_
     rintro e w7 ⟨g1,g2⟩;subst g2;subst g1
     go_wp2_with fail
     rw[show floatOfInt .f64 F=Wm.word (decide (F<0)) (Wm.rungOf F.natAbs 0) from aH]
     refine (qC (decide (F<0)) (Wm.rungOf F.natAbs 0) P aq aI.2.2 (by omega) _).mono ?_
     rintro e w8 ⟨g1,g2⟩;subst g2;subst g1
     rw[hx]
     go_wp2_with fail
     go_ret
     exact⟨by rw[HV.out];rfl,ae.out⟩
end
section
open Go.RowKit
def litW (l:List UInt8):Option Nat :=
 if l=[105,110,102] then some 9218868437227405312 else if l=[45,105,110,102] then some 18442240474082181120
 else if l=[110,97,110] then some 9221120237041090561 else if l=[48] then some 0 else if l=[45,48] then some 9223372036854775808 else none
def errW (l:List UInt8):Int:=if (litW l).isSome then 0 else prodErr l
def valW (l:List UInt8):Nat:=(litW l).getD (prodOf l)
theorem lI (l:List UInt8):l=[105,110,102]\/l=[45,105,110,102]\/l=[110,97,110]\/l=[48]\/l=[45,48] \/
  ((l==[105,110,102])=false/\(l==[45,105,110,102])=false/\(l==[110,97,110])=false/\(l==[48])=false/\(l==[45,48])=false/\errW l=prodErr l/\valW l=prodOf l):=by
 by_cases h1:l=[105,110,102]
 ·exact Or.inl h1
 by_cases h2:l=[45,105,110,102]
 ·exact Or.inr (Or.inl h2)
 by_cases h3:l=[110,97,110]
 ·exact Or.inr (Or.inr (Or.inl h3))
 by_cases h4:l=[48]
 ·exact Or.inr (Or.inr (Or.inr (Or.inl h4)))
 by_cases h5:l=[45,48]
 ·exact Or.inr (Or.inr (Or.inr (Or.inr (Or.inl h5))))
 have hl:litW l=none:=by unfold litW;rw[if_neg h1,if_neg h2,if_neg h3,if_neg h4,if_neg h5]
 refine Or.inr (Or.inr (Or.inr (Or.inr (Or.inr ⟨?_,?_,?_,?_,?_,?_,?_⟩))))
 ·exact beq_eq_false_iff_ne.2 h1
 ·exact beq_eq_false_iff_ne.2 h2
 ·exact beq_eq_false_iff_ne.2 h3
 ·exact beq_eq_false_iff_ne.2 h4
 ·exact beq_eq_false_iff_ne.2 h5
 ·unfold errW;rw[hl];rfl
 ·unfold valW;rw[hl];rfl
def parseEnd (l:List UInt8):Ending:=if errW l=0 then .returned (.float .f64 (valW l)) else pan (errW l)
theorem oO (l:List UInt8)(hl:l.length<=1000)(w:World)(hk:KOk w) :
  Calls Tryz.prog 184 #[.string ⟨l.toArray⟩] w fun e w'=>e=parseEnd l/\Below w.heap.size w w':=by
 rcases lI l with rfl | rfl | rfl | rfl | rfl | ⟨h1,h2,h3,h4,h5,he,hv⟩
 ·go_enter Tryz.func184,Tryz.ntmps184
  go_wp2_with fail
  refine (pK _ _).mono ?_
  rintro e w1 ⟨g1,g2⟩;subst g2;subst g1
  go_wp2_with fail
  go_ret
  exact⟨rfl,Below.refl _ _⟩
 ·go_enter Tryz.func184,Tryz.ntmps184
  go_wp2_with fail
  refine (pK _ _).mono ?_
  rintro e w1 ⟨g1,g2⟩;subst g2;subst g1
  go_wp2_with fail
  go_ret
  exact⟨rfl,Below.refl _ _⟩
 ·go_enter Tryz.func184,Tryz.ntmps184
  go_wp2_with fail
  refine (adY _).mono ?_
  rintro e w1 ⟨g1,g2⟩;subst g2;subst g1
  go_wp2_with fail
  go_ret
  exact⟨rfl,Below.refl _ _⟩
 ·go_enter Tryz.func184,Tryz.ntmps184
  go_wp2_with fail
  go_ret
  exact⟨rfl,Below.refl _ _⟩
 ·go_enter Tryz.func184,Tryz.ntmps184
  go_wp2_with fail
  refine (lH _ _ (by decide) (by decide) _).mono ?_
  rintro e w1 ⟨g1,g2⟩;subst g2;subst g1
  go_wp2_with fail
  go_ret
  exact⟨rfl,Below.refl _ _⟩
 ·have HV:Hid (parseEnd l=prodEnd l):=by show _=_;unfold parseEnd prodEnd;rw[he,hv]
  clear he hv
  go_enter Tryz.func184,Tryz.ntmps184
  go_wp2_with fail
  refine (np l hl _ hk).mono ?_
  rintro e w1 ⟨g1,g2⟩;subst g1
  by_cases h0:prodErr l=0
  ·have e1:prodEnd l=.returned (.float .f64 (prodOf l)):=if_pos h0
   rw[e1] at HV
   rw[e1]
   clear e1 h0
   go_wp2_with fail
   go_ret
   exact⟨HV.out.symm,g2⟩
  ·have e1:prodEnd l=pan (prodErr l):=if_neg h0
   rw[e1] at HV
   rw[e1]
   clear e1 h0
   go_wp2_with fail
   exact⟨rfl,HV.out.symm,g2⟩
theorem yt (l:List UInt8)(hl:l.length<=1000)(w:World)(hk:KOk w)(h:errW l=0) :
  Calls Tryz.prog 184 #[.string ⟨l.toArray⟩] w fun e w'=>e=.returned (.float .f64 (valW l))/\Below w.heap.size w w':=by
 have:=oO l hl w hk
 unfold parseEnd at this
 rwa [if_pos h] at this
theorem aay (l:List UInt8)(hl:l.length<=1000)(w:World)(hk:KOk w)(h:errW l≠0) :
  Calls Tryz.prog 184 #[.string ⟨l.toArray⟩] w fun e w'=>e=pan (errW l)/\Below w.heap.size w w':=by
 have:=oO l hl w hk
 unfold parseEnd at this
 rwa [if_neg h] at this
theorem tE (p:Addr)(x:Int)(n:Int)(w:World)(hc:w.cell? p=some (.int .i64 x))(hz:w.frozen? p=false) :
  CallsD Tryz.prog 183 #[.pointer (some p)] (.panicking [{ v:=.iface 32 (.int .i64 n),recovered:=false }]) w fun e u' w' =>
   e=.returned (.tuple #[])/\u'=.panicking [{ v:=.iface 32 (.int .i64 n),recovered:=true }]/\w'=w.setCell p (.int .i64 n):=by
 refine callsD_of_wpS Tryz.func183 rfl fun c₀ cs hu=>?_
 apply wpS_region
 simp[wpOpsS,go_sem,recoverD,hu,Tryz.ntmps183]
 refine (dj n _).mono ?_
 rintro e w' ⟨rfl,rfl⟩
 simp[go_sem,hc,hz,bodyPostS,results,Tryz.results183]
theorem vs (p:Addr)(x:Int)(w:World)(hc:w.cell? p=some (.int .i64 x))(hz:w.frozen? p=false) :
  CallsD Tryz.prog 183 #[.pointer (some p)] .returning w fun e u' w'=>e=.returned (.tuple #[])/\u'=.returning/\w'=w.setCell p (.int .i64 0):=by
 refine callsD_of_wpS Tryz.func183 rfl fun c₀ cs hu=>?_
 apply wpS_region
 simp[wpOpsS,go_sem,recoverD,hu,Tryz.ntmps183]
 refine (di _).mono ?_
 rintro e w' ⟨rfl,rfl⟩
 cases c₀
 simp_all [go_sem,bodyPostS,results,Tryz.results183]
def outW (l:List UInt8):Nat:=if errW l=0 then valW l else 0
theorem aec (l:List UInt8)(hl:l.length<=1000)(w:World)(hw:KOk w) :
  Calls Tryz.prog 148 #[.string ⟨l.toArray⟩] w fun e w'=>e=.returned (.tuple #[.float .f64 (outW l),.int .i64 (errW l)])/\Below w.heap.size w w':=by
 have af:∀ (fn:Fn) (first cap:Array Value) (w:World),(Instr.makeFunc fn first cap).run Tryz.prog w=.ok (.func fn first cap) w:=fun _ _ _ _=>rfl
 have hM:KOk (w.alloc (.cells #[.int .i64 0] 32)):=aZ hw ((Below.refl _ _).alloc (Nat.le_refl _) _)
 have HM:=zh hM
 clear hw hM
 by_cases h:errW l=0
 ·have H:=zh h
  have HC:Hid (outW l=valW l):=by show _=_;rw[outW,if_pos h]
  clear h
  go_enter_defers Tryz.func148,Tryz.ntmps148
  go_wp2_with fail
  refine (yt l hl _ HM.out H.out).mono ?_
  rintro e w2 ⟨rfl,hb⟩
  have ac:Below (w.heap.size+1) (w.alloc (.cells #[.int .i64 0] 32)) w2:=by simpa using hb
  obtain⟨aa,ab⟩:=bK w w2 _ _ ac
  have ae:=zh ac
  clear hb ac
  go_wp2_with fail
  refine leaves_cons (f:=183) (args:=#[.pointer (some ⟨w.heap.size,0,none⟩)]) (by simp) (by simp[go_sem]) ?_
  refine (vs ⟨w.heap.size,0,none⟩ 0 _ ?_ ?_).mono ?_
  ·simp[go_sem,aa]
  ·simp[go_sem,ab]
  rintro e u' w3 ⟨rfl,rfl,rfl⟩
  simp[Leaves,settle,results,Tryz.results148,go_sem,aa]
  exact⟨⟨by rw[HC.out],H.out.symm⟩,((bE ae.out).setCell (Nat.le_refl _) _).setCell (Nat.le_refl _) _⟩
 ·have H:=zh h
  have HC:Hid (outW l=0):=by show _=_;rw[outW,if_neg h]
  clear h
  go_enter_defers Tryz.func148,Tryz.ntmps148
  go_wp2_with fail
  refine (aay l hl _ HM.out H.out).mono ?_
  rintro e w1 ⟨rfl,hb⟩
  have ad:Below (w.heap.size+1) (w.alloc (.cells #[.int .i64 0] 32)) w1:=by simpa using hb
  obtain⟨aa,ab⟩:=bK w w1 _ _ ad
  have HB:=zh ad
  clear hb ad
  go_wp2_with fail
  refine leaves_cons (f:=183) (args:=#[.pointer (some ⟨w.heap.size,0,none⟩)]) (by simp) (by simp[go_sem]) ?_
  refine (tE ⟨w.heap.size,0,none⟩ 0 _ _ ?_ ?_).mono ?_
  ·simp[go_sem,aa]
  ·simp[go_sem,ab]
  rintro e u' w2 ⟨rfl,rfl,rfl⟩
  simp[Leaves,settle,results,Tryz.results148,go_sem,aa]
  exact⟨by rw[HC.out],(bE HB.out).setCell (Nat.le_refl _) _⟩
end
end Go.Proofs.YtkaeamjnphaadaaGreatDoor
