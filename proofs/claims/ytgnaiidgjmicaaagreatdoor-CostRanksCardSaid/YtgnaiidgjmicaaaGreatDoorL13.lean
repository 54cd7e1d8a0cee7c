/- Part 13 of what the laws lean on. -/
import Derived.Test.YtgnaiidgjmicaaaGreatDoorL12
import Derived.Lib.AppendIntMem
import Derived.Lib.ItoaLen
set_option maxRecDepth 100000
set_option maxHeartbeats 4000000
namespace Go.Proofs.YtgnaiidgjmicaaaGreatDoor
section
open Go.RowKit
def cmpW (a b:Nat):Int:=Vm.sgn (Wm.placeN a) (Wm.placeN b)
theorem rR:Wm.sk 0=0:=rfl
theorem o3:Wm.nan 0=false:=rfl
theorem zA (b:Nat)(hb:b<Wm.W):(FloatKind.f64.format.order b 0==some .lt)=(!Wm.nan b&&decide (Wm.sk b<0)):=by
 rw[Wm.uY b 0 hb (by decide),o3,rR];simp
def Fin (r:Nat):Prop:=0<r/\r<9218868437227405312
theorem bY {r:Nat}(h:Fin r)(n:Bool):Wm.word n r<Wm.W/\Wm.nan (Wm.word n r)=false/\Wm.sk (Wm.word n r)≠0/\Wm.sk (Wm.word n r)<9218868437227405312/\-9218868437227405312<Wm.sk (Wm.word n r):=by
 obtain⟨h1,h2⟩:=h
 obtain⟨a1,a2,a3⟩:=Wm.br n (r:=r) (by omega)
 refine⟨a3,?_,?_⟩
 ·unfold Wm.nan;rw[a1];exact decide_eq_false (by omega)
 ·unfold Wm.sk;rw[a1,a2];cases n <;> simp <;> omega
theorem tl (b:Nat)(hb:b<Wm.W)(w:World) :
  Calls Tryz.prog 282 #[.float .f64 b] w fun e w'=>e=.returned (.bool (Wm.nan b))/\w=w':=by
 have H:=Wm.oY b hb
 go_enter Tryz.func282,Tryz.ntmps282
 go_wp2_with fail
 go_ret
 exact⟨rfl,rfl⟩
theorem fin_pos {r:Nat}(h:Fin r):r<Wm.W/\Wm.nan r=false/\Wm.sk r=r:=by
 obtain⟨h1,h2⟩:=h
 obtain⟨a1,a2,a3⟩:=Wm.br false (r:=r) (by omega)
 refine⟨a3,?_,?_⟩
 ·unfold Wm.nan;rw[show Wm.rung r=r from a1];exact decide_eq_false (by omega)
 ·unfold Wm.sk;rw[show Wm.neg r=false from a2,show Wm.rung r=r from a1];rfl
theorem jE (n:Bool){r:Nat}(h:Fin r)(w:World) :
  Calls Tryz.prog 302 #[.float .f64 (Wm.word n r)] w fun e w'=>e=.returned (.float .f64 r)/\w=w':=by
 have h2:=h.2
 obtain⟨a1,a2,a3⟩:=Wm.br n (r:=r) (by omega)
 have:=zx (Wm.word n r) a3 w
 rwa [a1] at this
theorem xJ (n:Bool)(r:Nat)(h:Fin r)(w:World) :
  Calls Tryz.prog 281 #[.float .f64 (Wm.word n r),.int .i64 0] w fun e w'=>e=.returned (.bool false)/\w=w':=by
 obtain⟨g1,g2,g3⟩:=fin_pos h
 have h2:=h.2
 have o1:=Wm.aar r 9218868437227405311 g1 (by decide)
 rw[g2,g3,show Wm.sk 9218868437227405311=9218868437227405311 from rfl,decide_eq_false (by omega)] at o1
 simp only[Bool.and_false] at o1
 clear g1 g2 g3 h2
 go_enter Tryz.func281,Tryz.ntmps281
 go_wp2_with fail
 refine (jE n h _).mono ?_
 rintro e w' ⟨rfl,rfl⟩
 go_wp2_with fail
 go_ret
 exact⟨rfl,rfl⟩
theorem lP (x y r:Nat)(h:Ieee.double.mul x y=some r)(W:World):(binOp .mul 58 (.float .f64 x) (.float .f64 y)).run Tryz.prog W=.ok (.float .f64 r) W :=
 run_float_arith W .mul _ .f64 x y r h
def nrmX (r:Nat):Int:=if r<4503599627370496 then -52 else 0
theorem nw (n:Bool)(r:Nat)(h:Fin r)(w:World) :
  Calls Tryz.prog 283 #[.float .f64 (Wm.word n r)] w fun e w'=>e=.returned (.tuple #[.float .f64 (Wm.word n (Wm.nrm r)),.int .i64 (nrmX r)])/\w=w':=by
 obtain⟨g1,g2,g3⟩:=fin_pos h
 have o1:=Wm.uY r 4503599627370496 g1 (by decide)
 rw[g2,g3,show Wm.nan 4503599627370496=false from rfl,show Wm.sk 4503599627370496=4503599627370496 from rfl] at o1
 clear g1 g2 g3
 by_cases hr:r<4503599627370496
 ·rw[decide_eq_true (by omega)] at o1
  simp only[Bool.not_false,Bool.and_true] at o1
  have hm:=lP _ _ _ (Wm.zq n h.1 hr)
  have HX:Hid (nrmX r = -52):=by show _=_;rw[nrmX,if_pos hr]
  clear hr
  go_enter Tryz.func283,Tryz.ntmps283
  go_wp2_with fail
  refine (jE n h _).mono ?_
  rintro e w' ⟨rfl,rfl⟩
  go_wp2_with fail
  go_ret2
  exact⟨by rw[HX.out];rfl,rfl⟩
 ·rw[decide_eq_false (by omega)] at o1
  simp only[Bool.not_false,Bool.and_false] at o1
  have HX:Hid (nrmX r=0/\Wm.nrm r=r):=by show _/\_;rw[nrmX,if_neg hr,Wm.nrm,if_neg hr];exact⟨rfl,rfl⟩
  clear hr
  go_enter Tryz.func283,Tryz.ntmps283
  go_wp2_with fail
  refine (jE n h _).mono ?_
  rintro e w' ⟨rfl,rfl⟩
  go_wp2_with fail
  go_ret2
  exact⟨by rw[HX.out.1,HX.out.2];rfl,rfl⟩
theorem zB (n:Bool){r:Nat}(h:Fin r):(FloatKind.f64.format.order (Wm.word n r) 0==some .eq)=false:=by
 obtain⟨g1,g2,g3,_⟩:=bY h n
 rw[Wm.aaq _ 0 g1 (by decide),g2,o3,rR,decide_eq_false g3];rfl
theorem iz (b c:Nat)(hb:b<Wm.W)(hc:c<Wm.W)(w:World) :
  Calls Tryz.prog 285 #[.float .f64 b,.float .f64 c] w fun e w'=>e=.returned (.float .f64 (Wm.word (Wm.neg c) (Wm.rung b)))/\w=w':=by
 have ab:=kx
 have aa:=iu
 have e1:=Wm.absB b hb
 have e2:=Wm.sgnB c hc
 have e3:=Wm.signB (Wm.rung b) (Wm.fI b)
 have e4:bits .or .u64 (Wm.rung b:Int) 0=(Wm.rung b:Int):=by
  have h:=u64_or_nat (Wm.rung b) 0 (by have:=Wm.fI b;omega) (by decide)
  rw[Nat.or_zero] at h
  exact h
 have HW:Hid (∀ g r,Wm.word g r=if g then 9223372036854775808+r else r):=fun _ _=>rfl
 cases hg:Wm.neg c
 all_goals
  rw[hg] at e2
  go_enter Tryz.func285,Tryz.ntmps285
  go_wp2_with fail
  go_ret
  exact⟨by rw[HW.out];rfl,rfl⟩
theorem xK (n:Bool)(r:Nat)(e:Int)(h:Fin r)(hr:4503599627370496<=r)(he:-100000<=e/\e<=100000)(w:World) :
  Calls Tryz.prog 259 #[.float .f64 (Wm.word n r),.int .i64 e] w fun e' w'=>e'=.returned (.float .f64 (Wm.ldx n r e))/\w=w':=by
 have o1:=zB n h
 have h2:=h.2
 have ad:=kx
 have ac:=iu
 have e1:=Wm.expI n r (by omega)
 have e2:=Wm.clearB n r (by omega)
 have hq:r / 4503599627370496<2048:=by omega
 have aa:Wm.nrm r=r/\nrmX r=0:=by unfold Wm.nrm nrmX;rw[if_neg (by omega),if_neg (by omega)];exact⟨rfl,rfl⟩
 have HL:Hid (Wm.ldx n r e=if Wm.ldE r e < -1075 then Wm.word n 0 else if 1023<Wm.ldE r e then Wm.word n 9218868437227405312
  else if Wm.ldE r e < -1022 then Wm.deno n ((Wm.ldE r e+1076).toNat*4503599627370496+r % 4503599627370496)
  else Wm.word n ((Wm.ldE r e+1023).toNat*4503599627370496+r % 4503599627370496)):=rfl
 have HE:Hid (Wm.ldE r e=(r / 4503599627370496:Nat)-1023+e):=rfl
 have ab:r % 4503599627370496<4503599627370496:=by omega
 have ae:0<=(Wm.word n r:Int) / 4503599627370496:=by omega
 have af:(Wm.word n r:Int) / 4503599627370496<=4095:=by have:=(bY h n).1;unfold Wm.W at this;omega
 go_enter Tryz.func259,Tryz.ntmps259
 go_wp2_with fail
 refine (xJ n r h _).mono ?_
 rintro e' w' ⟨rfl,rfl⟩
 go_wp2_with fail
 refine (tl _ (bY h n).1 _).mono ?_
 rintro e' w' ⟨rfl,rfl⟩
 rw[(bY h n).2.1]
 go_wp2_with fail
 refine (nw n r h _).mono ?_
 rintro e' w' ⟨rfl,rfl⟩
 rw[aa.1,aa.2]
 clear aa hr h2
 generalize r / 4503599627370496=q at *
 by_cases c1:(q:Int)-1023+e < -1075
 ·have HV:Hid (Wm.ldx n r e=Wm.word n 0):=by show _=_;rw[HL.out,if_pos (by rw[HE.out];exact c1)]
  clear HL HE
  go_wp2_with fail
  refine (iz 0 (Wm.word n r) (by decide) (bY h n).1 _).mono ?_
  rintro e' w' ⟨rfl,rfl⟩
  rw[(Wm.br n (r:=r) (by have:=h.2;omega)).2.1]
  go_wp2_with fail
  go_ret
  exact⟨by rw[HV.out];rfl,rfl⟩
 ·by_cases c2:1023<(q:Int)-1023+e
  ·have HV:Hid (Wm.ldx n r e=Wm.word n 9218868437227405312):=by show _=_;rw[HL.out,if_neg (by rw[HE.out];exact c1),if_pos (by rw[HE.out];exact c2)]
   clear HL HE
   have o2:=zA _ (bY h n).1
   rw[(bY h n).2.1] at o2
   have hs:decide (Wm.sk (Wm.word n r)<0)=n:=by
    obtain⟨a1,a2,a3⟩:=Wm.br n (r:=r) (by have:=h.2;omega)
    have:=h.1
    unfold Wm.sk;rw[a1,a2];cases n <;> simp <;> omega
   rw[hs] at o2
   clear hs
   cases n
   all_goals
    simp only[Bool.not_false,Bool.true_and] at o2
    go_wp2_with fail
    refine (lN _ _).mono ?_
    rintro e' w' ⟨rfl,rfl⟩
    go_wp2_with fail
    go_ret
    exact⟨by rw[HV.out];rfl,rfl⟩
  ·by_cases c3:(q:Int)-1023+e < -1022
   ·have HV:Hid (Wm.ldx n r e=Wm.deno n ((Wm.ldE r e+1076).toNat*4503599627370496+r % 4503599627370496)):=by show _=_;rw[HL.out,if_neg (by rw[HE.out];exact c1),if_neg (by rw[HE.out];exact c2),if_pos (by rw[HE.out];exact c3)]
    clear HL
    obtain⟨p,hp⟩:∃ p:Nat,(q:Int)-1023+e+1076=p:=⟨((q:Int)-1023+e+1076).toNat,by omega⟩
    have HP:Hid ((Wm.ldE r e+1076).toNat=p):=by show _=_;rw[HE.out];omega
    rw[HP.out] at HV
    have e3:bits .or .u64 (Wm.word n (r % 4503599627370496):Nat) ((e+((q:Int)-1023)+53+1023)*4503599627370496)=(Wm.word n (p*4503599627370496+r % 4503599627370496):Nat):=by
     rw[show (e+((q:Int)-1023)+53+1023)*4503599627370496=((p*4503599627370496:Nat):Int) from by omega]
     exact Wm.setB n p _ (by omega) ab
    have hm:=lP _ _ _ (Wm.xB n (r:=p*4503599627370496+r % 4503599627370496) (by omega)).1
    clear HP HE hp
    go_wp2_with fail
    go_ret
    exact⟨by rw[HV.out];rfl,rfl⟩
   ·have HV:Hid (Wm.ldx n r e=Wm.word n ((Wm.ldE r e+1023).toNat*4503599627370496+r % 4503599627370496)):=by show _=_;rw[HL.out,if_neg (by rw[HE.out];exact c1),if_neg (by rw[HE.out];exact c2),if_neg (by rw[HE.out];exact c3)]
    clear HL
    obtain⟨p,hp⟩:∃ p:Nat,(q:Int)-1023+e+1023=p:=⟨((q:Int)-1023+e+1023).toNat,by omega⟩
    have HP:Hid ((Wm.ldE r e+1023).toNat=p):=by show _=_;rw[HE.out];omega
    rw[HP.out] at HV
    have e3:bits .or .u64 (Wm.word n (r % 4503599627370496):Nat) ((e+((q:Int)-1023)+1023)*4503599627370496)=(Wm.word n (p*4503599627370496+r % 4503599627370496):Nat):=by
     rw[show (e+((q:Int)-1023)+1023)*4503599627370496=((p*4503599627370496:Nat):Int) from by omega]
     exact Wm.setB n p _ (by omega) ab
    have hm:=lP _ _ _ (Wm.mul_one n (r:=p*4503599627370496+r % 4503599627370496) (by omega) (by omega))
    clear HP HE hp
    go_wp2_with fail
    go_ret
    exact⟨by rw[HV.out];rfl,rfl⟩
theorem ve (n:Bool)(r:Nat)(e:Int)(h:Fin r)(hr:4503599627370496<=r)(he:-100000<=e/\e<=100000)(w:World) :
  Calls Tryz.prog 221 #[.float .f64 (Wm.word n r),.int .i64 e] w fun e' w'=>e'=.returned (.float .f64 (Wm.ldx n r e))/\w=w':=by
 go_enter Tryz.func221,Tryz.ntmps221
 go_wp2_with fail
 refine (xK n r e h hr he _).mono ?_
 rintro e' w' ⟨rfl,rfl⟩
 go_wp2_with fail
 go_ret
 exact⟨rfl,rfl⟩
end
namespace Wm
open Go.Lib
theorem xL (l:List UInt8)(c:UInt8):Vm.num (l++[c])=10*Vm.num l+(c.toNat-48):=by
 unfold Vm.num;rw[List.foldl_append];rfl
theorem lQ (c:UInt8):Vm.dig c=true↔48<=c.toNat/\c.toNat<=57:=by unfold Vm.dig;simp
def plain (l:List UInt8):Prop:=l≠[]/\l.all Vm.dig=true/\(l.head? = some 48->l=[48])
theorem xM (l:List UInt8)(h:l≠[]):Vm.num l % 2=((l.getLast h).toNat-48) % 2:=by
 obtain⟨m,c,rfl⟩:∃ m c,l=m++[c]:=⟨l.dropLast,l.getLast h,(List.dropLast_concat_getLast h).symm⟩
 rw[xL,List.getLast_concat];omega
theorem fJ:∀ (l:List UInt8) (acc:Nat),l.all Vm.dig=true->acc<=18446744073709551615 ->
  parseUintM 18446744073709551615 acc l=if l.foldl (fun n c=>10*n+(c.toNat-48)) acc<=18446744073709551615 then .ok (l.foldl (fun n c=>10*n+(c.toNat-48)) acc) else .range
 | [],acc,_,h=>by simp[parseUintM,h]
 | c :: l,acc,h,ha=>by
  simp only[List.all_cons,Bool.and_eq_true] at h
  have hc:=(lQ c).1 h.1
  have mono:∀ (l:List UInt8) (a:Nat),a<=l.foldl (fun n c=>10*n+(c.toNat-48)) a:=fun l=>by
   induction l with
   | nil=>intro a;exact Nat.le_refl _
   | cons c l ih=>intro a;rw[List.foldl_cons];exact Nat.le_trans (by omega) (ih _)
  have hm:=mono l (10*acc+(c.toNat-48))
  rw[List.foldl_cons]
  unfold parseUintM
  rw[if_pos hc,show acc*10+(c.toNat-48)=10*acc+(c.toNat-48) from by omega]
  by_cases c1:10*acc+(c.toNat-48)<=18446744073709551615
  ·rw[if_neg (by omega),if_neg (by omega)]
   exact fJ l _ h.2 c1
  ·rw[if_neg (show ¬ l.foldl (fun n c=>10*n+(c.toNat-48)) (10*acc+(c.toNat-48))<=18446744073709551615 by omega)]
   split
   ·rfl
   ·rw[if_pos (by omega)]
def sgnd (l:List UInt8):Bool:=l.head? == some 45
def mgn (l:List UInt8):List UInt8:=if sgnd l then l.drop 1 else l
def decOk (l:List UInt8):Prop:=plain (mgn l)/\(mgn l=[48]->sgnd l=false)
def nmb (l:List UInt8):Int :=
 if sgnd l then (if Vm.num (mgn l)<=9223372036854775808 then -(Vm.num (mgn l):Int) else -9223372036854775808)
 else (if Vm.num (mgn l)<9223372036854775808 then (Vm.num (mgn l):Int) else 9223372036854775807)
theorem vf (l:List UInt8)(h:plain (mgn l)):parseIntB 64 l=.ok (nmb l)\/(parseIntB 64 l=.range/\intSat 64 l=nmb l):=by
 obtain⟨h1,h2,_⟩:=h
 have hu:=fJ (mgn l) 0 h2 (by omega)
 have hB:parseUintB 64 (mgn l)=if Vm.num (mgn l)<=18446744073709551615 then .ok (Vm.num (mgn l)) else .range:=by
  unfold parseUintB;rw[if_neg h1];exact hu
 clear hu
 unfold nmb
 cases l with
 | nil=>exact absurd rfl h1
 | cons c r =>
  have aa:(45:UInt8).toNat=45:=rfl
  by_cases hc:c=45
  ·have hs:sgnd (c :: r)=true:=by unfold sgnd;rw[hc];rfl
   have hm:mgn (c :: r)=r:=by unfold mgn;rw[hs];rfl
   rw[hm] at hB ⊢
   rw[hs]
   unfold parseIntB intSat
   subst hc
   simp only[aa,or_true,if_true,hB]
   by_cases g1:Vm.num r<=18446744073709551615
   ·simp only[if_pos g1]
    by_cases g2:Vm.num r<=9223372036854775808
    ·left
     rw[if_neg (by simp),if_neg (by simp;omega)]
     simp[g2]
    ·right
     rw[if_neg (by simp),if_pos (by simp;omega)]
     simp[g2]
   ·right
    simp only[if_neg g1]
    simp;omega
  ·have hs:sgnd (c :: r)=false:=by unfold sgnd;simp[hc]
   have hm:mgn (c :: r)=c :: r:=by unfold mgn;rw[hs];rfl
   rw[hm] at hB h2 ⊢
   rw[hs]
   have hd:Vm.dig c=true:=by simp only[List.all_cons,Bool.and_eq_true] at h2;exact h2.1
   rw[lQ] at hd
   unfold parseIntB intSat
   simp only[List.head?_cons,Option.map_some,Option.some.injEq]
   rw[if_neg (show ¬ (c.toNat=43\/c.toNat=45) by omega),hB,if_neg (show ¬ c.toNat=45 by omega)]
   by_cases g1:Vm.num (c :: r)<=18446744073709551615
   ·simp only[if_pos g1]
    by_cases g2:Vm.num (c :: r)<9223372036854775808
    ·left
     rw[if_neg (by simp;omega),if_neg (by simp;omega),if_neg (show ¬ c.toNat=45 by omega)]
     simp[g2]
    ·right
     rw[if_pos (by simp;omega)]
     simp[g2]
   ·right
    simp only[if_neg g1]
    simp;omega
theorem aat (l:List UInt8):Lib.trimPrefix l [45]=mgn l:=by
 unfold Lib.trimPrefix mgn sgnd Lib.hasPrefix
 cases l with
 | nil=>rfl
 | cons c t =>
  by_cases hc:c=45
  ·subst hc;rfl
  ·have h1:(List.isPrefixOf [45] (c :: t))=false:=by simp[List.isPrefixOf];exact fun h=>hc h.symm
   rw[h1];simp[hc]
theorem aau (l:List UInt8):(mgn l).length<=l.length:=by
 unfold mgn;split
 ·rw[List.length_drop];omega
 ·exact Nat.le_refl _
def decB (l:List UInt8):Bool:=if (mgn l).isEmpty||(mgn l).head? == some 48 then l==[48] else (Vm.undigs (mgn l)).isEmpty
theorem kB (l:List UInt8):(Vm.undigs l).isEmpty=true↔l.all Vm.dig=true:=by
 unfold Vm.undigs
 induction l with
 | nil=>simp
 | cons c t ih =>
  rw[List.dropWhile_cons,List.all_cons]
  cases hc:Vm.dig c
  ·simp
  ·simp only[if_true,Bool.true_and];exact ih
theorem jF (l:List UInt8):decB l=true↔decOk l:=by
 unfold decB decOk plain
 constructor
 ·intro h
  split at h
  ·have:l=[48]:=by simpa using h
   subst this
   refine⟨⟨by decide,by decide,fun _=>rfl⟩,fun _=>rfl⟩
  ·rename_i h2
   simp only[Bool.or_eq_true,List.isEmpty_iff,beq_iff_eq,not_or] at h2
   refine⟨⟨h2.1,(kB _).1 h,fun h3=>absurd h3 h2.2⟩,fun h3=>absurd (by rw[h3];rfl) h2.2⟩
 ·rintro⟨⟨h1,h2,h3⟩,h4⟩
  split
  ·rename_i h5
   simp only[Bool.or_eq_true,List.isEmpty_iff,beq_iff_eq] at h5
   rcases h5 with h5 | h5
   ·exact absurd h5 h1
   ·have h6:=h3 h5
    have h7:=h4 h6
    have:mgn l=l:=by unfold mgn;rw[h7];rfl
    rw[this] at h6
    rw[h6];rfl
  ·exact (kB _).2 h2
end Wm
section
open Go.RowKit
namespace Wm
def sg (n:Bool) (k:Nat):Int:=(if n then -1 else 1)*(k:Int)
def signed (n:Bool) (l:List UInt8):List UInt8:=if n then 45 :: l else l
end Wm
def KOk (w:World):Prop := MaxOk w/\Lib.TabIs Tryz.prog w "internal/strconv.uint64pow10" .u64 Lib.pow10Tab/\Lib.TabIs Tryz.prog w "math/bits.deBruijn64tab" .u8 (Lib.deBruijn64tab.map Int.ofNat)/\∃ tp p, w.var? Tryz.prog "strconv.ErrRange" = some #[.iface tp p]
theorem o4 {w:World}{n:String}{g:Nat}{cs:Array Value}(hg:Tryz.prog.globalNamed n=some g)(h:w.var? Tryz.prog n=some cs):g<w.heap.size:=by
 unfold World.var? at h
 simp only[hg,Option.bind_some] at h
 rcases Nat.lt_or_ge g w.heap.size with h1 | h1
 ·exact h1
 ·simp[Array.getElem?_eq_none h1] at h
theorem aY {w w':World}(h:KOk w)(hb:Below w.heap.size w w'):KOk w':=by
 obtain⟨h1,h2,h3,tp,p,h4⟩:=h
 have g2:Tryz.prog.globalNamed "internal/strconv.uint64pow10" = some 3 := by kernel_rfl
 have g3:Tryz.prog.globalNamed "math/bits.deBruijn64tab" = some 2 := by kernel_rfl
 have g4:Tryz.prog.globalNamed "strconv.ErrRange" = some 8 := by kernel_rfl
 exact⟨ab h1 hb,var?_below hb g2 (o4 g2 h2) h2,var?_below hb g3 (o4 g3 h3) h3,tp,p,var?_below hb g4 (o4 g4 h4) h4⟩
end
section
open Go.RowKit
def lastOdd (l:List UInt8):Bool:=(((l.getLast?.getD 0).toNat:Int)-48) % 2==1
theorem vg (l:List UInt8)(h:l≠[])(hl:l.length<=1000)(w:World) :
  Calls Tryz.prog 328 #[.string ⟨l.toArray⟩] w fun e w'=>e=.returned (.bool (lastOdd l))/\w=w':=by
 have ab:0<l.length:=List.length_pos_iff.2 h
 obtain⟨c,hc,aa⟩:=byte_at l (l.length-1) (by omega)
 have HL:Hid (lastOdd l=(((c.toNat:Int)-48) % 2==1)):=by
  show _=_
  rw[lastOdd,List.getLast?_eq_some_getLast h,List.getLast_eq_getElem,aa];rfl
 clear aa
 go_enter Tryz.func328,Tryz.ntmps328
 go_wp2_with fail
 go_ret
 exact⟨by rw[HL.out];rfl,rfl⟩
theorem gL (l:List UInt8)(_hl:l.length<=1000)(w:World) :
  Calls Tryz.prog 327 #[.string ⟨l.toArray⟩] w fun e w'=>e=.returned (.bool (Wm.decB l))/\Below w.heap.size w w':=by
 have HB:Hid (Wm.decB l=if (Wm.mgn l).isEmpty||(Wm.mgn l).head? == some 48 then l==[48] else (Vm.undigs (Wm.mgn l)).isEmpty):=rfl
 have hd:=Wm.aau l
 go_enter Tryz.func327,Tryz.ntmps327
 go_wp2_with fail
 refine (Tryz.strings_TrimPrefix _ _ _).mono ?_
 rintro e w' ⟨g1,g2⟩;subst g1 g2
 rw[show Lib.trimPrefix (ByteArray.data ⟨l.toArray⟩).toList (ByteArray.data ⟨#[45]⟩).toList=Wm.mgn l from Wm.aat l]
 generalize Wm.mgn l=d at *
 by_cases h0:d=[]
 ·subst h0
  have HV:Hid (Wm.decB l=(l==[48])):=by show _=_;rw[HB.out];rfl
  clear HB
  go_wp2_with fail
  go_ret
  exact⟨by rw[HV.out];rfl,Below.refl _ _⟩
 ·have aa:0<d.length:=List.length_pos_iff.2 h0
  have he:d.isEmpty=false:=by cases d <;> simp at *
  obtain⟨c,hc,ac⟩:=byte_at d 0 aa
  have hh:(d.head? == some 48)=((c.toNat:Int)==48):=by
   cases d with
   | nil=>exact absurd rfl h0
   | cons x t =>
    have:x=c:=ac
    subst this
    rw[Bool.eq_iff_iff]
    simp only[List.head?_cons,beq_iff_eq,Option.some.injEq]
    exact⟨fun h=>by rw[h];rfl,fun h=>UInt8.toNat.inj (show x.toNat=48 by omega)⟩
  rw[he,hh,Bool.false_or] at HB
  clear ac hh h0
  cases ab:((c.toNat:Int)==48)
  ·have HV:Hid (Wm.decB l=(Vm.undigs d).isEmpty):=by show _=_;rw[HB.out,ab];rfl
   clear HB
   go_wp2_with fail
   refine (fA d _).mono ?_
   rintro e w1 ⟨g1,g2⟩;subst g1
   obtain⟨u,hu⟩:=ex (Vm.undigs d)
   rw[hu] at HV
   rw[hu]
   have HD:=zh g2
   clear hu g2
   go_wp2_with fail
   go_ret
   exact⟨by rw[HV.out];rfl,HD.out⟩
  ·have HV:Hid (Wm.decB l=(l==[48])):=by show _=_;rw[HB.out,ab];rfl
   clear HB
   go_wp2_with fail
   go_ret
   exact⟨by rw[HV.out];rfl,Below.refl _ _⟩
theorem kC (l:List UInt8)(hl:l.length<=1000)(hp:Wm.plain (Wm.mgn l))(w:World)(hk:KOk w) :
  Calls Tryz.prog 329 #[.string ⟨l.toArray⟩] w fun e w'=>e=.returned (.int .i64 (Wm.nmb l))/\Below w.heap.size w w':=by
 obtain⟨tp,p,hv⟩:=hk.2.2.2
 have aa:=Wm.vf l hp
 generalize Wm.nmb l=v at *
 rcases aa with h1 | ⟨h1,h2⟩
 ·go_enter Tryz.func329,Tryz.ntmps329
  go_wp2_with fail
  refine (Tryz.strconv_ParseInt_10_at64_ok ⟨l.toArray⟩ (by show l.toArray.size<=_;simp;omega) v h1 _).mono ?_
  rintro e w1 ⟨g1,g2⟩;subst g1
  go_wp2_with fail
  go_ret
  refine⟨rfl,?_⟩
  rcases g2 with rfl | ⟨t,rfl⟩
  ·exact Below.refl _ _
  ·exact Lib.bytesWorld_below _ _ _
 ·go_enter Tryz.func329,Tryz.ntmps329
  go_wp2_with fail
  refine (Tryz.strconv_ParseInt_10_at64_range_var ⟨l.toArray⟩ (by show l.toArray.size<=_;simp;omega) h1 tp p _ hv).mono ?_
  rintro e w1 ⟨N,g1,g2,g3,g4⟩;subst g1
  rw[show Lib.intSat 64 (ByteArray.data ⟨l.toArray⟩).toList=v from h2]
  go_wp2_with fail
  go_ret
  exact⟨rfl,g4⟩
end
section
open Go.RowKit
namespace Wm
theorem tm {k:Nat}(h:0<k)(h2:k<2 ^ 53):Lib.bitLen k=k.log2+1:=by
 obtain⟨b1,b2,b3⟩:=Lib.bitLenAux_bounds 64 k (by omega) (by omega)
 unfold Lib.bitLen
 generalize Lib.bitLenAux 64 k=m at *
 have:=lL (l:=m-1) b2 (by rwa [show m-1+1=m from by omega])
 omega
def rangeOk (F P:Int):Bool:=decide (-9007199254740992<F)&&(decide (F<9007199254740992)&&(decide (-1074<=P)&&decide (P<=1024-((F.natAbs.log2+1:Nat):Int))))
theorem kD {F P:Int}(h:F<=-9007199254740992):rangeOk F P=false:=by
 have:¬ -9007199254740992<F:=by omega
 simp[rangeOk,this]
theorem kE {F P:Int}(h:9007199254740992<=F):rangeOk F P=false:=by
 have:¬ F<9007199254740992:=by omega
 simp[rangeOk,this]
theorem je {F P:Int}(h:-9007199254740992<F)(h2:F<9007199254740992):rangeOk F P=(decide (-1074<=P)&&decide (P<=1024-((F.natAbs.log2+1:Nat):Int))):=by
 simp[rangeOk,h,h2]
def prodVal (F P:Int):Nat:=word (decide (F<0)) (rungOf F.natAbs P)
end Wm
def formOk (l:List UInt8):Bool:=Vm.has 112 l&&(Wm.decB (Vm.fst 112 l)&&(Wm.decB (Vm.snd 112 l)&&lastOdd (Vm.fst 112 l)))
def prodErr (l:List UInt8):Int:=if formOk l then (if Wm.rangeOk (Wm.nmb (Vm.fst 112 l)) (Wm.nmb (Vm.snd 112 l)) then 0 else 8) else 2
def prodOf (l:List UInt8):Nat:=if prodErr l=0 then Wm.prodVal (Wm.nmb (Vm.fst 112 l)) (Wm.nmb (Vm.snd 112 l)) else 0
def prodEnd (l:List UInt8):Ending:=if prodErr l=0 then .returned (.float .f64 (prodOf l)) else pan (prodErr l)
theorem vh (l:List UInt8)(hd:Wm.decB l=true)(ho:lastOdd l=true):Wm.nmb l % 2=1\/Wm.nmb l = -9223372036854775808:=by
 obtain⟨⟨h1,h2,_⟩,_⟩:=(Wm.jF l).1 hd
 have hm:Wm.mgn l=l\/Wm.mgn l=l.drop 1:=by unfold Wm.mgn;split <;> simp
 have aa:l.getLast? = (Wm.mgn l).getLast?:=by
  rcases hm with h | h
  ·rw[h]
  ·rw[h] at h1 ⊢
   cases l with
   | nil=>rfl
   | cons c t =>
    cases t with
    | nil=>exact absurd rfl h1
    | cons d t=>rfl
 have e:=Wm.xM (Wm.mgn l) h1
 unfold lastOdd at ho
 rw[aa,List.getLast?_eq_some_getLast h1] at ho
 have ab:Vm.dig ((Wm.mgn l).getLast h1)=true:=by rw[List.all_eq_true] at h2;exact h2 _ (List.getLast_mem h1)
 rw[Wm.lQ] at ab
 have ac:((((Wm.mgn l).getLast h1).toNat:Int)-48) % 2=1:=by simpa using ho
 unfold Wm.nmb
 split <;> split <;> omega
theorem kF (l:List UInt8):-9223372036854775808<=Wm.nmb l/\Wm.nmb l<=9223372036854775807:=by
 unfold Wm.nmb;split <;> split <;> omega
theorem zC (l:List UInt8)(c:UInt8):(Vm.fst c l).length<=l.length/\(Vm.snd c l).length<=l.length:=⟨oj l c,ow c l⟩
theorem jG (l:List UInt8)(hl:l.length<=1000)(w:World)(hk:KOk w) :
  Calls Tryz.prog 314 #[.string ⟨l.toArray⟩] w fun e w'=>e=prodEnd l/\Below w.heap.size w w':=by
 have HE:Hid (prodEnd l=if prodErr l=0 then .returned (.float .f64 (prodOf l)) else pan (prodErr l)):=rfl
 have HO:Hid (prodOf l=if prodErr l=0 then Wm.prodVal (Wm.nmb (Vm.fst 112 l)) (Wm.nmb (Vm.snd 112 l)) else 0):=rfl
 have HR:Hid (prodErr l=if formOk l then (if Wm.rangeOk (Wm.nmb (Vm.fst 112 l)) (Wm.nmb (Vm.snd 112 l)) then 0 else 8) else 2):=rfl
 have HF:Hid (formOk l=(Vm.has 112 l&&(Wm.decB (Vm.fst 112 l)&&(Wm.decB (Vm.snd 112 l)&&lastOdd (Vm.fst 112 l))))):=rfl
 have ad:formOk l=false->prodEnd l=pan 2:=fun h=>by rw[HE.out,HR.out,h];rfl
 have HB:=zh ad
 clear ad
 obtain⟨la,lb⟩:=zC l 112
 cases hh:Vm.has 112 l
 ·have HV:Hid (prodEnd l=pan 2):=HB.out (by rw[HF.out,hh];rfl)
  go_enter Tryz.func314,Tryz.ntmps314
  go_wp2_with fail
  refine (kd l 112 _ hk.1 (by omega) hh).mono ?_
  rintro e w1 ⟨g1,g2⟩;subst g1
  have HD:Hid (Below w.heap.size w w1):=by obtain⟨n,rfl⟩:=g2;exact below_drewN (Below.refl _ _) n
  clear g2 hh
  go_wp2_with fail
  refine (ai _).mono ?_
  rintro e w2 ⟨g1,g2⟩;subst g2;subst g1
  go_wp2_with fail
  exact⟨rfl,HV.out.symm,HD.out⟩
 ·have hcut:=fun W h=>iN l 112 W h (by omega) hh
  rw[hh] at HF
  generalize Vm.fst 112 l=bf at *
  generalize Vm.snd 112 l=af at *
  clear hh
  go_enter Tryz.func314,Tryz.ntmps314
  go_wp2_with fail
  refine (hcut _ hk.1).mono ?_
  rintro e w1 ⟨g1,g2⟩;subst g1
  have HD:Hid (Below w.heap.size w w1):=by obtain⟨n,rfl⟩:=g2;exact below_drewN (Below.refl _ _) n
  have ar:=aY hk HD.out
  clear g2 hk hcut
  go_wp2_with fail
  refine (gL bf (by omega) _).mono ?_
  rintro e w2 ⟨g1,g2⟩;subst g1
  have al:=zh (bt HD.out g2)
  have au:=aY ar g2
  clear g2 ar HD
  cases ab:Wm.decB bf
  ·have HV:Hid (prodEnd l=pan 2):=HB.out (by rw[HF.out,ab];rfl)
   clear ab
   go_wp2_with fail
   refine (ai _).mono ?_
   rintro e w3 ⟨g1,g2⟩;subst g2;subst g1
   go_wp2_with fail
   exact⟨rfl,HV.out.symm,al.out⟩
  ·go_wp2_with fail
   refine (gL af (by omega) _).mono ?_
   rintro e w3 ⟨g1,g2⟩;subst g1
   have aj:=zh (bt al.out g2)
   have am:=aY au g2
   clear g2 au al
   cases ac:Wm.decB af
   ·have HV:Hid (prodEnd l=pan 2):=HB.out (by rw[HF.out,ab,ac];rfl)
    clear ab ac
    go_wp2_with fail
    refine (ai _).mono ?_
    rintro e w4 ⟨g1,g2⟩;subst g2;subst g1
    go_wp2_with fail
    exact⟨rfl,HV.out.symm,aj.out⟩
   ·have an:=((Wm.jF bf).1 ab).1
    have av:=((Wm.jF af).1 ac).1
    have aw:bf≠[]:=fun h=>an.1 (by rw[h];rfl)
    have ax:=zh an
    have ay:=zh av
    have az:=zh aw
    clear an av aw
    go_wp2_with fail
    refine (vg bf az.out (by omega) _).mono ?_
    rintro e w4 ⟨g1,g2⟩;subst g2;subst g1
    cases ho:lastOdd bf
    ·have HV:Hid (prodEnd l=pan 2):=HB.out (by rw[HF.out,ab,ac,ho];rfl)
     clear ab ac ho
     go_wp2_with fail
     refine (ai _).mono ?_
     rintro e w4 ⟨g1,g2⟩;subst g2;subst g1
     go_wp2_with fail
     exact⟨rfl,HV.out.symm,aj.out⟩
    ·have aE:Hid (formOk l=true):=by show _=_;rw[HF.out,ab,ac,ho];rfl
     rw[aE.out] at HR
     have aA:=zh (vh bf ab ho)
     clear ab ac ho HF HB
     go_wp2_with fail
     refine (ah _).mono ?_
     rintro e w4 ⟨g1,g2⟩;subst g2;subst g1
     go_wp2_with fail
     refine (kC bf (by omega) ax.out _ am).mono ?_
     rintro e w4 ⟨g1,g2⟩;subst g1
     have aB:=zh (bt aj.out g2)
     have aC:=aY am g2
     clear g2 am aj
     go_wp2_with fail
     refine (kC af (by omega) ay.out _ aC).mono ?_
     rintro e w5 ⟨g1,g2⟩;subst g1
     have ae:=zh (bt aB.out g2)
     clear g2 aC aB ax ay az
     have hF:=kF bf
     have hP:=kF af
     generalize Wm.nmb bf=F at *
     generalize Wm.nmb af=P at *
     have aD:Hid (prodErr l=if Wm.rangeOk F P then 0 else 8):=by show _=_;rw[HR.out];rfl
     have ak:Hid (Wm.rangeOk F P=false->prodEnd l=pan 8):=by
      show _->_
      intro h
      rw[HE.out,aD.out,h];rfl
     clear HR
     by_cases c1:F<=-9007199254740992
     ·have HV:Hid (prodEnd l=pan 8):=ak.out (Wm.kD c1)
      go_wp2_with fail
      refine (ai _).mono ?_
      rintro e w6 ⟨g1,g2⟩;subst g2;subst g1
      go_wp2_with fail
      exact⟨rfl,HV.out.symm,ae.out⟩
     by_cases c2:9007199254740992<=F
     ·have HV:Hid (prodEnd l=pan 8):=ak.out (Wm.kE c2)
      go_wp2_with fail
      rw[show decide (F<9007199254740992)=false from decide_eq_false (by omega)]
      refine (ai _).mono ?_
      rintro e w6 ⟨g1,g2⟩;subst g2;subst g1
      go_wp2_with fail
      exact⟨rfl,HV.out.symm,ae.out⟩
     have aF:F % 2=1:=by rcases aA.out with h | h <;> omega
     have ag:0<F.natAbs:=by omega
     have aa:F.natAbs<2 ^ 53:=by omega
     have aG:=zh (Wm.tm ag aa)
     have aK:=Wm.bN ag aa
     have ao:max F (-F)=((F.natAbs:Nat):Int):=by omega
     have ap:Hid (Wm.rangeOk F P=(decide (-1074<=P)&&decide (P<=1024-((F.natAbs.log2+1:Nat):Int)))):=Wm.je (by omega) (by omega)
     clear aA
     have aL:-9007199254740992<F:=by omega
     have aM:F<9007199254740992:=by omega
     clear c1 c2
     go_wp2_with fail
     refine (ah _).mono ?_
     rintro e w6 ⟨g1,g2⟩;subst g2;subst g1
     go_wp2_with fail
     refine (Tryz.bits_Len64 _ _ (by omega) (by omega)).mono ?_
     rintro e w6 ⟨g1,g2⟩;subst g2;subst g1
     rw[show ((F.natAbs:Nat):Int).toNat=F.natAbs from rfl,aG.out]
     clear ao
     by_cases p1:P < -1074
     ·have HV:Hid (prodEnd l=pan 8):=ak.out (by rw[ap.out,decide_eq_false (by omega)];rfl)
      go_wp2_with fail
      refine (ai _).mono ?_
      rintro e w7 ⟨g1,g2⟩;subst g2;subst g1
      go_wp2_with fail
      exact⟨rfl,HV.out.symm,ae.out⟩
     by_cases p2:1024-((F.natAbs.log2+1:Nat):Int)<P
     ·have HV:Hid (prodEnd l=pan 8):=ak.out (by rw[ap.out,decide_eq_false (show ¬ P<=1024-((F.natAbs.log2+1:Nat):Int) by omega),Bool.and_false])
      go_wp2_with fail
      rw[show decide (P<=1024-((F.natAbs.log2:Int)+1))=false from decide_eq_false (by omega)]
      refine (ai _).mono ?_
      rintro e w7 ⟨g1,g2⟩;subst g2;subst g1
      go_wp2_with fail
      exact⟨rfl,HV.out.symm,ae.out⟩
     have HZ:Hid (prodErr l=0):=by show _=_;rw[aD.out,ap.out,decide_eq_true (show -1074<=P by omega),decide_eq_true (show P<=1024-((F.natAbs.log2+1:Nat):Int) by omega)];rfl
     have HV:Hid (prodEnd l=.returned (.float .f64 (Wm.prodVal F P))):=by show _=_;rw[HE.out,HO.out,if_pos HZ.out,if_pos HZ.out]
     have aH:FloatKind.f64.nearest F=Wm.word (decide (F<0)) (Wm.rungOf F.natAbs 0):=Wm.xA F (by omega) aa
     have aI:=Wm.rung0 ag aa
     have aJ:=Wm.iq (e:=0) ag aa (by omega)
     have hx:=Wm.uW (decide (F<0)) ag aa (show -1074<=P by omega) (by omega)
     have aq:Fin (Wm.rungOf F.natAbs 0):=aJ
     go_wp2_with fail
     rw[show decide (P<=1024-((F.natAbs.log2:Int)+1))=true from decide_eq_true (by omega)]
     refine (ah _).mono ?_
     rintro e w7 ⟨g1,g2⟩;subst g2;subst g1
     go_wp2_with fail
     rw[show floatOfInt .f64 F=Wm.word (decide (F<0)) (Wm.rungOf F.natAbs 0) from aH]
     refine (ve (decide (F<0)) (Wm.rungOf F.natAbs 0) P aq aI.2.2 (by omega) _).mono ?_
     rintro e w8 ⟨g1,g2⟩;subst g2;subst g1
     rw[hx]
     go_wp2_with fail
     go_ret
     exact⟨by rw[HV.out];rfl,ae.out⟩
end
section
open Go.RowKit
def litW (l:List UInt8):Option Nat :=
 if l=[105,110,102] then some 9218868437227405312 else if l=[45,105,110,102] then some 18442240474082181120
 else if l=[110,97,110] then some 9221120237041090561 else if l=[48] then some 0 else if l=[45,48] then some 9223372036854775808 else none
def errW (l:List UInt8):Int:=if (litW l).isSome then 0 else prodErr l
def valW (l:List UInt8):Nat:=(litW l).getD (prodOf l)
theorem mM (l:List UInt8):l=[105,110,102]\/l=[45,105,110,102]\/l=[110,97,110]\/l=[48]\/l=[45,48] \/
  ((l==[105,110,102])=false/\(l==[45,105,110,102])=false/\(l==[110,97,110])=false/\(l==[48])=false/\(l==[45,48])=false/\errW l=prodErr l/\valW l=prodOf l):=by
 by_cases h1:l=[105,110,102]
 ·exact Or.inl h1
 by_cases h2:l=[45,105,110,102]
 ·exact Or.inr (Or.inl h2)
 by_cases h3:l=[110,97,110]
 ·exact Or.inr (Or.inr (Or.inl h3))
 by_cases h4:l=[48]
 ·exact Or.inr (Or.inr (Or.inr (Or.inl h4)))
 by_cases h5:l=[45,48]
 ·exact Or.inr (Or.inr (Or.inr (Or.inr (Or.inl h5))))
 have hl:litW l=none:=by unfold litW;rw[if_neg h1,if_neg h2,if_neg h3,if_neg h4,if_neg h5]
 refine Or.inr (Or.inr (Or.inr (Or.inr (Or.inr ⟨?_,?_,?_,?_,?_,?_,?_⟩))))
 ·exact beq_eq_false_iff_ne.2 h1
 ·exact beq_eq_false_iff_ne.2 h2
 ·exact beq_eq_false_iff_ne.2 h3
 ·exact beq_eq_false_iff_ne.2 h4
 ·exact beq_eq_false_iff_ne.2 h5
 ·unfold errW;rw[hl];rfl
 ·unfold valW;rw[hl];rfl
def parseEnd (l:List UInt8):Ending:=if errW l=0 then .returned (.float .f64 (valW l)) else pan (errW l)
theorem kG (l:List UInt8)(hl:l.length<=1000)(w:World)(hk:KOk w) :
  Calls Tryz.prog 298 #[.string ⟨l.toArray⟩] w fun e w'=>e=parseEnd l/\Below w.heap.size w w':=by
 rcases mM l with rfl | rfl | rfl | rfl | rfl | ⟨h1,h2,h3,h4,h5,he,hv⟩
 ·go_enter Tryz.func298,Tryz.ntmps298
  go_wp2_with fail
  refine (lN _ _).mono ?_
  rintro e w1 ⟨g1,g2⟩;subst g2;subst g1
  go_wp2_with fail
  go_ret
  exact⟨rfl,Below.refl _ _⟩
 ·go_enter Tryz.func298,Tryz.ntmps298
  go_wp2_with fail
  refine (lN _ _).mono ?_
  rintro e w1 ⟨g1,g2⟩;subst g2;subst g1
  go_wp2_with fail
  go_ret
  exact⟨rfl,Below.refl _ _⟩
 ·go_enter Tryz.func298,Tryz.ntmps298
  go_wp2_with fail
  refine (zt _).mono ?_
  rintro e w1 ⟨g1,g2⟩;subst g2;subst g1
  go_wp2_with fail
  go_ret
  exact⟨rfl,Below.refl _ _⟩
 ·go_enter Tryz.func298,Tryz.ntmps298
  go_wp2_with fail
  go_ret
  exact⟨rfl,Below.refl _ _⟩
 ·go_enter Tryz.func298,Tryz.ntmps298
  go_wp2_with fail
  refine (iz _ _ (by decide) (by decide) _).mono ?_
  rintro e w1 ⟨g1,g2⟩;subst g2;subst g1
  go_wp2_with fail
  go_ret
  exact⟨rfl,Below.refl _ _⟩
 ·have HV:Hid (parseEnd l=prodEnd l):=by show _=_;unfold parseEnd prodEnd;rw[he,hv]
  clear he hv
  go_enter Tryz.func298,Tryz.ntmps298
  go_wp2_with fail
  refine (jG l hl _ hk).mono ?_
  rintro e w1 ⟨g1,g2⟩;subst g1
  by_cases h0:prodErr l=0
  ·have e1:prodEnd l=.returned (.float .f64 (prodOf l)):=if_pos h0
   rw[e1] at HV
   rw[e1]
   clear e1 h0
   go_wp2_with fail
   go_ret
   exact⟨HV.out.symm,g2⟩
  ·have e1:prodEnd l=pan (prodErr l):=if_neg h0
   rw[e1] at HV
   rw[e1]
   clear e1 h0
   go_wp2_with fail
   exact⟨rfl,HV.out.symm,g2⟩
theorem tq (l:List UInt8)(hl:l.length<=1000)(w:World)(hk:KOk w)(h:errW l=0) :
  Calls Tryz.prog 298 #[.string ⟨l.toArray⟩] w fun e w'=>e=.returned (.float .f64 (valW l))/\Below w.heap.size w w':=by
 have:=kG l hl w hk
 unfold parseEnd at this
 rwa [if_pos h] at this
theorem vi (l:List UInt8)(hl:l.length<=1000)(w:World)(hk:KOk w)(h:errW l≠0) :
  Calls Tryz.prog 298 #[.string ⟨l.toArray⟩] w fun e w'=>e=pan (errW l)/\Below w.heap.size w w':=by
 have:=kG l hl w hk
 unfold parseEnd at this
 rwa [if_neg h] at this
theorem o5 (p:Addr)(x:Int)(n:Int)(w:World)(hc:w.cell? p=some (.int .i64 x))(hz:w.frozen? p=false) :
  CallsD Tryz.prog 297 #[.pointer (some p)] (.panicking [{ v:=.iface 77 (.int .i64 n),recovered:=false }]) w fun e u' w' =>
   e=.returned (.tuple #[])/\u'=.panicking [{ v:=.iface 77 (.int .i64 n),recovered:=true }]/\w'=w.setCell p (.int .i64 n):=by
 refine callsD_of_wpS Tryz.func297 rfl fun c₀ cs hu=>?_
 apply wpS_region
 simp[wpOpsS,go_sem,recoverD,hu,Tryz.ntmps297]
 refine (db n _).mono ?_
 rintro e w' ⟨rfl,rfl⟩
 simp[go_sem,hc,hz,bodyPostS,results,Tryz.results297]
theorem qQ (p:Addr)(x:Int)(w:World)(hc:w.cell? p=some (.int .i64 x))(hz:w.frozen? p=false) :
  CallsD Tryz.prog 297 #[.pointer (some p)] .returning w fun e u' w'=>e=.returned (.tuple #[])/\u'=.returning/\w'=w.setCell p (.int .i64 0):=by
 refine callsD_of_wpS Tryz.func297 rfl fun c₀ cs hu=>?_
 apply wpS_region
 simp[wpOpsS,go_sem,recoverD,hu,Tryz.ntmps297]
 refine (da _).mono ?_
 rintro e w' ⟨rfl,rfl⟩
 cases c₀
 simp_all [go_sem,bodyPostS,results,Tryz.results297]
def outW (l:List UInt8):Nat:=if errW l=0 then valW l else 0
theorem zD (l:List UInt8)(hl:l.length<=1000)(w:World)(hw:KOk w) :
  Calls Tryz.prog 276 #[.string ⟨l.toArray⟩] w fun e w'=>e=.returned (.tuple #[.float .f64 (outW l),.int .i64 (errW l)])/\Below w.heap.size w w':=by
 have af:∀ (fn:Fn) (first cap:Array Value) (w:World),(Instr.makeFunc fn first cap).run Tryz.prog w=.ok (.func fn first cap) w:=fun _ _ _ _=>rfl
 have hM:KOk (w.alloc (.cells #[.int .i64 0] 77)):=aY hw ((Below.refl _ _).alloc (Nat.le_refl _) _)
 have HM:=zh hM
 clear hw hM
 by_cases h:errW l=0
 ·have H:=zh h
  have HC:Hid (outW l=valW l):=by show _=_;rw[outW,if_pos h]
  clear h
  go_enter_defers Tryz.func276,Tryz.ntmps276
  go_wp2_with fail
  refine (tq l hl _ HM.out H.out).mono ?_
  rintro e w2 ⟨rfl,hb⟩
  have ac:Below (w.heap.size+1) (w.alloc (.cells #[.int .i64 0] 77)) w2:=by simpa using hb
  obtain⟨aa,ab⟩:=bg w w2 _ _ ac
  have ae:=zh ac
  clear hb ac
  go_wp2_with fail
  refine leaves_cons (f:=297) (args:=#[.pointer (some ⟨w.heap.size,0,none⟩)]) (by simp) (by simp[go_sem]) ?_
  refine (qQ ⟨w.heap.size,0,none⟩ 0 _ ?_ ?_).mono ?_
  ·simp[go_sem,aa]
  ·simp[go_sem,ab]
  rintro e u' w3 ⟨rfl,rfl,rfl⟩
  simp[Leaves,settle,results,Tryz.results276,go_sem,aa]
  exact⟨⟨by rw[HC.out],H.out.symm⟩,((aW ae.out).setCell (Nat.le_refl _) _).setCell (Nat.le_refl _) _⟩
 ·have H:=zh h
  have HC:Hid (outW l=0):=by show _=_;rw[outW,if_neg h]
  clear h
  go_enter_defers Tryz.func276,Tryz.ntmps276
  go_wp2_with fail
  refine (vi l hl _ HM.out H.out).mono ?_
  rintro e w1 ⟨rfl,hb⟩
  have ad:Below (w.heap.size+1) (w.alloc (.cells #[.int .i64 0] 77)) w1:=by simpa using hb
  obtain⟨aa,ab⟩:=bg w w1 _ _ ad
  have HB:=zh ad
  clear hb ad
  go_wp2_with fail
  refine leaves_cons (f:=297) (args:=#[.pointer (some ⟨w.heap.size,0,none⟩)]) (by simp) (by simp[go_sem]) ?_
  refine (o5 ⟨w.heap.size,0,none⟩ 0 _ _ ?_ ?_).mono ?_
  ·simp[go_sem,aa]
  ·simp[go_sem,ab]
  rintro e u' w2 ⟨rfl,rfl,rfl⟩
  simp[Leaves,settle,results,Tryz.results276,go_sem,aa]
  exact⟨by rw[HC.out],(aW HB.out).setCell (Nat.le_refl _) _⟩
end
section
open Go.RowKit Rs At Pg
def Pg.okAt (i e:Int):Ending:=if e=0 then .returned (.tuple #[]) else panAt i e
theorem Pg.dK (i:Int):okAt i 0=.returned (.tuple #[]):=rfl
theorem Pg.fK {i e:Int}(h:e≠0):okAt i e=panAt i e:=if_neg h
attribute [local go_sem ↓] Go.wp_at_zero Go.wp_at_succ
theorem aA (t:List UInt8)(i:Int)(b:Bool)(e:Int)(w:World) :
  Calls Tryz.prog 272 #[.agg #[.string ⟨t.toArray⟩,.int .i64 i],.bool b,.int .i64 e] w fun r w'=>r=(if b then .returned (.tuple #[]) else panAt i e)/\Below w.heap.size w w':=by
 obtain⟨V,hV⟩:=ex (w.alloc (.cells #[.string ⟨t.toArray⟩,.int .i64 i] 256))
 have HB:Hid (Below w.heap.size w V):=aa hV
 obtain⟨c0,c1⟩:=aS hV (Below.refl _ _)
 cases b
 ·go_enter Tryz.func272,Tryz.ntmps272
  go_wp2_with fail
  refine (ao _).mono ?_
  rintro _ u ⟨rfl,rfl⟩
  go_wp2_with fail
  exact⟨rfl,rfl,HB.out⟩
 ·go_enter Tryz.func272,Tryz.ntmps272
  go_wp2_with fail
  refine (ax _).mono ?_
  rintro _ u ⟨rfl,rfl⟩
  go_wp2_with fail
  go_end0
  exact⟨rfl,HB.out⟩
theorem cO (t:List UInt8)(i e:Int)(w:World) :
  Calls Tryz.prog 273 #[.agg #[.string ⟨t.toArray⟩,.int .i64 i],.int .i64 e] w fun r w'=>r=okAt i e/\Below w.heap.size w w':=by
 obtain⟨V,hV⟩:=ex (w.alloc (.cells #[.string ⟨t.toArray⟩,.int .i64 i] 256))
 have HB:Hid (Below w.heap.size w V):=aa hV
 obtain⟨c0,c1⟩:=aS hV (Below.refl _ _)
 by_cases h0:e=0
 ·subst h0
  rw[dK]
  go_enter Tryz.func273,Tryz.ntmps273
  go_wp2_with fail
  refine (aA t i true 0 _).mono ?_
  rintro _ u ⟨rfl,hb⟩
  have HU:Hid (Below w.heap.size w u):=bt HB.out hb
  clear hb
  go_wp2_with fail
  go_end0
  exact⟨rfl,HU.out⟩
 ·have d:(e==0)=false:=beq_eq_false_iff_ne.2 h0
  rw[fK h0]
  clear h0
  go_enter Tryz.func273,Tryz.ntmps273
  go_wp2_with fail
  refine (aA t i false e _).mono ?_
  rintro _ u ⟨rfl,hb⟩
  have HU:Hid (Below w.heap.size w u):=bt HB.out hb
  clear hb
  go_wp2_with fail
  exact⟨rfl,rfl,HU.out⟩
theorem eG (t:List UInt8)(i:Int)(w:World)(hw:MaxOk w) :
  Calls Tryz.prog 242 #[.agg #[.string ⟨t.toArray⟩,.int .i64 i]] w fun r w'=>r=(if Vm.check t=0 then .returned (.string ⟨(canonOf t).toArray⟩) else panAt i (Vm.check t))/\Below w.heap.size w w':=by
 obtain⟨V,hV⟩:=ex (w.alloc (.cells #[.string ⟨t.toArray⟩,.int .i64 i] 256))
 have HB:Hid (Below w.heap.size w V):=aa hV
 obtain⟨c0,c1⟩:=aS hV (Below.refl _ _)
 have HC:=zh (cA t V (ab hw HB.out))
 obtain⟨x,hx⟩:=ex (canonOf t)
 obtain⟨k,hk⟩:=ex (Vm.check t)
 rw[hx,hk] at HC
 rw[hx,hk]
 have HV:=zh hV
 clear hx hk hw
 go_enter Tryz.func242,Tryz.ntmps242
 go_wp2_with fail
 clear hV
 refine HC.out.mono ?_
 rintro _ u ⟨rfl,hb⟩
 have HU:Hid (Below w.heap.size w u):=bt HB.out hb
 clear c0 c1
 obtain⟨c0,c1⟩:=aS HV.out hb
 clear hb HC
 go_wp2_with fail
 refine (cO t i k _).mono ?_
 rintro _ u2 ⟨rfl,hb⟩
 have ac:Hid (Below w.heap.size w u2):=bt HU.out hb
 clear hb c0 c1
 by_cases h0:k=0
 ·subst h0
  rw[dK]
  go_wp2_with fail
  go_ret
  exact⟨rfl,ac.out⟩
 ·rw[fK h0]
  have H0:=zh h0
  clear h0
  go_wp2_with fail
  exact⟨rfl,by first | exact (if_neg H0.out).symm | rfl | rw[if_neg H0.out],ac.out⟩
theorem gM (t:List UInt8)(i:Int)(w:World)(ht:t.length<=281474976710656) :
  Calls Tryz.prog 241 #[.agg #[.string ⟨t.toArray⟩,.int .i64 i]] w fun r w'=>r=(if nameB t=true then .returned (.string ⟨t.toArray⟩) else panAt i 3)/\Below w.heap.size w w':=by
 obtain⟨b,hb⟩:=ex w.heap.size
 obtain⟨V,hV⟩:=ex (w.alloc (.cells #[.string ⟨t.toArray⟩,.int .i64 i] 256))
 have HB:Hid (Below w.heap.size w V):=aa hV
 have HP:=zh (fun W (h:Below V.heap.size V W)=>aS hV h)
 rw[hb] at HP
 obtain⟨c0,c1⟩:=HP.out _ (Below.refl _ _)
 have HN:=zh (fun W=>ig t W (Nat.le_trans ht (by decide)))
 obtain⟨x,hx⟩:=ex (nameB t)
 rw[hx] at HN
 rw[hx]
 have HL:Hid (t.length<=281474976710656):=ht
 clear hx ht
 go_enter Tryz.func241,Tryz.ntmps241
 go_wp2_with fail
 have ab:Hid (Below V.heap.size V V.drew):=(Below.refl _ _).drew
 clear hb hV
 cases x
 ·clear c0 c1
  obtain⟨c0,c1⟩:=HP.out _ ab.out
  go_region_with (first
    | (go_at_call 183;refine (HN.out _).mono ?_;rintro _ u2 ⟨rfl,rfl⟩)
    | (go_at_call 272;refine (aA t i false 3 _).mono ?_;rintro _ u3 ⟨rfl,hs⟩;have ac:=zh hs;clear hs;refine cT (P:=Tryz.prog) (a:={ tmps:=#[],defers:=[] }) (w:=w) ?_))
  all_goals exact⟨rfl,rfl,HB.out.trans ((bt ab.out ac.out).mono HB.out.size)⟩
 ·go_region_held3 (fun w'=>w'.cell? ⟨b,0,none⟩=some (.string ⟨t.toArray⟩)/\w'.cell? ⟨b,1,none⟩=some (.int .i64 i))
   (first
    | exact HP.out _ ab.out
    | exact HP.out _ (bt ab.out ac.out))
   (first
    | (go_at_call 183;refine (HN.out _).mono ?_;rintro _ u2 ⟨rfl,rfl⟩)
    | (go_at_call 272;refine (aA t i true 3 _).mono ?_;rintro _ u3 ⟨rfl,hs⟩;have ac:=zh hs;clear hs))
  have ad:Hid (Below V.heap.size V u3):=bt ab.out ac.out
  clear c0 c1 ac
  obtain⟨c0,c1⟩:=HP.out _ ad.out
  go_wp2_with fail
  refine (aQ t _ HL.out).mono ?_
  rintro _ u5 ⟨rfl,ae⟩
  have af:Hid (Below w.heap.size w u5):=HB.out.trans ((bt ad.out ae).mono HB.out.size)
  clear ae
  go_wp2_with fail
  go_ret
  exact⟨rfl,af.out⟩
end
section
open Go.RowKit
attribute [local go_sem ↓] Go.wp_at_zero Go.wp_at_succ
theorem cJ {w W1 u:World}{a b c:Value}{T:TypeId}(h1:w.alloc (.cells #[a,b,c] T)=W1)(hb:Below W1.heap.size W1 u) :
  u.cell? ⟨w.heap.size,0,none⟩=some a/\u.cell? ⟨w.heap.size,1,none⟩=some b/\u.cell? ⟨w.heap.size,2,none⟩=some c/\u.frozen? ⟨w.heap.size,0,none⟩=false/\u.frozen? ⟨w.heap.size,1,none⟩=false/\u.frozen? ⟨w.heap.size,2,none⟩=false:=by
 subst h1
 have h:u.heap[w.heap.size]?=some (.cells #[a,b,c] T (0,0)):=(hb.block _ (by simp)).trans (heap_alloc_new w _)
 refine⟨?_,?_,?_,?_,?_,?_⟩ <;> simp[World.cell?,World.frozen?,h]
def FC (b:Nat) (key val:List UInt8) (line:Int) (u:World):Prop :=
 u.cell? ⟨b,0,none⟩=some (.string ⟨key.toArray⟩)/\u.cell? ⟨b,1,none⟩=some (.string ⟨val.toArray⟩)/\u.cell? ⟨b,2,none⟩=some (.int .i64 line) /\
 u.cell? ⟨b+1,0,none⟩=some (.string ⟨#[]⟩)/\u.cell? ⟨b+1,1,none⟩=some (.string ⟨#[]⟩)/\u.cell? ⟨b+1,2,none⟩=some (.int .i64 0)/\u.frozen? ⟨b+1,0,none⟩=false/\u.frozen? ⟨b+1,1,none⟩=false/\u.frozen? ⟨b+1,2,none⟩=false
theorem aaM {w W1 W2 u:World}{key val:List UInt8}{line:Int}(h1:w.alloc (.cells #[.string ⟨key.toArray⟩,.string ⟨val.toArray⟩,.int .i64 line] 168)=W1)(h2:W1.alloc (.cells #[.string ⟨#[]⟩,.string ⟨#[]⟩,.int .i64 0] 168)=W2)(hb:Below W2.heap.size W2 u):FC w.heap.size key val line u:=by
 have ab:W1.heap.size=w.heap.size+1:=by rw[<-h1];simp
 have ac:Below W1.heap.size W1 u:=(aa h2).trans (hb.mono (aa h2).size)
 obtain⟨a0,a1,a2,_⟩:=cJ h1 ac
 have h:=cJ h2 hb
 rw[ab] at h
 exact⟨a0,a1,a2,h⟩
theorem fc3 {b:Nat}{key val:List UInt8}{line:Int}{u:World}(h:FC b key val line u):u.cell? ⟨b,0,none⟩=some (.string ⟨key.toArray⟩)/\u.cell? ⟨b,1,none⟩=some (.string ⟨val.toArray⟩)/\u.cell? ⟨b,2,none⟩=some (.int .i64 line):=⟨h.1,h.2.1,h.2.2.1⟩
theorem aav {b:Nat}{key val:List UInt8}{line:Int}{u:World}(h:FC b key val line u)(x y z:Value) :
  (((u.setCell ⟨b+1,0,none⟩ x).setCell ⟨b+1,1,none⟩ y).setCell ⟨b+1,2,none⟩ z).cell? ⟨b,0,none⟩=some (.string ⟨key.toArray⟩)/\(((u.setCell ⟨b+1,0,none⟩ x).setCell ⟨b+1,1,none⟩ y).setCell ⟨b+1,2,none⟩ z).cell? ⟨b,1,none⟩=some (.string ⟨val.toArray⟩)/\(((u.setCell ⟨b+1,0,none⟩ x).setCell ⟨b+1,1,none⟩ y).setCell ⟨b+1,2,none⟩ z).cell? ⟨b,2,none⟩=some (.int .i64 line):=by
 have far:∀ j,(((u.setCell ⟨b+1,0,none⟩ x).setCell ⟨b+1,1,none⟩ y).setCell ⟨b+1,2,none⟩ z).cell? ⟨b,j,none⟩=u.cell? ⟨b,j,none⟩:=fun j=>by
  rw[World.cell?_setCell_far _ _ _ _ (by show b+1≠b;omega),World.cell?_setCell_far _ _ _ _ (by show b+1≠b;omega),World.cell?_setCell_far _ _ _ _ (by show b+1≠b;omega)]
 exact⟨(far 0).trans h.1,(far 1).trans h.2.1,(far 2).trans h.2.2.1⟩
theorem aaw {b:Nat}{key val:List UInt8}{line:Int}{u:World}(h:FC b key val line u)(x y z:Value) :
  (((u.setCell ⟨b+1,0,none⟩ x).setCell ⟨b+1,1,none⟩ y).setCell ⟨b+1,2,none⟩ z).cell? ⟨b+1,0,none⟩=some x/\(((u.setCell ⟨b+1,0,none⟩ x).setCell ⟨b+1,1,none⟩ y).setCell ⟨b+1,2,none⟩ z).cell? ⟨b+1,1,none⟩=some y/\(((u.setCell ⟨b+1,0,none⟩ x).setCell ⟨b+1,1,none⟩ y).setCell ⟨b+1,2,none⟩ z).cell? ⟨b+1,2,none⟩=some z:=by
 obtain⟨_,_,_,b0,b1,b2,_⟩:=h
 refine⟨?_,?_,?_⟩ <;> simp[go_sem,b0,b1,b2]
theorem kH (key val:List UInt8)(line:Int)(w:World)(hk:key.length<=140737488355328)(hv:val.length<=140737488355328) :
  Calls Tryz.prog 207 #[.agg #[.string ⟨key.toArray⟩,.string ⟨val.toArray⟩,.int .i64 line]] w fun e w'=>e=.returned (.agg #[.string ⟨key.toArray⟩,.string ⟨val.toArray⟩,.int .i64 line])/\Below w.heap.size w w':=by
 obtain⟨W1,ad⟩:=ex (w.alloc (.cells #[.string ⟨key.toArray⟩,.string ⟨val.toArray⟩,.int .i64 line] 168))
 obtain⟨W2,af⟩:=ex (W1.alloc (.cells #[.string ⟨#[]⟩,.string ⟨#[]⟩,.int .i64 0] 168))
 have ab:Hid (∀ u,Below W2.heap.size W2 u->FC w.heap.size key val line u):=fun u hb=>aaM ad af hb
 have al:W1.heap.size=w.heap.size+1:=by rw[<-ad];simp
 have aj:Hid (Below w.heap.size w W2):=(aa ad).trans ((aa af).mono (aa ad).size)
 have HK:=zh hk
 have HV:=zh hv
 clear hk hv
 go_enter Tryz.func207,Tryz.ntmps207
 go_wp2_with fail
 have ae:Hid (Below W2.heap.size W2 W2.drew):=(Below.refl _ _).drew
 obtain⟨a0,a1,a2,b0,b1,b2,f0,f1,f2⟩:=ab.out _ ae.out
 clear ad af
 clear b0 b1 b2 f0 f1 f2
 go_region_held3 (fun w'=>w'.cell? ⟨w.heap.size,0,none⟩=some (.string ⟨key.toArray⟩)/\w'.cell? ⟨w.heap.size,1,none⟩=some (.string ⟨val.toArray⟩)/\w'.cell? ⟨w.heap.size,2,none⟩=some (.int .i64 line))
  (first
   | exact fc3 (ab.out _ ae.out)
   | exact fc3 (ab.out _ ag.out)
   | exact fc3 (ab.out _ ac.out)
   | exact aav (ab.out _ ac.out) _ _ _)
  (first
   | (go_at_call 49;refine (aQ val _ (by have:=HV.out;omega)).mono ?_;rintro _ u3 ⟨rfl,ah⟩;have ac:=zh (bt ag.out ah);clear ah;obtain⟨_,_,_,b0,b1,b2,f0,f1,f2⟩:=ab.out _ ac.out)
   | (go_at_call 49;refine (aQ key _ (by have:=HK.out;omega)).mono ?_;rintro _ u2 ⟨rfl,ai⟩;have ag:=zh (bt ae.out ai);clear ai))
 have ak:Hid (Below w.heap.size w (((u3.setCell ⟨w.heap.size+1,0,none⟩ (.string ⟨key.toArray⟩)).setCell ⟨w.heap.size+1,1,none⟩ (.string ⟨val.toArray⟩)).setCell ⟨w.heap.size+1,2,none⟩ (.int .i64 line))) :=
  (((bt aj.out ac.out).setCell (Nat.le_succ _) _).setCell (Nat.le_succ _) _).setCell (Nat.le_succ _) _
 have g:=aaw (ab.out _ ac.out) (.string ⟨key.toArray⟩) (.string ⟨val.toArray⟩) (.int .i64 line)
 go_wp2_with fail
 generalize ((u3.setCell ⟨w.heap.size+1,0,none⟩ (.string ⟨key.toArray⟩)).setCell ⟨w.heap.size+1,1,none⟩ (.string ⟨val.toArray⟩)).setCell ⟨w.heap.size+1,2,none⟩ (.int .i64 line)=V at *
 obtain⟨g0,g1,g2⟩:=g
 refine bodyPost_ret (v:=.agg #[.string ⟨key.toArray⟩,.string ⟨val.toArray⟩,.int .i64 line]) ?_ rfl ⟨rfl,ak.out⟩
 simp[results,Tryz.results207,go_sem,g0,g1,g2]
end
end Go.Proofs.YtgnaiidgjmicaaaGreatDoor
