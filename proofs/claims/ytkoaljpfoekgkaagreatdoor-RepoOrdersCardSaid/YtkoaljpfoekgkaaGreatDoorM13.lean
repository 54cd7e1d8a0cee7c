/- Part 13 of what the laws lean on. -/
import Derived.Test.YtkoaljpfoekgkaaGreatDoorM12
set_option maxRecDepth 100000
set_option maxHeartbeats 1600000
namespace Go.Proofs.YtkoaljpfoekgkaaGreatDoor
namespace Wm
open Ieee
def rung (b:Nat):Nat:=b % 9223372036854775808
def neg (b:Nat):Bool:=decide (9223372036854775808<=b)
def nan (b:Nat):Bool:=decide (9218868437227405312<rung b)
def sk (b:Nat):Int:=if neg b then -(rung b:Int) else (rung b:Int)
def W:Nat:=18446744073709551616
def val (r:Nat):Nat:=if r<4503599627370496 then r else (4503599627370496+r % 4503599627370496)*2 ^ (r / 4503599627370496-1)
def magOf (r:Nat):Nat:=if r<4503599627370496 then r else 4503599627370496+r % 4503599627370496
def upOf (r:Nat):Nat:=if r<4503599627370496 then 0 else r / 4503599627370496-1
theorem xV (r:Nat):val r=magOf r*2 ^ upOf r:=by
 unfold val magOf upOf;split <;> simp
theorem vZ {a b i j:Nat}(h:a<2 ^ 53)(hb:2 ^ 52<=b)(hij:i<j):a*2 ^ i<b*2 ^ j:=by
 have h1:2 ^ (i+1)<=2 ^ j:=Nat.pow_le_pow_right (by omega) hij
 have h2:2 ^ (i+1)=2*2 ^ i:=by rw[Nat.pow_succ];omega
 have h3:0<2 ^ i:=Nat.two_pow_pos i
 calc a*2 ^ i<2 ^ 53*2 ^ i:=Nat.mul_lt_mul_of_pos_right h h3
  _=2 ^ 52*2 ^ (i+1):=by rw[h2];omega
  _<=b*2 ^ j:=Nat.mul_le_mul hb h1
theorem qT {r s:Nat}(h:r<s):val r<val s:=by
 unfold val
 split
 ·rename_i h1
  split
  ·exact h
  ·have:0<2 ^ (s / 4503599627370496-1):=Nat.two_pow_pos _
   calc r<4503599627370496:=h1
    _<=4503599627370496+s % 4503599627370496:=by omega
    _=(4503599627370496+s % 4503599627370496)*1:=by omega
    _<=_:=Nat.mul_le_mul_left _ this
 ·rename_i h1
  rw[if_neg (by omega)]
  by_cases hq:r / 4503599627370496=s / 4503599627370496
  ·rw[hq]
   exact Nat.mul_lt_mul_of_pos_right (by omega) (Nat.two_pow_pos _)
  ·exact vZ (by omega) (by omega) (by omega)
theorem ac9 {r s:Nat}(h:r<=s):val r<=val s:=by
 rcases Nat.lt_or_eq_of_le h with h | rfl
 ·exact Nat.le_of_lt (qT h)
 ·exact Nat.le_refl _
theorem cB (b:Nat)(hb:b<W)(h:rung b<9218868437227405312):double.read b=.number (neg b) (magOf (rung b)) (-1074+(upOf (rung b):Int)):=by
 have hn:(b / 9223372036854775808 % 2==1)=neg b:=by
  unfold neg;unfold W at hb
  rw[Bool.eq_iff_iff];simp;omega
 unfold Format.read
 simp only[show double.signWeight=9223372036854775808 from rfl,show double.binade=4503599627370496 from rfl,show double.infRung=9218868437227405312 from rfl,show double.leastPlace = -1074 from rfl,hn,show b % 9223372036854775808=rung b from rfl]
 unfold magOf upOf
 split
 ·rfl
 ·first | rfl | rw[if_pos h]
theorem kH (b:Nat)(hb:b<W)(h:rung b=9218868437227405312):double.read b=.infinity (neg b):=by
 have hn:(b / 9223372036854775808 % 2==1)=neg b:=by
  unfold neg;unfold W at hb
  rw[Bool.eq_iff_iff];simp;omega
 unfold Format.read
 simp only[show double.signWeight=9223372036854775808 from rfl,show double.binade=4503599627370496 from rfl,show double.infRung=9218868437227405312 from rfl,show double.leastPlace = -1074 from rfl,hn,show b % 9223372036854775808=rung b from rfl,h]
 rfl
theorem qU (b:Nat)(h:nan b=true):∃ s t,double.read b=.nan s t:=by
 unfold nan at h
 have h':=of_decide_eq_true h
 refine⟨b / 9223372036854775808 % 2==1,rung b-9218868437227405312,?_⟩
 unfold Format.read
 simp only[show double.signWeight=9223372036854775808 from rfl,show double.binade=4503599627370496 from rfl,show double.infRung=9218868437227405312 from rfl,show double.leastPlace = -1074 from rfl,show b % 9223372036854775808=rung b from rfl]
 rw[if_neg (by omega),if_neg (by omega),if_neg (by omega)]
def sv (b:Nat):Int:=if neg b then -(val (rung b):Int) else (val (rung b):Int)
theorem v7 (x y:Nat):compare (sv x) (sv y)=compare (sk x) (sk y):=by
 have aa:∀ {r s:Nat},r<s↔val r<val s:=fun {r s}=>⟨qT,fun h=>Nat.lt_of_not_le fun h2=>absurd (ac9 h2) (Nat.not_le_of_gt h)⟩
 have h1:=@aa (rung x) (rung y)
 have h2:=@aa (rung y) (rung x)
 have h0:∀ r,val r=0↔r=0:=fun r=>⟨fun h=>by
  rcases Nat.eq_zero_or_pos r with h3 | h3
  ·exact h3
  ·have:=qT h3;rw[h] at this;simp at this,fun h=>by subst h;rfl⟩
 have h3:=h0 (rung x)
 have h4:=h0 (rung y)
 simp only[compare,compareOfLessAndEq]
 unfold sv sk
 cases neg x <;> cases neg y <;> simp only[Bool.false_eq_true,if_false,if_true] <;> (congr 1 <;> first | (apply propext;omega) | (congr 1;apply propext;omega) | skip)
theorem nW (n:Bool)(m up:Nat):signed n m up=(if n then -1 else 1)*((m*2 ^ up:Nat):Int):=by
 unfold signed;rw[Nat.shiftLeft_eq];cases n <;> simp
theorem oZ (k:Nat)(a b:Int):compare (a*(2 ^ k:Nat)) (b*(2 ^ k:Nat))=compare a b:=by
 have hp:(0:Int)<((2 ^ k:Nat):Int):=by exact_mod_cast Nat.two_pow_pos k
 have h1:a*(2 ^ k:Nat)<b*(2 ^ k:Nat)↔a<b:=⟨fun h=>Int.lt_of_mul_lt_mul_right h (Int.le_of_lt hp),fun h=>Int.mul_lt_mul_of_pos_right h hp⟩
 have h2:a*(2 ^ k:Nat)=b*(2 ^ k:Nat)↔a=b:=⟨fun h=>Int.eq_of_mul_eq_mul_right (by omega) h,fun h=>by rw[h]⟩
 simp only[compare,compareOfLessAndEq,h1,h2]
theorem o4 (s t:Bool)(m n a c:Nat) :
  (Datum.number s m (-1074+(a:Int))).order (.number t n (-1074+(c:Int)))=some (compare ((if s then -1 else 1)*((m*2 ^ a:Nat):Int)) ((if t then -1 else 1)*((n*2 ^ c:Nat):Int))):=by
 unfold Datum.order
 simp only[nW]
 congr 1
 have e1:a=(-1074+(a:Int)-min (-1074+(a:Int)) (-1074+(c:Int))).toNat+min a c:=by omega
 have e2:c=(-1074+(c:Int)-min (-1074+(a:Int)) (-1074+(c:Int))).toNat+min a c:=by omega
 generalize (-1074+(a:Int)-min (-1074+(a:Int)) (-1074+(c:Int))).toNat=p at *
 generalize (-1074+(c:Int)-min (-1074+(a:Int)) (-1074+(c:Int))).toNat=q at *
 generalize min a c=k at *
 subst e1 e2
 have hx:∀ (x:Int) (u:Nat),x*((u*2 ^ k:Nat):Int)=x*(u:Int)*((2 ^ k:Nat):Int):=fun x u=>by rw[Int.natCast_mul,Int.mul_assoc]
 rw[Nat.pow_add,Nat.pow_add,<-Nat.mul_assoc,<-Nat.mul_assoc,hx _ (m*2 ^ p),hx _ (n*2 ^ q),oZ]
theorem abz (b:Nat):(if neg b then -1 else 1)*((magOf (rung b)*2 ^ upOf (rung b):Nat):Int)=sv b:=by
 rw[<-xV];unfold sv;cases neg b <;> simp
theorem qV {a b:Int}(h:a<b):compare a b=.lt:=by simp only[compare,compareOfLessAndEq,if_pos h]
theorem qW {a b:Int}(h:b<a):compare a b=.gt:=by simp only[compare,compareOfLessAndEq];rw[if_neg (by omega),if_neg (by omega)]
theorem gF (b:Nat):rung b<9223372036854775808:=Nat.mod_lt _ (by decide)
theorem kI (x y:Nat)(hx:x<W)(hy:y<W):double.order x y=if nan x||nan y then none else some (compare (sk x) (sk y)):=by
 unfold Format.order
 cases aa:nan x
 ·cases ab:nan y
  ·have h1:rung x<=9218868437227405312:=by unfold nan at aa;simpa using aa
   have h2:rung y<=9218868437227405312:=by unfold nan at ab;simpa using ab
   simp only[Bool.or_self,Bool.false_eq_true,if_false]
   rcases Nat.lt_or_eq_of_le h1 with h1 | h1
   ·rw[cB x hx h1]
    rcases Nat.lt_or_eq_of_le h2 with h2 | h2
    ·rw[cB y hy h2,o4,abz,abz,v7]
    ·rw[kH y hy h2]
     have e:compare (sk x) (sk y)=if neg y then .gt else .lt:=by
      unfold sk
      cases neg y <;> cases neg x <;> simp only[Bool.false_eq_true,if_false,if_true] <;> first | exact qV (by omega) | exact qW (by omega)
     rw[e];rfl
   ·rw[kH x hx h1]
    rcases Nat.lt_or_eq_of_le h2 with h2 | h2
    ·rw[cB y hy h2]
     have e:compare (sk x) (sk y)=if neg x then .lt else .gt:=by
      unfold sk
      cases neg y <;> cases neg x <;> simp only[Bool.false_eq_true,if_false,if_true] <;> first | exact qV (by omega) | exact qW (by omega)
     rw[e];rfl
    ·rw[kH y hy h2]
     have e:compare (sk x) (sk y)=compare (neg y).toNat (neg x).toNat:=by
      unfold sk;rw[h1,h2]
      cases neg y <;> cases neg x <;> decide
     rw[e];rfl
  ·obtain⟨s,t,h⟩:=qU y ab
   rw[h]
   cases double.read x <;> rfl
 ·obtain⟨s,t,h⟩:=qU x aa
  rw[h]
  cases double.read y <;> rfl
theorem mZ {k l:Nat}(h1:2 ^ l<=k)(h2:k<2 ^ (l+1)):k.log2=l:=by
 have h0:k≠0:=by have:=Nat.two_pow_pos l;omega
 have a:=(Nat.le_log2 h0).2 h1
 have b:=(Nat.log2_lt h0).2 h2
 omega
theorem uI {k:Nat}(h:0<k):2 ^ k.log2<=k:=(Nat.le_log2 (by omega)).1 (Nat.le_refl _)
theorem jP (k:Nat):k<2 ^ (k.log2+1):=Nat.lt_log2_self
theorem kJ (k t:Nat)(h:0<k):(k*2 ^ t).log2=k.log2+t:=by
 refine mZ ?_ ?_
 ·rw[Nat.pow_add];exact Nat.mul_le_mul_right _ (uI h)
 ·rw[show k.log2+t+1=(k.log2+1)+t from by omega,Nat.pow_add];exact Nat.mul_lt_mul_of_pos_right (jP k) (Nat.two_pow_pos t)
theorem bQ {k:Nat}(h:0<k)(h2:k<2 ^ 53):k.log2<=52:=by
 have:=(Nat.log2_lt (by omega:k≠0)).2 h2;omega
theorem nX (neg:Bool)(n:Nat):Toward.even.cut neg n 0=n:=by
 have h1:n % 1=0:=Nat.mod_one n
 unfold Toward.cut
 simp[Nat.shiftLeft_eq,h1]
theorem nY (neg:Bool)(k d:Nat)(h:0<k):Toward.even.cut neg (k*2 ^ d) d=k:=by
 have hp:=Nat.two_pow_pos d
 have h1:min d ((k*2 ^ d).log2+2)=d:=by rw[kJ k d h];omega
 have h2:(k*2 ^ d) / 2 ^ d=k:=Nat.mul_div_cancel _ hp
 have h3:(k*2 ^ d) % 2 ^ d=0:=Nat.mul_mod_left _ _
 unfold Toward.cut
 simp only[h1,Nat.shiftLeft_eq,Nat.one_mul,h2,h3]
 simp
def rungOf (k:Nat) (e:Int):Nat :=
 if (k.log2:Int)+e<=-1022 then k*2 ^ (e+1074).toNat else ((k.log2:Int)+e+1022).toNat*4503599627370496+k*2 ^ (52-k.log2)
def word (n:Bool) (r:Nat):Nat:=if n then 9223372036854775808+r else r
theorem ab7 (n:Bool)(r:Nat):double.word n r=word n r:=rfl
theorem gG {k:Nat}(h:0<k)(h2:k<2 ^ 53):4503599627370496<=k*2 ^ (52-k.log2)/\k*2 ^ (52-k.log2)<9007199254740992:=by
 have hl:=bQ h h2
 have hp:=Nat.two_pow_pos (52-k.log2)
 constructor
 ·calc 4503599627370496=2 ^ k.log2*2 ^ (52-k.log2):=by rw[<-Nat.pow_add,show k.log2+(52-k.log2)=52 from by omega]
   _<=_:=Nat.mul_le_mul_right _ (uI h)
 ·calc k*2 ^ (52-k.log2)<2 ^ (k.log2+1)*2 ^ (52-k.log2):=Nat.mul_lt_mul_of_pos_right (jP k) hp
   _=9007199254740992:=by rw[<-Nat.pow_add,show k.log2+1+(52-k.log2)=53 from by omega]
theorem jl {k:Nat}{e:Int}(h:0<k)(h2:k<2 ^ 53)(hi:(k.log2:Int)+e<=1023):0<rungOf k e/\rungOf k e<9218868437227405312:=by
 have hl:=bQ h h2
 have hn:=gG h h2
 unfold rungOf
 split
 ·have hp:=Nat.two_pow_pos (e+1074).toNat
  refine⟨Nat.mul_pos h hp,?_⟩
  have:k*2 ^ (e+1074).toNat<2 ^ (k.log2+1)*2 ^ (e+1074).toNat:=Nat.mul_lt_mul_of_pos_right (jP k) hp
  rw[<-Nat.pow_add] at this
  have h3:2 ^ (k.log2+1+(e+1074).toNat)<=2 ^ 53:=Nat.pow_le_pow_right (by omega) (by omega)
  omega
 ·omega
theorem en (n:Bool)(k t:Nat)(p:Int)(h:0<k)(h2:k<2 ^ 53)(lo:-1074<=p+t)(hi:(k.log2:Int)+(p+t)<=1023) :
  double.nearest n (k*2 ^ t) p=word n (rungOf k (p+t)):=by
 have hl:=bQ h h2
 have hr:=(jl h h2 hi).2
 have h0:k*2 ^ t≠0:=by have:=Nat.mul_pos h (Nat.two_pow_pos t);omega
 unfold Format.nearest
 rw[if_neg h0]
 simp only[show double.fractionBits=52 from rfl,show double.leastPlace = -1074 from rfl,show double.binade=4503599627370496 from rfl,show double.infRung=9218868437227405312 from rfl,kJ k t h,ab7]
 congr 1
 unfold rungOf at hr ⊢
 by_cases c:(k.log2:Int)+(p+t)<=-1022
 ·rw[if_pos c] at hr ⊢
  have hm:max (p+((k.log2+t:Nat):Int)-(52:Nat)) (-1074) = -1074:=by omega
  rw[hm]
  have e:Toward.even.cut n ((k*2 ^ t) <<< (p - -1074).toNat) (-1074-p).toNat=k*2 ^ (p+t+1074).toNat:=by
   rw[Nat.shiftLeft_eq]
   by_cases hp:-1074<=p
   ·rw[show (-1074-p).toNat=0 from by omega,nX,Nat.mul_assoc,<-Nat.pow_add,show t+(p - -1074).toNat=(p+t+1074).toNat from by omega]
   ·rw[show (p - -1074).toNat=0 from by omega,Nat.pow_zero,Nat.mul_one,show t=(p+t+1074).toNat+(-1074-p).toNat from by omega,Nat.pow_add,<-Nat.mul_assoc,nY _ _ _ (Nat.mul_pos h (Nat.two_pow_pos _))]
    congr 2;omega
  rw[e]
  have:((-1074:Int) - -1074).toNat*4503599627370496+k*2 ^ (p+t+1074).toNat=k*2 ^ (p+t+1074).toNat:=by simp
  rw[this];omega
 ·rw[if_neg c] at hr ⊢
  have hm:max (p+((k.log2+t:Nat):Int)-(52:Nat)) (-1074)=p+((k.log2+t:Nat):Int)-52:=by omega
  rw[hm]
  have e:Toward.even.cut n ((k*2 ^ t) <<< (p-(p+((k.log2+t:Nat):Int)-52)).toNat) (p+((k.log2+t:Nat):Int)-52-p).toNat=k*2 ^ (52-k.log2):=by
   rw[Nat.shiftLeft_eq]
   by_cases hp:k.log2+t<=52
   ·rw[show (p+((k.log2+t:Nat):Int)-52-p).toNat=0 from by omega,nX,Nat.mul_assoc,<-Nat.pow_add,show t+(p-(p+((k.log2+t:Nat):Int)-52)).toNat=52-k.log2 from by omega]
   ·rw[show (p-(p+((k.log2+t:Nat):Int)-52)).toNat=0 from by omega,Nat.pow_zero,Nat.mul_one]
    have ed:(p+((k.log2+t:Nat):Int)-52-p).toNat=k.log2+t-52:=by omega
    rw[ed]
    have et:k*2 ^ t=k*2 ^ (52-k.log2)*2 ^ (k.log2+t-52):=by rw[Nat.mul_assoc,<-Nat.pow_add];congr 2;omega
    rw[et,nY _ _ _ (Nat.mul_pos h (Nat.two_pow_pos _))]
  rw[e,show (p+((k.log2+t:Nat):Int)-52 - -1074).toNat=((k.log2:Int)+(p+t)+1022).toNat from by omega]
  omega
theorem aay (n:Int)(h:n≠0)(h2:n.natAbs<2 ^ 53):FloatKind.f64.nearest n=word (decide (n<0)) (rungOf n.natAbs 0):=by
 have hk:0<n.natAbs:=by omega
 have hl:=bQ hk h2
 have:=en (decide (n<0)) n.natAbs 0 0 hk h2 (by simp) (by simp;omega)
 simp at this
 exact this
theorem bg (n:Bool){r:Nat}(h:r<9223372036854775808):rung (word n r)=r/\neg (word n r)=n/\word n r<W:=by
 unfold rung neg word W
 cases n <;> simp <;> omega
theorem fg {r:Nat}(h:4503599627370496<=r):magOf r=4503599627370496+r % 4503599627370496/\upOf r=r / 4503599627370496-1:=by
 unfold magOf upOf;rw[if_neg (by omega),if_neg (by omega)];exact⟨rfl,rfl⟩
theorem kK (n m:Bool)(r s:Nat)(hr:r<9218868437227405312)(hs:s<9218868437227405312) :
  double.mul (word n r) (word m s)=some (double.nearest (n ^^ m) (magOf r*magOf s) (-1074+(upOf r:Int)+(-1074+(upOf s:Int)))):=by
 obtain⟨a1,a2,a3⟩:=bg n (r:=r) (by omega)
 obtain⟨b1,b2,b3⟩:=bg m (r:=s) (by omega)
 unfold Format.mul
 rw[cB _ a3 (by rw[a1];exact hr),cB _ b3 (by rw[b1];exact hs),a1,a2,b1,b2]
 rfl
def tz (m:Nat):Nat:=if h:m=0\/m % 2=1 then 0 else tz (m / 2)+1
termination_by m
decreasing_by omega
def od (m:Nat):Nat:=m / 2 ^ tz m
theorem jm {k:Nat}(h:k % 2=1):tz k=0:=by rw[tz,dif_pos (Or.inr h)]
theorem xW {k:Nat}(h:0<k):tz (2*k)=tz k+1:=by
 rw[tz,dif_neg (by omega),show 2*k / 2=k from by omega]
theorem gH {k:Nat}(h:0<k)(t:Nat):tz (k*2 ^ t)=tz k+t:=by
 induction t with
 | zero=>simp
 | succ t ih=>rw[Nat.pow_succ,Nat.mul_comm (2 ^ t) 2,<-Nat.mul_assoc,Nat.mul_comm k 2,Nat.mul_assoc,xW (Nat.mul_pos h (Nat.two_pow_pos t)),ih];omega
theorem lS {k:Nat}(h:0<k)(t:Nat):od (k*2 ^ t)=od k:=by
 unfold od;rw[gH h,Nat.pow_add,Nat.mul_div_mul_right _ _ (Nat.two_pow_pos t)]
theorem xX {k:Nat}(h:k % 2=1):od k=k:=by unfold od;rw[jm h];simp
theorem eN:∀ (n m:Nat),m<=n->0<m->od m % 2=1/\m=od m*2 ^ tz m
 | 0,m,h,h0=>by omega
 | n+1,m,h,h0=>by
  by_cases ho:m % 2=1
  ·rw[xX ho,jm ho];simp[ho]
  ·obtain⟨k,rfl⟩:∃ k,m=2*k:=⟨m / 2,by omega⟩
   have hk:0<k:=by omega
   obtain⟨i1,i2⟩:=eN n k (by omega) hk
   have e1:=lS hk 1
   rw[show k*2 ^ 1=2*k from by omega] at e1
   rw[e1,xW hk,Nat.pow_succ]
   refine⟨i1,?_⟩
   rw[<-Nat.mul_assoc,<-i2];omega
theorem xY {m:Nat}(h:0<m):0<od m:=by have:=(eN m m (Nat.le_refl _) h).1;omega
theorem abA (m:Nat):od m<=m:=Nat.div_le_self _ _
def kOf (r:Nat):Nat:=od (val r)
def eOf (r:Nat):Int := -1074+(tz (val r):Int)
theorem iq (r:Nat):magOf r<2 ^ 53:=by unfold magOf;split <;> omega
theorem ee {r:Nat}(h:0<r):0<magOf r:=by unfold magOf;split <;> omega
theorem kg {r:Nat}(h:0<r):rungOf (magOf r) (-1074+(upOf r:Int))=r:=by
 unfold rungOf magOf upOf
 by_cases c:r<4503599627370496
 ·have hl:r.log2<52:=(Nat.log2_lt (by omega)).2 (by omega)
  simp only[if_pos c]
  rw[if_pos (by omega)];simp
 ·simp only[if_neg c]
  have hl:(4503599627370496+r % 4503599627370496).log2=52:=mZ (by omega) (by omega)
  rw[hl]
  split
  ·rename_i c2
   rw[show (-1074+((r / 4503599627370496-1:Nat):Int)+1074).toNat=r / 4503599627370496-1 from by omega]
   rw[show r / 4503599627370496-1=0 from by omega];omega
  ·simp only[Nat.sub_self,Nat.pow_zero,Nat.mul_one]
   omega
theorem xZ {r:Nat}(h:0<r):kOf r=od (magOf r)/\eOf r = -1074+(upOf r:Int)+(tz (magOf r):Int):=by
 have hm:=ee h
 unfold kOf eOf
 rw[xV,lS hm,gH hm]
 omega
theorem aaz {r:Nat}(h:0<r)(hi:r<9218868437227405312):kOf r % 2=1/\kOf r<2 ^ 53/\-1074<=eOf r/\((kOf r).log2:Int)+eOf r<=1023/\rungOf (kOf r) (eOf r)=r:=by
 have hm:=ee h
 have aa:=iq r
 obtain⟨e1,e2⟩:=xZ h
 obtain⟨s1,s2⟩:=eN (magOf r) (magOf r) (Nat.le_refl _) hm
 have hle:=abA (magOf r)
 have hp:=xY hm
 have hL:(magOf r).log2=(od (magOf r)).log2+tz (magOf r):=by rw[s2,lS hp,xX s1,gH hp,jm s1,kJ _ _ hp];omega
 have hl:=bQ hm aa
 have self:=kg h
 have hu:upOf r<=2045:=by unfold upOf;split <;> omega
 rw[e1,e2]
 refine⟨s1,by omega,by omega,?_,?_⟩
 ·by_cases c:r<4503599627370496
  ·have:upOf r=0:=by unfold upOf;rw[if_pos c]
   omega
  ·omega
 ·refine Eq.trans ?_ self
  clear self
  generalize magOf r=m at *
  generalize upOf r=u at *
  unfold rungOf
  have c:((od m).log2:Int)+(-1074+(u:Int)+(tz m:Int))=(m.log2:Int)+(-1074+(u:Int)):=by omega
  rw[c]
  split
  ·conv=>rhs;rw[s2]
   rw[Nat.mul_assoc,<-Nat.pow_add];congr 2;omega
  ·congr 1
   conv=>rhs;rw[s2]
   rw[Nat.mul_assoc,<-Nat.pow_add];congr 2
   rw[<-s2];omega
theorem x7 (q:Nat)(h:1<=q):magOf (q*4503599627370496)=4503599627370496/\upOf (q*4503599627370496)=q-1:=by
 unfold magOf upOf;rw[if_neg (by omega),if_neg (by omega)];omega
theorem mul_pow (n:Bool)(q r:Nat)(h1:1<=q)(h2:q<=2046)(h0:0<r)(hr:r<9218868437227405312)
  (lo:-1074<=-1074+(upOf r:Int)+(q-1023)) (hi:((magOf r).log2:Int)+(-1074+(upOf r:Int)+(q-1023))<=1023) :
  double.mul (word n r) (q*4503599627370496)=some (word n (rungOf (magOf r) (-1074+(upOf r:Int)+(q-1023)))) /\
  double.mul (q*4503599627370496) (word n r)=some (word n (rungOf (magOf r) (-1074+(upOf r:Int)+(q-1023)))):=by
 obtain⟨p1,p2⟩:=x7 q h1
 have hs:q*4503599627370496<9218868437227405312:=by omega
 have e:=en n (magOf r) 52 (-1074+(upOf r:Int)+(q-1075)) (ee h0) (iq r) (by omega) (by omega)
 rw[show -1074+(upOf r:Int)+(q-1075)+((52:Nat):Int) = -1074+(upOf r:Int)+(q-1023) from by omega] at e
 have w0:q*4503599627370496=word false (q*4503599627370496):=rfl
 constructor
 ·rw[w0,kK n false r _ hr hs,p1,p2,Bool.xor_false,<-e,show (4503599627370496:Nat)=2 ^ 52 from rfl]
  congr 2;omega
 ·rw[w0,kK false n _ r hs hr,p1,p2,Bool.false_xor,<-e,show (4503599627370496:Nat)=2 ^ 52 from rfl,Nat.mul_comm]
  congr 2;omega
def nrm (r:Nat):Nat:=if r<4503599627370496 then r.log2*4503599627370496+r*2 ^ (52-r.log2) else r
theorem x8 {r:Nat}(h:0<r)(hi:r<9218868437227405312):4503599627370496<=nrm r/\nrm r<9218868437227405312:=by
 unfold nrm
 split
 ·have:=gG h (by omega)
  have hl:r.log2<52:=(Nat.log2_lt (by omega)).2 (by omega)
  omega
 ·omega
theorem ab8 (n:Bool){r:Nat}(h:0<r)(c:r<4503599627370496):double.mul (word n r) 4841369599423283200=some (word n (nrm r)):=by
 have e:=(mul_pow n 1075 r (by omega) (by omega) h (by omega) (by omega) (by
  have:(magOf r).log2<=52:=bQ (ee h) (iq r)
  have:upOf r=0:=by unfold upOf;rw[if_pos c]
  omega)).1
 have hu:upOf r=0:=by unfold upOf;rw[if_pos c]
 have hm:magOf r=r:=by unfold magOf;rw[if_pos c]
 have hl:r.log2<52:=(Nat.log2_lt (by omega)).2 (by omega)
 rw[hu,hm] at e
 rw[show (1075:Nat)*4503599627370496=4841369599423283200 from rfl] at e
 rw[e]
 congr 2
 unfold rungOf nrm
 rw[if_pos c]
 split
 ·rename_i c2
  have h1:r=1:=by
   have:=jP r
   rw[show r.log2=0 from by omega] at this;omega
  subst h1;decide
 ·congr 2;omega
theorem mul_one (n:Bool){r:Nat}(h:4503599627370496<=r)(hi:r<9218868437227405312):double.mul 4607182418800017408 (word n r)=some (word n r):=by
 have hu:upOf r<=2045:=by unfold upOf;split <;> omega
 have e:=(mul_pow n 1023 r (by omega) (by omega) (by omega) hi (by omega) (by
  have:(magOf r).log2<=52:=bQ (ee (by omega)) (iq r)
  omega)).2
 rw[show (1023:Nat)*4503599627370496=4607182418800017408 from rfl] at e
 rw[e,show -1074+(upOf r:Int)+(((1023:Nat):Int)-1023) = -1074+(upOf r:Int) from by omega,kg (by omega)]
def deno (n:Bool) (r:Nat):Nat:=double.nearest n (4503599627370496*magOf r) (-105+(-1074+(upOf r:Int)))
theorem aaA (n:Bool){r:Nat}(hi:r<9218868437227405312):double.mul 4368491638549381120 (word n r)=some (deno n r)/\deno n r<W:=by
 have w0:(4368491638549381120:Nat)=word false 4368491638549381120:=rfl
 constructor
 ·rw[w0,kK false n _ r (by decide) hi,Bool.false_xor]
  rfl
 ·exact double.nearest_lt n _ _
def ldE (r:Nat) (e:Int):Int:=(r / 4503599627370496:Nat)-1023+e
def ldx (n:Bool) (r:Nat) (e:Int):Nat :=
 if ldE r e < -1075 then word n 0 else if 1023<ldE r e then word n 9218868437227405312
 else if ldE r e < -1022 then deno n ((ldE r e+1076).toNat*4503599627370496+r % 4503599627370496)
 else word n ((ldE r e+1023).toNat*4503599627370496+r % 4503599627370496)
theorem rung0 {k:Nat}(h:0<k)(h2:k<2 ^ 53):rungOf k 0 / 4503599627370496=k.log2+1023/\rungOf k 0 % 4503599627370496=k*2 ^ (52-k.log2)-4503599627370496/\4503599627370496<=rungOf k 0:=by
 have hn:=gG h h2
 unfold rungOf
 rw[if_neg (by omega)]
 omega
theorem x9 (n:Bool){k:Nat}{e:Int}(h:0<k)(h2:k<2 ^ 53)(lo:-1074<=e)(hi:(k.log2:Int)+e<=1023):ldx n (rungOf k 0) e=word n (rungOf k e):=by
 obtain⟨r1,r2,r3⟩:=rung0 h h2
 have hl:=bQ h h2
 have hn:=gG h h2
 unfold ldx ldE
 rw[r1,r2]
 rw[if_neg (by omega),if_neg (by omega)]
 split
 ·rename_i c
  have e1:(((k.log2+1023:Nat):Int)-1023+e+1076).toNat*4503599627370496+(k*2 ^ (52-k.log2)-4503599627370496) ≥ 4503599627370496:=by omega
  unfold deno
  rw[(fg e1).1,(fg e1).2]
  have e2:4503599627370496+((((k.log2+1023:Nat):Int)-1023+e+1076).toNat*4503599627370496+(k*2 ^ (52-k.log2)-4503599627370496)) % 4503599627370496=k*2 ^ (52-k.log2):=by omega
  have e3:((((k.log2+1023:Nat):Int)-1023+e+1076).toNat*4503599627370496+(k*2 ^ (52-k.log2)-4503599627370496)) / 4503599627370496-1=((k.log2:Int)+e+1075).toNat:=by omega
  rw[e2,e3]
  have e4:4503599627370496*(k*2 ^ (52-k.log2))=k*2 ^ (104-k.log2):=by
   rw[show (4503599627370496:Nat)=2 ^ 52 from rfl,Nat.mul_comm,Nat.mul_assoc,<-Nat.pow_add,show 52-k.log2+52=104-k.log2 from by omega]
  rw[e4,en n k (104-k.log2) _ h h2 (by omega) (by omega)]
  exact congrArg (fun x=>word n (rungOf k x)) (by omega)
 ·rename_i c
  refine congrArg (word n) ?_
  unfold rungOf
  split
  ·rename_i c2
   rw[show (e+1074).toNat=52-k.log2 from by omega];omega
  ·omega
theorem ada (n:Bool)(f:Nat)(hf:f<4503599627370496):ldx n (4602678819172646912+f) 53=word n (4841369599423283200+f):=by
 unfold ldx ldE
 rw[show (4602678819172646912+f) / 4503599627370496=1022 from by omega,show (4602678819172646912+f) % 4503599627370496=f from by omega]
 simp
theorem v8 (n:Bool)(f:Nat)(hf:f<4503599627370496):floatToIntVal .f64 (word n (4841369599423283200+f)) .i64=some ((if n then -1 else 1)*((4503599627370496+f:Nat):Int)):=by
 obtain⟨a1,a2,a3⟩:=bg n (r:=4841369599423283200+f) (by omega)
 unfold floatToIntVal
 have e:FloatKind.f64.decode (word n (4841369599423283200+f))=.number n (4503599627370496+f) 0:=by
  show double.read _=_
  rw[cB _ a3 (by rw[a1];omega),a1,a2,(fg (by omega)).1,(fg (by omega)).2]
  rw[show (4841369599423283200+f) % 4503599627370496=f from by omega,show (4841369599423283200+f) / 4503599627370496-1=1074 from by omega]
  rfl
 rw[e]
 have e2:(Datum.number n (4503599627370496+f) 0).toInt .zero=some ((if n then -1 else 1)*((4503599627370496+f:Nat):Int)):=by
  unfold Datum.toInt Datum.integral
  have:Toward.zero.cut n ((4503599627370496+f) <<< (0:Int).toNat) (-(0:Int)).toNat=4503599627370496+f:=by
   unfold Toward.cut
   simp[Nat.shiftLeft_eq]
  simp only[this,nW]
  simp
 rw[e2]
 simp only
 rw[if_pos]
 cases n <;> simp[IntKind.min,IntKind.max,IntKind.signed,IntKind.bits] <;> omega
def fOf (r:Nat):Nat:=nrm r % 4503599627370496
def xOf (r:Nat):Int:=(nrm r / 4503599627370496:Nat)-1022-(if r<4503599627370496 then 52 else 0)
theorem adb (r:Nat):fOf r<4503599627370496:=Nat.mod_lt _ (by decide)
theorem ab9 {r:Nat}(h:0<r):od (4503599627370496+fOf r)=kOf r/\xOf r-53+(tz (4503599627370496+fOf r):Int)=eOf r:=by
 obtain⟨e1,e2⟩:=xZ h
 rw[e1,e2]
 unfold fOf xOf nrm
 by_cases c:r<4503599627370496
 ·have hn:=gG h (by omega)
  have hl:r.log2<52:=(Nat.log2_lt (by omega)).2 (by omega)
  have hu:upOf r=0:=by unfold upOf;rw[if_pos c]
  have hm:magOf r=r:=by unfold magOf;rw[if_pos c]
  simp only[if_pos c]
  rw[hu,hm]
  have e3:4503599627370496+(r.log2*4503599627370496+r*2 ^ (52-r.log2)) % 4503599627370496=r*2 ^ (52-r.log2):=by omega
  rw[e3,lS h,gH h]
  refine⟨rfl,?_⟩
  omega
 ·simp only[if_neg c]
  obtain⟨m1,m2⟩:=fg (r:=r) (by omega)
  rw[m1,m2]
  refine⟨rfl,?_⟩
  omega
theorem eo (a b:Int):compare a b=if a<b then .lt else if b<a then .gt else .eq:=by
 by_cases h:a<b
 ·rw[if_pos h];exact qV h
 ·rw[if_neg h]
  by_cases h2:b<a
  ·rw[if_pos h2];exact qW h2
  ·rw[if_neg h2]
   obtain rfl:a=b:=by omega
   simp[compare,compareOfLessAndEq]
theorem qX (x y:Nat)(hx:x<W)(hy:y<W):(FloatKind.f64.format.order x y != some .eq)=(nan x||nan y||decide (sk x≠sk y)):=by
 show (double.order x y != some .eq)=_
 rw[kI x y hx hy,eo]
 cases nan x <;> cases nan y <;> simp only[Bool.or_true,Bool.or_false,Bool.true_or,Bool.false_or,if_true,Bool.false_eq_true,if_false]
 ·by_cases h:sk x<sk y
  ·rw[if_pos h,decide_eq_true (by omega)];rfl
  ·rw[if_neg h]
   by_cases h2:sk y<sk x
   ·rw[if_pos h2,decide_eq_true (by omega)];rfl
   ·rw[if_neg h2,decide_eq_false (by omega)];rfl
 all_goals rfl
theorem ade (x y:Nat)(hx:x<W)(hy:y<W):(FloatKind.f64.format.order x y==some .eq)=(!nan x&&!nan y&&decide (sk x=sk y)):=by
 have h:=qX x y hx hy
 rw[bne] at h
 rw[<-Bool.not_not (FloatKind.f64.format.order x y==some .eq),h]
 cases nan x <;> cases nan y <;> simp
theorem qY (x y:Nat)(hx:x<W)(hy:y<W):(FloatKind.f64.format.order x y==some .lt)=(!nan x&&!nan y&&decide (sk x<sk y)):=by
 show (double.order x y==some .lt)=_
 rw[kI x y hx hy,eo]
 cases nan x <;> cases nan y <;> simp only[Bool.or_true,Bool.or_false,if_true,Bool.false_eq_true,if_false,Bool.not_false,Bool.not_true,Bool.true_and,Bool.false_and]
 ·by_cases h:sk x<sk y
  ·rw[if_pos h,decide_eq_true h];rfl
  ·rw[if_neg h,decide_eq_false h]
   split <;> rfl
 all_goals rfl
theorem ya (x y:Nat)(hx:x<W)(hy:y<W):(FloatKind.f64.format.order x y==some .gt)=(!nan x&&!nan y&&decide (sk y<sk x)):=by
 show (double.order x y==some .gt)=_
 rw[kI x y hx hy,eo]
 cases nan x <;> cases nan y <;> simp only[Bool.or_true,Bool.or_false,if_true,Bool.false_eq_true,if_false,Bool.not_false,Bool.not_true,Bool.true_and,Bool.false_and]
 ·by_cases h:sk x<sk y
  ·rw[if_pos h,decide_eq_false (by omega)];rfl
  ·rw[if_neg h]
   by_cases h2:sk y<sk x
   ·rw[if_pos h2,decide_eq_true h2];rfl
   ·rw[if_neg h2,decide_eq_false h2];rfl
 all_goals rfl
theorem qZ (x:Nat)(hx:x<W):(FloatKind.f64.format.order x x != some .eq)=nan x:=by
 rw[qX x x hx hx];cases nan x <;> simp
end Wm
section
open Go.RowKit
theorem gI (n:Int)(w:World):(callFunc 236 #[.int .u64 n]).run Tryz.prog w=.ok (.value (.float .f64 n.toNat)) w:=by kernel_rfl
theorem cV (b:Nat)(w:World):(callFunc 140 #[.float .f64 b]).run Tryz.prog w=.ok (.value (.int .u64 b)) w:=by kernel_rfl
def chkW (b:Nat):Int:=if Wm.nan b then 8 else 0
theorem bZ (b:Nat)(hb:b<Wm.W)(w:World) :
  Calls Tryz.prog 138 #[.float .f64 b] w fun e w'=>e=.returned (.bool (Wm.nan b))/\w=w':=by
 have H:=zh (Wm.qZ b hb)
 go_enter Tryz.func138,Tryz.ntmps138
 go_wp2_with fail
 go_ret
 exact⟨by first | rfl | (rw[H.out];rfl),rfl⟩
theorem uJ (b:Nat)(hb:b<Wm.W)(w:World) :
  Calls Tryz.prog 133 #[.float .f64 b] w fun e w'=>e=.returned (.int .i64 (chkW b))/\w=w':=by
 go_enter Tryz.func133,Tryz.ntmps133
 go_wp2_with fail
 refine (bZ b hb _).mono ?_
 rintro e w' ⟨rfl,rfl⟩
 cases hn:Wm.nan b
 all_goals
  go_wp2_with fail
  go_ret
  exact⟨by rw[chkW,hn];rfl,rfl⟩
theorem m3 (s:Int)(w:World) :
  Calls Tryz.prog 238 #[.int .i64 s] w fun e w'=>e=.returned (.float .f64 (Wm.word (decide (s<0)) 9218868437227405312))/\w=w':=by
 have aa:=gI
 go_enter Tryz.func238,Tryz.ntmps238
 by_cases h:0<=s
 ·go_wp2_with fail
  go_ret
  exact⟨by first | rfl | (rw[decide_eq_false (by omega)];rfl),rfl⟩
 ·go_wp2_with fail
  go_ret
  exact⟨by first | rfl | (rw[decide_eq_true (by omega)];rfl),rfl⟩
theorem aca (w:World) :
  Calls Tryz.prog 265 #[] w fun e w'=>e=.returned (.float .f64 9221120237041090561)/\w=w':=by
 have aa:=gI
 go_enter Tryz.func265,Tryz.ntmps265
 go_wp2_with fail
 go_ret
 exact⟨rfl,rfl⟩
end
namespace Pg
open Go.RowKit Rs At
structure Gv where
 name:List UInt8
 ver:List UInt8
 deriving DecidableEq
structure Pk where
 name:List UInt8
 ver:List UInt8
 deps:List (List Atm)
 confl:List Atm
 prov:List Gv
 wt:Nat
 deriving DecidableEq
def verE (v:List UInt8):Int:=if Vm.check v=0 then (if Vm.canon v=v then 0 else 5) else Vm.check v
def atomsE:List Atm->Int
 | []=>0
 | a :: l=>if checkA a=0 then atomsE l else checkA a
def giveE (g:Gv):Int:=if nameB g.name then (if g.ver=[] then 0 else verE g.ver) else 3
def givesE:List Gv->Int
 | []=>0
 | g :: l=>if giveE g=0 then givesE l else giveE g
def depsE:List (List Atm)->Int
 | []=>0
 | d :: l=>if 1<=d.length/\d.length<=8 then (if atomsE d=0 then depsE l else atomsE d) else 4
def checkP (p:Pk):Int :=
 if nameB p.name=false then 3
 else if verE p.ver≠0 then verE p.ver
 else if 16<p.deps.length then 4
 else if depsE p.deps≠0 then depsE p.deps
 else if 16<p.confl.length then 4
 else if atomsE p.confl≠0 then atomsE p.confl
 else if 16<p.prov.length then 4
 else if givesE p.prov≠0 then givesE p.prov
 else chkW p.wt
abbrev AtD:=List UInt8 × Desc
def encA (d:AtD):List Value:=[.string ⟨d.1.toArray⟩,.slice d.2.1 d.2.2.1 d.2.2.2]
def encG (g:Gv):List Value:=[.string ⟨g.name.toArray⟩,.string ⟨g.ver.toArray⟩]
theorem fitsA:Rg.Fits encA 2:=⟨fun _=>rfl,fun x u hu=>by
 simp only[encA,List.mem_cons,List.not_mem_nil,or_false] at hu
 rcases hu with rfl | rfl <;> rfl⟩
theorem fitsG:Rg.Fits encG 2:=⟨fun _=>rfl,fun x u hu=>by
 simp only[encG,List.mem_cons,List.not_mem_nil,or_false] at hu
 rcases hu with rfl | rfl <;> rfl⟩
def AIn (w:World) (ds:List AtD) (l:List Atm):Prop:=ds.length=l.length/\∀ (i:Nat) (d:AtD) (a:Atm),ds[i]?=some d->l[i]?=some a->d.1=a.name/\d.2.2.1=a.rng.length/\SRow w d.2.1 a.rng
def ARow (w:World) (A:Option Addr) (l:List Atm):Prop:=∃ ds,Rg.Row encA 2 w A ds/\AIn w ds l
def DIn (w:World) (ds:List Desc) (t:List (List Atm)):Prop:=ds.length=t.length/\∀ (i:Nat) (d:Desc) (l:List Atm),ds[i]?=some d->t[i]?=some l->d.2.1=l.length/\ARow w d.1 l
def DRow (w:World) (A:Option Addr) (t:List (List Atm)):Prop:=∃ ds,Rg.Row encO 1 w A ds/\DIn w ds t
abbrev GRow (w:World) (A:Option Addr) (l:List Gv):Prop:=Rg.Row encG 2 w A l
theorem nZ {w w':World}{ds:List AtD}{l:List Atm}(h:AIn w ds l)(hb:Below w.heap.size w w'):AIn w' ds l :=
 ⟨h.1,fun i d a h1 h2=>⟨(h.2 i d a h1 h2).1,(h.2 i d a h1 h2).2.1,aj (h.2 i d a h1 h2).2.2 hb⟩⟩
theorem aB {w w':World}{A:Option Addr}{l:List Atm}(h:ARow w A l)(hb:Below w.heap.size w w'):ARow w' A l:=by
 obtain⟨ds,h1,h2⟩:=h;exact⟨ds,Rg.ah h1 hb,nZ h2 hb⟩
theorem fP {w w':World}{ds:List Desc}{t:List (List Atm)}(h:DIn w ds t)(hb:Below w.heap.size w w'):DIn w' ds t :=
 ⟨h.1,fun i d l h1 h2=>⟨(h.2 i d l h1 h2).1,aB (h.2 i d l h1 h2).2 hb⟩⟩
theorem aX {w w':World}{A:Option Addr}{t:List (List Atm)}(h:DRow w A t)(hb:Below w.heap.size w w'):DRow w' A t:=by
 obtain⟨ds,h1,h2⟩:=h;exact⟨ds,Rg.ah h1 hb,fP h2 hb⟩
theorem dJ {w:World}{A:Option Addr}{l:List Atm}(h:ARow w A l)(k:Nat)(hk:k<l.length):∃ ad C n c,A=some ad/\l[k].rng.length=n/\SRow w C l[k].rng/\∀ u,Below w.heap.size w u->u.cell? (ad.add (k*2))=some (.string ⟨l[k].name.toArray⟩)/\u.cell? ⟨(ad.add (k*2)).block,(ad.add (k*2)).off+1,none⟩=some (.slice C n c):=by
 obtain⟨ds,h1,h2,h3⟩:=h
 have aa:k<ds.length:=by omega
 obtain⟨ad,e,_,_⟩:=h1 (by omega)
 obtain⟨q0,q1,q2⟩:=h3 k ds[k] l[k] (List.getElem?_eq_getElem aa) (List.getElem?_eq_getElem hk)
 refine⟨ad,ds[k].2.1,ds[k].2.2.1,ds[k].2.2.2,e,q1.symm,q2,fun u hb=>?_⟩
 obtain⟨ab,x,e',hx,_,hc⟩:=Rg.bO (Rg.ah h1 hb) k aa
 rw[e] at e';cases e'
 subst hx
 exact⟨by rw[<-q0];exact hc 0 _ rfl,hc 1 _ rfl⟩
theorem fh {w:World}{A:Option Addr}{t:List (List Atm)}(h:DRow w A t)(k:Nat)(hk:k<t.length):∃ ad C n c,A=some ad/\t[k].length=n/\ARow w C t[k]/\∀ u,Below w.heap.size w u->u.cell? (ad.add k)=some (.slice C n c):=by
 obtain⟨ds,h1,h2,h3⟩:=h
 have aa:k<ds.length:=by omega
 obtain⟨ad,e,_,_⟩:=h1 (by omega)
 obtain⟨q1,q2⟩:=h3 k ds[k] t[k] (List.getElem?_eq_getElem aa) (List.getElem?_eq_getElem hk)
 refine⟨ad,ds[k].1,ds[k].2.1,ds[k].2.2,e,q1.symm,q2,fun u hb=>?_⟩
 obtain⟨ab,x,e',hx,_,hc⟩:=Rg.bO (Rg.ah h1 hb) k aa
 rw[e] at e';cases e'
 have:=hc 0 _ rfl
 rw[if_pos rfl,Nat.mul_one] at this
 rw[hx];exact this
theorem gJ {w:World}{A:Option Addr}{l:List Gv}(h:GRow w A l)(k:Nat)(hk:k<l.length):∃ ad,A=some ad/\∀ u,Below w.heap.size w u->u.cell? (ad.add (k*2))=some (.string ⟨l[k].name.toArray⟩)/\u.cell? ⟨(ad.add (k*2)).block,(ad.add (k*2)).off+1,none⟩=some (.string ⟨l[k].ver.toArray⟩):=by
 obtain⟨ad,e,_,_⟩:=h (by omega)
 refine⟨ad,e,fun u hb=>?_⟩
 obtain⟨aa,x,e',hx,_,hc⟩:=Rg.bO (Rg.ah h hb) k hk
 rw[e] at e';cases e'
 subst hx
 exact⟨hc 0 _ rfl,hc 1 _ rfl⟩
def AFew (l:List Atm):Prop:=∀ a∈l,a.name.length<=maxLen/\a.rng.length<=1000
def GFew (l:List Gv):Prop:=∀ g∈l,g.name.length<=maxLen/\g.ver.length<=maxLen
theorem gK {l:List Atm}(h:AFew l)(k:Nat)(hk:k<l.length):l[k].name.length<=maxLen/\l[k].rng.length<=1000:=h _ (List.getElem_mem hk)
theorem acb {l:List Gv}(h:GFew l)(k:Nat)(hk:k<l.length):l[k].name.length<=maxLen/\l[k].ver.length<=maxLen:=h _ (List.getElem_mem hk)
end Pg
section
open Go.RowKit Rs At Pg
attribute [local go_sem ↓] Go.wp_at_zero Go.wp_at_succ
theorem bN (k:Int)(w:World):Calls Tryz.prog 132 #[.int .i64 k] w fun e w'=>e=a8 k/\w=w':=by
 by_cases hk:k=0
 ·subst hk
  go_enter Tryz.func132,Tryz.ntmps132
  go_wp2_with fail
  refine (ag _).mono ?_
  rintro _ z ⟨rfl,rfl⟩
  go_wp2_with fail
  go_end0
  exact⟨rfl,rfl⟩
 ·have d:(k==0)=false:=beq_eq_false_iff_ne.2 hk
  have HK:Hid (a8 k=pan k):=aP hk
  clear hk
  go_enter Tryz.func132,Tryz.ntmps132
  go_wp2_with fail
  refine (ai _).mono ?_
  rintro _ z ⟨rfl,rfl⟩
  go_wp2_with fail
  exact⟨rfl,by rw[HK.out],rfl⟩
theorem dv (v:List UInt8)(w:World)(hw:MaxOk w):Calls Tryz.prog 129 #[.string ⟨v.toArray⟩] w fun e w'=>e=a8 (verE v)/\Below w.heap.size w w':=by
 obtain⟨R,hR⟩:=ex (verE v)
 rw[hR]
 unfold verE at hR
 have HC:=zh (bY v w hw)
 obtain⟨x,hx⟩:=ex (canonOf v)
 obtain⟨k,hk⟩:=ex (Vm.check v)
 rw[hx,hk] at HC
 rw[hk] at hR
 have HX:Hid (k=0->Vm.canon v=x):=fun h=>by rw[<-hx];unfold canonOf;rw[if_pos (hk.trans h)]
 clear hx hk hw
 by_cases h0:k=0
 ·subst h0
  rw[if_pos rfl,HX.out rfl] at hR
  by_cases hv:x=v
  ·rw[if_pos hv] at hR
   subst hR
   have e:(x==v)=true:=by simpa using hv
   clear hv
   go_enter Tryz.func129,Tryz.ntmps129
   go_wp2_with fail
   refine HC.out.mono ?_
   rintro _ u ⟨rfl,hb⟩
   have HB:=zh hb
   clear hb
   go_wp2_with fail
   refine (bN 0 _).mono ?_
   rintro _ z ⟨rfl,rfl⟩
   rw[aQ]
   go_wp2_with fail
   refine (ag _).mono ?_
   rintro _ z ⟨rfl,rfl⟩
   go_wp2_with fail
   go_end0
   exact⟨rfl,HB.out⟩
  ·rw[if_neg hv] at hR
   subst hR
   have e:(x==v)=false:=beq_eq_false_iff_ne.2 hv
   clear hv
   go_enter Tryz.func129,Tryz.ntmps129
   go_wp2_with fail
   refine HC.out.mono ?_
   rintro _ u ⟨rfl,hb⟩
   have HB:=zh hb
   clear hb
   go_wp2_with fail
   refine (bN 0 _).mono ?_
   rintro _ z ⟨rfl,rfl⟩
   rw[aQ]
   go_wp2_with fail
   refine (ai _).mono ?_
   rintro _ z ⟨rfl,rfl⟩
   go_wp2_with fail
   exact⟨rfl,rfl,HB.out⟩
 ·rw[if_neg h0] at hR
  subst hR
  have HK:Hid (a8 k=pan k):=aP h0
  clear h0
  go_enter Tryz.func129,Tryz.ntmps129
  go_wp2_with fail
  refine HC.out.mono ?_
  rintro _ u ⟨rfl,hb⟩
  have HB:=zh hb
  clear hb
  go_wp2_with fail
  refine (bN k _).mono ?_
  rintro _ z ⟨rfl,rfl⟩
  rw[HK.out]
  go_wp2_with fail
  exact⟨rfl,by rw[HK.out],HB.out⟩
theorem Pg.ao {w W1 u:World}{a b:Value}{T:TypeId}(h1:w.alloc (.cells #[a,b] T)=W1)(hb:Below W1.heap.size W1 u):u.cell? ⟨w.heap.size,0,none⟩=some a/\u.cell? ⟨w.heap.size,1,none⟩=some b :=
 ⟨(cZ h1 hb).1,(cZ h1 hb).2.1⟩
theorem lT (g:Gv)(w:World)(hw:MaxOk w)(hm:g.name.length<=maxLen):Calls Tryz.prog 131 #[.agg #[.string ⟨g.name.toArray⟩,.string ⟨g.ver.toArray⟩]] w fun e w'=>e=a8 (giveE g)/\Below w.heap.size w w':=by
 obtain⟨nm,v⟩:=g
 dsimp only at hm ⊢
 obtain⟨R,hR⟩:=ex (giveE ⟨nm,v⟩)
 rw[hR]
 unfold giveE at hR
 dsimp only at hR
 obtain⟨W1,ae⟩:=ex (w.alloc (.cells #[.string ⟨nm.toArray⟩,.string ⟨v.toArray⟩] 128))
 have ac:Hid (Below w.heap.size w W1):=ab ae
 obtain⟨c0,c1⟩:=ao ae (Below.refl _ _)
 have HN:=zh (d7 nm W1 hm)
 have HV:=zh (dv v W1 (aa hw ac.out))
 clear hw hm
 cases ad:nameB nm
 ·rw[ad] at hR HN
  rw[if_neg (by decide)] at hR
  subst hR
  clear HV ad
  go_enter Tryz.func131,Tryz.ntmps131
  go_wp2_with fail
  refine HN.out.mono ?_
  rintro _ z ⟨rfl,rfl⟩
  go_wp2_with fail
  refine (ai _).mono ?_
  rintro _ z ⟨rfl,rfl⟩
  go_wp2_with fail
  exact⟨rfl,rfl,ac.out⟩
 ·rw[ad] at hR HN
  rw[if_pos rfl] at hR
  clear ad
  by_cases hv:v=[]
  ·rw[if_pos hv] at hR
   subst hR
   have e:(v==[])=true:=by rw[hv];rfl
   clear hv HV
   go_enter Tryz.func131,Tryz.ntmps131
   go_wp2_with fail
   refine HN.out.mono ?_
   rintro _ z ⟨rfl,rfl⟩
   go_wp2_with fail
   refine (ag _).mono ?_
   rintro _ z ⟨rfl,rfl⟩
   go_wp2_with fail
   go_end0
   exact⟨rfl,ac.out⟩
  ·rw[if_neg hv] at hR
   rw[hR] at HV
   have e:(v==[])=false:=beq_eq_false_iff_ne.2 hv
   clear hv hR
   by_cases h0:R=0
   ·subst h0
    go_enter Tryz.func131,Tryz.ntmps131
    go_wp2_with fail
    refine HN.out.mono ?_
    rintro _ z ⟨rfl,rfl⟩
    go_wp2_with fail
    refine (ag _).mono ?_
    rintro _ z ⟨rfl,rfl⟩
    go_wp2_with fail
    refine HV.out.mono ?_
    rintro _ u ⟨rfl,hb⟩
    have HB:=zh (bt ac.out hb)
    clear hb
    rw[aQ]
    go_wp2_with fail
    go_end0
    exact⟨rfl,HB.out⟩
   ·have HK:Hid (a8 R=pan R):=aP h0
    clear h0
    go_enter Tryz.func131,Tryz.ntmps131
    go_wp2_with fail
    refine HN.out.mono ?_
    rintro _ z ⟨rfl,rfl⟩
    go_wp2_with fail
    refine (ag _).mono ?_
    rintro _ z ⟨rfl,rfl⟩
    go_wp2_with fail
    refine HV.out.mono ?_
    rintro _ u ⟨rfl,hb⟩
    have HB:=zh (bt ac.out hb)
    clear hb
    rw[HK.out]
    go_wp2_with fail
    exact⟨rfl,by rw[HK.out],HB.out⟩
theorem Pg.tt (a:Atm)(l:List Atm):atomsE (a :: l)=if checkA a=0 then atomsE l else checkA a:=rfl
theorem fi (A:Option Addr)(n c:Nat)(l:List Atm)(w:World)(hw:MaxOk w)(hn:l.length=n)(hr:ARow w A l)(hl:n<=1000000)(hf:AFew l) :
  Calls Tryz.prog 130 #[.slice A n c] w fun e w'=>e=a8 (atomsE l)/\Below w.heap.size w w':=by
 obtain⟨R,hR⟩:=ex (atomsE l)
 rw[hR]
 have HM:=zh hw
 have HN:=zh hn
 have HR:=zh hr
 have HF:=zh hf
 have HG:=zh hR
 clear hw hn hr hf hR
 go_enter Tryz.func130,Tryz.ntmps130
 go_wp2_with fail
 go_loopw [6] (fun i wr=>∃ k:Nat,k<=n/\i=.int .i64 k/\Hid (atomsE (l.drop k)=R)/\Hid (Below w.heap.size w wr)) (fun i _=>n-(intOf i).toNat)
 case atStart=>exact⟨0,Nat.zero_le _,rfl,HG.out,Below.refl _ _⟩
 case round =>
  obtain⟨k,hk,rfl,HH,HW⟩:=hrel
  by_cases ag:k<n
  ·have ae:k<l.length:=by rw[HN.out];exact ag
   obtain⟨ad,C,m,d,rfl,hm,hs,hc⟩:=dJ HR.out k ae
   obtain⟨c0,c1⟩:=hc _ HW.out
   have hd:l.drop k=l[k] :: l.drop (k+1):=List.drop_eq_getElem_cons ae
   obtain⟨f1,f2⟩:=gK HF.out k ae
   have hh:=HH.out
   rw[hd,tt] at hh
   obtain⟨a,ha⟩:=ex (l[k])
   rw[ha] at c0 hm hs f1 f2 hh
   obtain⟨nm,rg⟩:=a
   dsimp only at c0 hm hs f1 f2
   obtain⟨V,hV⟩:=ex (wr.alloc (.cells #[.string ⟨nm.toArray⟩,.slice C m d] 54))
   have ac:Hid (Below w.heap.size w V):=HW.out.trans ((ab hV).mono HW.out.size)
   obtain⟨v0,v1⟩:=ao hV (Below.refl _ _)
   have af:=zh (oQ nm C m d rg V (aa HM.out ac.out) f1 hm (aj hs ac.out) (by rw[<-hm];exact f2))
   obtain⟨x,hx⟩:=ex (checkA ⟨nm,rg⟩)
   rw[hx] at hh af
   clear hc hd ha hs f1 f2 hx hm
   by_cases h0:x=0
   ·subst h0
    have HE:Hid (atomsE (l.drop (k+1))=R):=by rw[if_pos rfl] at hh;exact hh
    clear hh
    go_wp2_with fail
    clear hV
    refine af.out.mono ?_
    rintro _ u ⟨rfl,hb⟩
    have HB:=zh (bt ac.out hb)
    clear hb
    go_wp2_with fail
    refine (bN 0 _).mono ?_
    rintro _ z ⟨rfl,rfl⟩
    rw[aQ]
    go_wp2_with fail
    go_roundw
    case rel=>exact⟨k+1,by omega,by go_num,HE,HB.out⟩
    case measure=>simp[intOf];omega
   ·have HE:Hid (x=R):=by rw[if_neg h0] at hh;exact hh
    have HK:Hid (a8 x=pan x):=aP h0
    clear hh h0
    go_wp2_with fail
    clear hV
    refine af.out.mono ?_
    rintro _ u ⟨rfl,hb⟩
    have HB:=zh (bt ac.out hb)
    clear hb
    go_wp2_with fail
    refine (bN x _).mono ?_
    rintro _ z ⟨rfl,rfl⟩
    rw[HK.out]
    go_wp2_with fail
    exact⟨rfl,by rw[<-HE.out,HK.out],HB.out⟩
  ·obtain rfl:k=n:=by omega
   have HE:Hid (R=0):=by show _=_;rw[<-HH.out,List.drop_eq_nil_of_le (by rw[HN.out];exact Nat.le_refl _)];rfl
   go_wp2_with fail
   go_end0
   exact⟨by rw[HE.out];rfl,HW.out⟩
end
end Go.Proofs.YtkoaljpfoekgkaaGreatDoor
