/- Part 12 of what the laws lean on. -/
import Derived.Test.YtgnaiidgjmicaaaGreatDoorL11
set_option maxRecDepth 100000
set_option maxHeartbeats 800000
namespace Go.Proofs.YtgnaiidgjmicaaaGreatDoor
namespace Wm
open Ieee
def rung (b:Nat):Nat:=b % 9223372036854775808
def neg (b:Nat):Bool:=decide (9223372036854775808<=b)
def nan (b:Nat):Bool:=decide (9218868437227405312<rung b)
def sk (b:Nat):Int:=if neg b then -(rung b:Int) else (rung b:Int)
def W:Nat:=18446744073709551616
def val (r:Nat):Nat:=if r<4503599627370496 then r else (4503599627370496+r % 4503599627370496)*2 ^ (r / 4503599627370496-1)
def magOf (r:Nat):Nat:=if r<4503599627370496 then r else 4503599627370496+r % 4503599627370496
def upOf (r:Nat):Nat:=if r<4503599627370496 then 0 else r / 4503599627370496-1
theorem aao (r:Nat):val r=magOf r*2 ^ upOf r:=by
 unfold val magOf upOf;split <;> simp
theorem tf {a b i j:Nat}(h:a<2 ^ 53)(hb:2 ^ 52<=b)(hij:i<j):a*2 ^ i<b*2 ^ j:=by
 have h1:2 ^ (i+1)<=2 ^ j:=Nat.pow_le_pow_right (by omega) hij
 have h2:2 ^ (i+1)=2*2 ^ i:=by rw[Nat.pow_succ];omega
 have h3:0<2 ^ i:=Nat.two_pow_pos i
 calc a*2 ^ i<2 ^ 53*2 ^ i:=Nat.mul_lt_mul_of_pos_right h h3
  _=2 ^ 52*2 ^ (i+1):=by rw[h2];omega
  _<=b*2 ^ j:=Nat.mul_le_mul hb h1
theorem oS {r s:Nat}(h:r<s):val r<val s:=by
 unfold val
 split
 ·rename_i h1
  split
  ·exact h
  ·have:0<2 ^ (s / 4503599627370496-1):=Nat.two_pow_pos _
   calc r<4503599627370496:=h1
    _<=4503599627370496+s % 4503599627370496:=by omega
    _=(4503599627370496+s % 4503599627370496)*1:=by omega
    _<=_:=Nat.mul_le_mul_left _ this
 ·rename_i h1
  rw[if_neg (by omega)]
  by_cases hq:r / 4503599627370496=s / 4503599627370496
  ·rw[hq]
   exact Nat.mul_lt_mul_of_pos_right (by omega) (Nat.two_pow_pos _)
  ·exact tf (by omega) (by omega) (by omega)
theorem aap {r s:Nat}(h:r<=s):val r<=val s:=by
 rcases Nat.lt_or_eq_of_le h with h | rfl
 ·exact Nat.le_of_lt (oS h)
 ·exact Nat.le_refl _
theorem cN (b:Nat)(hb:b<W)(h:rung b<9218868437227405312):double.read b=.number (neg b) (magOf (rung b)) (-1074+(upOf (rung b):Int)):=by
 have hn:(b / 9223372036854775808 % 2==1)=neg b:=by
  unfold neg;unfold W at hb
  rw[Bool.eq_iff_iff];simp;omega
 unfold Format.read
 simp only[show double.signWeight=9223372036854775808 from rfl,show double.binade=4503599627370496 from rfl,show double.infRung=9218868437227405312 from rfl,show double.leastPlace = -1074 from rfl,hn,show b % 9223372036854775808=rung b from rfl]
 unfold magOf upOf
 split
 ·rfl
 ·first | rfl | rw[if_pos h]
theorem jA (b:Nat)(hb:b<W)(h:rung b=9218868437227405312):double.read b=.infinity (neg b):=by
 have hn:(b / 9223372036854775808 % 2==1)=neg b:=by
  unfold neg;unfold W at hb
  rw[Bool.eq_iff_iff];simp;omega
 unfold Format.read
 simp only[show double.signWeight=9223372036854775808 from rfl,show double.binade=4503599627370496 from rfl,show double.infRung=9218868437227405312 from rfl,show double.leastPlace = -1074 from rfl,hn,show b % 9223372036854775808=rung b from rfl,h]
 rfl
theorem oT (b:Nat)(h:nan b=true):∃ s t,double.read b=.nan s t:=by
 unfold nan at h
 have h':=of_decide_eq_true h
 refine⟨b / 9223372036854775808 % 2==1,rung b-9218868437227405312,?_⟩
 unfold Format.read
 simp only[show double.signWeight=9223372036854775808 from rfl,show double.binade=4503599627370496 from rfl,show double.infRung=9218868437227405312 from rfl,show double.leastPlace = -1074 from rfl,show b % 9223372036854775808=rung b from rfl]
 rw[if_neg (by omega),if_neg (by omega),if_neg (by omega)]
def sv (b:Nat):Int:=if neg b then -(val (rung b):Int) else (val (rung b):Int)
theorem tg (x y:Nat):compare (sv x) (sv y)=compare (sk x) (sk y):=by
 have aa:∀ {r s:Nat},r<s↔val r<val s:=fun {r s}=>⟨oS,fun h=>Nat.lt_of_not_le fun h2=>absurd (aap h2) (Nat.not_le_of_gt h)⟩
 have h1:=@aa (rung x) (rung y)
 have h2:=@aa (rung y) (rung x)
 have h0:∀ r,val r=0↔r=0:=fun r=>⟨fun h=>by
  rcases Nat.eq_zero_or_pos r with h3 | h3
  ·exact h3
  ·have:=oS h3;rw[h] at this;simp at this,fun h=>by subst h;rfl⟩
 have h3:=h0 (rung x)
 have h4:=h0 (rung y)
 simp only[compare,compareOfLessAndEq]
 unfold sv sk
 cases neg x <;> cases neg y <;> simp only[Bool.false_eq_true,if_false,if_true] <;> (congr 1 <;> first | (apply propext;omega) | (congr 1;apply propext;omega) | skip)
theorem uU (n:Bool)(m up:Nat):signed n m up=(if n then -1 else 1)*((m*2 ^ up:Nat):Int):=by
 unfold signed;rw[Nat.shiftLeft_eq];cases n <;> simp
theorem nt (k:Nat)(a b:Int):compare (a*(2 ^ k:Nat)) (b*(2 ^ k:Nat))=compare a b:=by
 have hp:(0:Int)<((2 ^ k:Nat):Int):=by exact_mod_cast Nat.two_pow_pos k
 have h1:a*(2 ^ k:Nat)<b*(2 ^ k:Nat)↔a<b:=⟨fun h=>Int.lt_of_mul_lt_mul_right h (Int.le_of_lt hp),fun h=>Int.mul_lt_mul_of_pos_right h hp⟩
 have h2:a*(2 ^ k:Nat)=b*(2 ^ k:Nat)↔a=b:=⟨fun h=>Int.eq_of_mul_eq_mul_right (by omega) h,fun h=>by rw[h]⟩
 simp only[compare,compareOfLessAndEq,h1,h2]
theorem nu (s t:Bool)(m n a c:Nat) :
  (Datum.number s m (-1074+(a:Int))).order (.number t n (-1074+(c:Int)))=some (compare ((if s then -1 else 1)*((m*2 ^ a:Nat):Int)) ((if t then -1 else 1)*((n*2 ^ c:Nat):Int))):=by
 unfold Datum.order
 simp only[uU]
 congr 1
 have e1:a=(-1074+(a:Int)-min (-1074+(a:Int)) (-1074+(c:Int))).toNat+min a c:=by omega
 have e2:c=(-1074+(c:Int)-min (-1074+(a:Int)) (-1074+(c:Int))).toNat+min a c:=by omega
 generalize (-1074+(a:Int)-min (-1074+(a:Int)) (-1074+(c:Int))).toNat=p at *
 generalize (-1074+(c:Int)-min (-1074+(a:Int)) (-1074+(c:Int))).toNat=q at *
 generalize min a c=k at *
 subst e1 e2
 have hx:∀ (x:Int) (u:Nat),x*((u*2 ^ k:Nat):Int)=x*(u:Int)*((2 ^ k:Nat):Int):=fun x u=>by rw[Int.natCast_mul,Int.mul_assoc]
 rw[Nat.pow_add,Nat.pow_add,<-Nat.mul_assoc,<-Nat.mul_assoc,hx _ (m*2 ^ p),hx _ (n*2 ^ q),nt]
theorem yJ (b:Nat):(if neg b then -1 else 1)*((magOf (rung b)*2 ^ upOf (rung b):Nat):Int)=sv b:=by
 rw[<-aao];unfold sv;cases neg b <;> simp
theorem oU {a b:Int}(h:a<b):compare a b=.lt:=by simp only[compare,compareOfLessAndEq,if_pos h]
theorem oV {a b:Int}(h:b<a):compare a b=.gt:=by simp only[compare,compareOfLessAndEq];rw[if_neg (by omega),if_neg (by omega)]
theorem fI (b:Nat):rung b<9223372036854775808:=Nat.mod_lt _ (by decide)
theorem jB (x y:Nat)(hx:x<W)(hy:y<W):double.order x y=if nan x||nan y then none else some (compare (sk x) (sk y)):=by
 unfold Format.order
 cases aa:nan x
 ·cases ab:nan y
  ·have h1:rung x<=9218868437227405312:=by unfold nan at aa;simpa using aa
   have h2:rung y<=9218868437227405312:=by unfold nan at ab;simpa using ab
   simp only[Bool.or_self,Bool.false_eq_true,if_false]
   rcases Nat.lt_or_eq_of_le h1 with h1 | h1
   ·rw[cN x hx h1]
    rcases Nat.lt_or_eq_of_le h2 with h2 | h2
    ·rw[cN y hy h2,nu,yJ,yJ,tg]
    ·rw[jA y hy h2]
     have e:compare (sk x) (sk y)=if neg y then .gt else .lt:=by
      unfold sk
      cases neg y <;> cases neg x <;> simp only[Bool.false_eq_true,if_false,if_true] <;> first | exact oU (by omega) | exact oV (by omega)
     rw[e];rfl
   ·rw[jA x hx h1]
    rcases Nat.lt_or_eq_of_le h2 with h2 | h2
    ·rw[cN y hy h2]
     have e:compare (sk x) (sk y)=if neg x then .lt else .gt:=by
      unfold sk
      cases neg y <;> cases neg x <;> simp only[Bool.false_eq_true,if_false,if_true] <;> first | exact oU (by omega) | exact oV (by omega)
     rw[e];rfl
    ·rw[jA y hy h2]
     have e:compare (sk x) (sk y)=compare (neg y).toNat (neg x).toNat:=by
      unfold sk;rw[h1,h2]
      cases neg y <;> cases neg x <;> decide
     rw[e];rfl
  ·obtain⟨s,t,h⟩:=oT y ab
   rw[h]
   cases double.read x <;> rfl
 ·obtain⟨s,t,h⟩:=oT x aa
  rw[h]
  cases double.read y <;> rfl
theorem lL {k l:Nat}(h1:2 ^ l<=k)(h2:k<2 ^ (l+1)):k.log2=l:=by
 have h0:k≠0:=by have:=Nat.two_pow_pos l;omega
 have a:=(Nat.le_log2 h0).2 h1
 have b:=(Nat.log2_lt h0).2 h2
 omega
theorem rO {k:Nat}(h:0<k):2 ^ k.log2<=k:=(Nat.le_log2 (by omega)).1 (Nat.le_refl _)
theorem iR (k:Nat):k<2 ^ (k.log2+1):=Nat.lt_log2_self
theorem oW (k t:Nat)(h:0<k):(k*2 ^ t).log2=k.log2+t:=by
 refine lL ?_ ?_
 ·rw[Nat.pow_add];exact Nat.mul_le_mul_right _ (rO h)
 ·rw[show k.log2+t+1=(k.log2+1)+t from by omega,Nat.pow_add];exact Nat.mul_lt_mul_of_pos_right (iR k) (Nat.two_pow_pos t)
theorem bN {k:Nat}(h:0<k)(h2:k<2 ^ 53):k.log2<=52:=by
 have:=(Nat.log2_lt (by omega:k≠0)).2 h2;omega
theorem mH (neg:Bool)(n:Nat):Toward.even.cut neg n 0=n:=by
 have h1:n % 1=0:=Nat.mod_one n
 unfold Toward.cut
 simp[Nat.shiftLeft_eq,h1]
theorem mI (neg:Bool)(k d:Nat)(h:0<k):Toward.even.cut neg (k*2 ^ d) d=k:=by
 have hp:=Nat.two_pow_pos d
 have h1:min d ((k*2 ^ d).log2+2)=d:=by rw[oW k d h];omega
 have h2:(k*2 ^ d) / 2 ^ d=k:=Nat.mul_div_cancel _ hp
 have h3:(k*2 ^ d) % 2 ^ d=0:=Nat.mul_mod_left _ _
 unfold Toward.cut
 simp only[h1,Nat.shiftLeft_eq,Nat.one_mul,h2,h3]
 simp
def rungOf (k:Nat) (e:Int):Nat :=
 if (k.log2:Int)+e<=-1022 then k*2 ^ (e+1074).toNat else ((k.log2:Int)+e+1022).toNat*4503599627370496+k*2 ^ (52-k.log2)
def word (n:Bool) (r:Nat):Nat:=if n then 9223372036854775808+r else r
theorem zp (n:Bool)(r:Nat):double.word n r=word n r:=rfl
theorem lM {k:Nat}(h:0<k)(h2:k<2 ^ 53):4503599627370496<=k*2 ^ (52-k.log2)/\k*2 ^ (52-k.log2)<9007199254740992:=by
 have hl:=bN h h2
 have hp:=Nat.two_pow_pos (52-k.log2)
 constructor
 ·calc 4503599627370496=2 ^ k.log2*2 ^ (52-k.log2):=by rw[<-Nat.pow_add,show k.log2+(52-k.log2)=52 from by omega]
   _<=_:=Nat.mul_le_mul_right _ (rO h)
 ·calc k*2 ^ (52-k.log2)<2 ^ (k.log2+1)*2 ^ (52-k.log2):=Nat.mul_lt_mul_of_pos_right (iR k) hp
   _=9007199254740992:=by rw[<-Nat.pow_add,show k.log2+1+(52-k.log2)=53 from by omega]
theorem iq {k:Nat}{e:Int}(h:0<k)(h2:k<2 ^ 53)(hi:(k.log2:Int)+e<=1023):0<rungOf k e/\rungOf k e<9218868437227405312:=by
 have hl:=bN h h2
 have hn:=lM h h2
 unfold rungOf
 split
 ·have hp:=Nat.two_pow_pos (e+1074).toNat
  refine⟨Nat.mul_pos h hp,?_⟩
  have:k*2 ^ (e+1074).toNat<2 ^ (k.log2+1)*2 ^ (e+1074).toNat:=Nat.mul_lt_mul_of_pos_right (iR k) hp
  rw[<-Nat.pow_add] at this
  have h3:2 ^ (k.log2+1+(e+1074).toNat)<=2 ^ 53:=Nat.pow_le_pow_right (by omega) (by omega)
  omega
 ·omega
theorem dP (n:Bool)(k t:Nat)(p:Int)(h:0<k)(h2:k<2 ^ 53)(lo:-1074<=p+t)(hi:(k.log2:Int)+(p+t)<=1023) :
  double.nearest n (k*2 ^ t) p=word n (rungOf k (p+t)):=by
 have hl:=bN h h2
 have hr:=(iq h h2 hi).2
 have h0:k*2 ^ t≠0:=by have:=Nat.mul_pos h (Nat.two_pow_pos t);omega
 unfold Format.nearest
 rw[if_neg h0]
 simp only[show double.fractionBits=52 from rfl,show double.leastPlace = -1074 from rfl,show double.binade=4503599627370496 from rfl,show double.infRung=9218868437227405312 from rfl,oW k t h,zp]
 congr 1
 unfold rungOf at hr ⊢
 by_cases c:(k.log2:Int)+(p+t)<=-1022
 ·rw[if_pos c] at hr ⊢
  have hm:max (p+((k.log2+t:Nat):Int)-(52:Nat)) (-1074) = -1074:=by omega
  rw[hm]
  have e:Toward.even.cut n ((k*2 ^ t) <<< (p - -1074).toNat) (-1074-p).toNat=k*2 ^ (p+t+1074).toNat:=by
   rw[Nat.shiftLeft_eq]
   by_cases hp:-1074<=p
   ·rw[show (-1074-p).toNat=0 from by omega,mH,Nat.mul_assoc,<-Nat.pow_add,show t+(p - -1074).toNat=(p+t+1074).toNat from by omega]
   ·rw[show (p - -1074).toNat=0 from by omega,Nat.pow_zero,Nat.mul_one,show t=(p+t+1074).toNat+(-1074-p).toNat from by omega,Nat.pow_add,<-Nat.mul_assoc,mI _ _ _ (Nat.mul_pos h (Nat.two_pow_pos _))]
    congr 2;omega
  rw[e]
  have:((-1074:Int) - -1074).toNat*4503599627370496+k*2 ^ (p+t+1074).toNat=k*2 ^ (p+t+1074).toNat:=by simp
  rw[this];omega
 ·rw[if_neg c] at hr ⊢
  have hm:max (p+((k.log2+t:Nat):Int)-(52:Nat)) (-1074)=p+((k.log2+t:Nat):Int)-52:=by omega
  rw[hm]
  have e:Toward.even.cut n ((k*2 ^ t) <<< (p-(p+((k.log2+t:Nat):Int)-52)).toNat) (p+((k.log2+t:Nat):Int)-52-p).toNat=k*2 ^ (52-k.log2):=by
   rw[Nat.shiftLeft_eq]
   by_cases hp:k.log2+t<=52
   ·rw[show (p+((k.log2+t:Nat):Int)-52-p).toNat=0 from by omega,mH,Nat.mul_assoc,<-Nat.pow_add,show t+(p-(p+((k.log2+t:Nat):Int)-52)).toNat=52-k.log2 from by omega]
   ·rw[show (p-(p+((k.log2+t:Nat):Int)-52)).toNat=0 from by omega,Nat.pow_zero,Nat.mul_one]
    have ed:(p+((k.log2+t:Nat):Int)-52-p).toNat=k.log2+t-52:=by omega
    rw[ed]
    have et:k*2 ^ t=k*2 ^ (52-k.log2)*2 ^ (k.log2+t-52):=by rw[Nat.mul_assoc,<-Nat.pow_add];congr 2;omega
    rw[et,mI _ _ _ (Nat.mul_pos h (Nat.two_pow_pos _))]
  rw[e,show (p+((k.log2+t:Nat):Int)-52 - -1074).toNat=((k.log2:Int)+(p+t)+1022).toNat from by omega]
  omega
theorem xA (n:Int)(h:n≠0)(h2:n.natAbs<2 ^ 53):FloatKind.f64.nearest n=word (decide (n<0)) (rungOf n.natAbs 0):=by
 have hk:0<n.natAbs:=by omega
 have hl:=bN hk h2
 have:=dP (decide (n<0)) n.natAbs 0 0 hk h2 (by simp) (by simp;omega)
 simp at this
 exact this
theorem br (n:Bool){r:Nat}(h:r<9223372036854775808):rung (word n r)=r/\neg (word n r)=n/\word n r<W:=by
 unfold rung neg word W
 cases n <;> simp <;> omega
theorem oX {r:Nat}(h:4503599627370496<=r):magOf r=4503599627370496+r % 4503599627370496/\upOf r=r / 4503599627370496-1:=by
 unfold magOf upOf;rw[if_neg (by omega),if_neg (by omega)];exact⟨rfl,rfl⟩
theorem jC (n m:Bool)(r s:Nat)(hr:r<9218868437227405312)(hs:s<9218868437227405312) :
  double.mul (word n r) (word m s)=some (double.nearest (n ^^ m) (magOf r*magOf s) (-1074+(upOf r:Int)+(-1074+(upOf s:Int)))):=by
 obtain⟨a1,a2,a3⟩:=br n (r:=r) (by omega)
 obtain⟨b1,b2,b3⟩:=br m (r:=s) (by omega)
 unfold Format.mul
 rw[cN _ a3 (by rw[a1];exact hr),cN _ b3 (by rw[b1];exact hs),a1,a2,b1,b2]
 rfl
theorem jD (r:Nat):magOf r<2 ^ 53:=by unfold magOf;split <;> omega
theorem ir {r:Nat}(h:0<r):0<magOf r:=by unfold magOf;split <;> omega
theorem qO {r:Nat}(h:0<r):rungOf (magOf r) (-1074+(upOf r:Int))=r:=by
 unfold rungOf magOf upOf
 by_cases c:r<4503599627370496
 ·have hl:r.log2<52:=(Nat.log2_lt (by omega)).2 (by omega)
  simp only[if_pos c]
  rw[if_pos (by omega)];simp
 ·simp only[if_neg c]
  have hl:(4503599627370496+r % 4503599627370496).log2=52:=lL (by omega) (by omega)
  rw[hl]
  split
  ·rename_i c2
   rw[show (-1074+((r / 4503599627370496-1:Nat):Int)+1074).toNat=r / 4503599627370496-1 from by omega]
   rw[show r / 4503599627370496-1=0 from by omega];omega
  ·simp only[Nat.sub_self,Nat.pow_zero,Nat.mul_one]
   omega
theorem uV (q:Nat)(h:1<=q):magOf (q*4503599627370496)=4503599627370496/\upOf (q*4503599627370496)=q-1:=by
 unfold magOf upOf;rw[if_neg (by omega),if_neg (by omega)];omega
theorem mul_pow (n:Bool)(q r:Nat)(h1:1<=q)(h2:q<=2046)(h0:0<r)(hr:r<9218868437227405312)
  (lo:-1074<=-1074+(upOf r:Int)+(q-1023)) (hi:((magOf r).log2:Int)+(-1074+(upOf r:Int)+(q-1023))<=1023) :
  double.mul (word n r) (q*4503599627370496)=some (word n (rungOf (magOf r) (-1074+(upOf r:Int)+(q-1023)))) /\
  double.mul (q*4503599627370496) (word n r)=some (word n (rungOf (magOf r) (-1074+(upOf r:Int)+(q-1023)))):=by
 obtain⟨p1,p2⟩:=uV q h1
 have hs:q*4503599627370496<9218868437227405312:=by omega
 have e:=dP n (magOf r) 52 (-1074+(upOf r:Int)+(q-1075)) (ir h0) (jD r) (by omega) (by omega)
 rw[show -1074+(upOf r:Int)+(q-1075)+((52:Nat):Int) = -1074+(upOf r:Int)+(q-1023) from by omega] at e
 have w0:q*4503599627370496=word false (q*4503599627370496):=rfl
 constructor
 ·rw[w0,jC n false r _ hr hs,p1,p2,Bool.xor_false,<-e,show (4503599627370496:Nat)=2 ^ 52 from rfl]
  congr 2;omega
 ·rw[w0,jC false n _ r hs hr,p1,p2,Bool.false_xor,<-e,show (4503599627370496:Nat)=2 ^ 52 from rfl,Nat.mul_comm]
  congr 2;omega
def nrm (r:Nat):Nat:=if r<4503599627370496 then r.log2*4503599627370496+r*2 ^ (52-r.log2) else r
theorem zq (n:Bool){r:Nat}(h:0<r)(c:r<4503599627370496):double.mul (word n r) 4841369599423283200=some (word n (nrm r)):=by
 have e:=(mul_pow n 1075 r (by omega) (by omega) h (by omega) (by omega) (by
  have:(magOf r).log2<=52:=bN (ir h) (jD r)
  have:upOf r=0:=by unfold upOf;rw[if_pos c]
  omega)).1
 have hu:upOf r=0:=by unfold upOf;rw[if_pos c]
 have hm:magOf r=r:=by unfold magOf;rw[if_pos c]
 have hl:r.log2<52:=(Nat.log2_lt (by omega)).2 (by omega)
 rw[hu,hm] at e
 rw[show (1075:Nat)*4503599627370496=4841369599423283200 from rfl] at e
 rw[e]
 congr 2
 unfold rungOf nrm
 rw[if_pos c]
 split
 ·rename_i c2
  have h1:r=1:=by
   have:=iR r
   rw[show r.log2=0 from by omega] at this;omega
  subst h1;decide
 ·congr 2;omega
theorem mul_one (n:Bool){r:Nat}(h:4503599627370496<=r)(hi:r<9218868437227405312):double.mul 4607182418800017408 (word n r)=some (word n r):=by
 have hu:upOf r<=2045:=by unfold upOf;split <;> omega
 have e:=(mul_pow n 1023 r (by omega) (by omega) (by omega) hi (by omega) (by
  have:(magOf r).log2<=52:=bN (ir (by omega)) (jD r)
  omega)).2
 rw[show (1023:Nat)*4503599627370496=4607182418800017408 from rfl] at e
 rw[e,show -1074+(upOf r:Int)+(((1023:Nat):Int)-1023) = -1074+(upOf r:Int) from by omega,qO (by omega)]
def deno (n:Bool) (r:Nat):Nat:=double.nearest n (4503599627370496*magOf r) (-105+(-1074+(upOf r:Int)))
theorem xB (n:Bool){r:Nat}(hi:r<9218868437227405312):double.mul 4368491638549381120 (word n r)=some (deno n r)/\deno n r<W:=by
 have w0:(4368491638549381120:Nat)=word false 4368491638549381120:=rfl
 constructor
 ·rw[w0,jC false n _ r (by decide) hi,Bool.false_xor]
  rfl
 ·exact double.nearest_lt n _ _
def ldE (r:Nat) (e:Int):Int:=(r / 4503599627370496:Nat)-1023+e
def ldx (n:Bool) (r:Nat) (e:Int):Nat :=
 if ldE r e < -1075 then word n 0 else if 1023<ldE r e then word n 9218868437227405312
 else if ldE r e < -1022 then deno n ((ldE r e+1076).toNat*4503599627370496+r % 4503599627370496)
 else word n ((ldE r e+1023).toNat*4503599627370496+r % 4503599627370496)
theorem rung0 {k:Nat}(h:0<k)(h2:k<2 ^ 53):rungOf k 0 / 4503599627370496=k.log2+1023/\rungOf k 0 % 4503599627370496=k*2 ^ (52-k.log2)-4503599627370496/\4503599627370496<=rungOf k 0:=by
 have hn:=lM h h2
 unfold rungOf
 rw[if_neg (by omega)]
 omega
theorem uW (n:Bool){k:Nat}{e:Int}(h:0<k)(h2:k<2 ^ 53)(lo:-1074<=e)(hi:(k.log2:Int)+e<=1023):ldx n (rungOf k 0) e=word n (rungOf k e):=by
 obtain⟨r1,r2,r3⟩:=rung0 h h2
 have hl:=bN h h2
 have hn:=lM h h2
 unfold ldx ldE
 rw[r1,r2]
 rw[if_neg (by omega),if_neg (by omega)]
 split
 ·rename_i c
  have e1:(((k.log2+1023:Nat):Int)-1023+e+1076).toNat*4503599627370496+(k*2 ^ (52-k.log2)-4503599627370496) ≥ 4503599627370496:=by omega
  unfold deno
  rw[(oX e1).1,(oX e1).2]
  have e2:4503599627370496+((((k.log2+1023:Nat):Int)-1023+e+1076).toNat*4503599627370496+(k*2 ^ (52-k.log2)-4503599627370496)) % 4503599627370496=k*2 ^ (52-k.log2):=by omega
  have e3:((((k.log2+1023:Nat):Int)-1023+e+1076).toNat*4503599627370496+(k*2 ^ (52-k.log2)-4503599627370496)) / 4503599627370496-1=((k.log2:Int)+e+1075).toNat:=by omega
  rw[e2,e3]
  have e4:4503599627370496*(k*2 ^ (52-k.log2))=k*2 ^ (104-k.log2):=by
   rw[show (4503599627370496:Nat)=2 ^ 52 from rfl,Nat.mul_comm,Nat.mul_assoc,<-Nat.pow_add,show 52-k.log2+52=104-k.log2 from by omega]
  rw[e4,dP n k (104-k.log2) _ h h2 (by omega) (by omega)]
  exact congrArg (fun x=>word n (rungOf k x)) (by omega)
 ·rename_i c
  refine congrArg (word n) ?_
  unfold rungOf
  split
  ·rename_i c2
   rw[show (e+1074).toNat=52-k.log2 from by omega];omega
  ·omega
theorem dQ (a b:Int):compare a b=if a<b then .lt else if b<a then .gt else .eq:=by
 by_cases h:a<b
 ·rw[if_pos h];exact oU h
 ·rw[if_neg h]
  by_cases h2:b<a
  ·rw[if_pos h2];exact oV h2
  ·rw[if_neg h2]
   obtain rfl:a=b:=by omega
   simp[compare,compareOfLessAndEq]
theorem uX (x y:Nat)(hx:x<W)(hy:y<W):(FloatKind.f64.format.order x y != some .eq)=(nan x||nan y||decide (sk x≠sk y)):=by
 show (double.order x y != some .eq)=_
 rw[jB x y hx hy,dQ]
 cases nan x <;> cases nan y <;> simp only[Bool.or_true,Bool.or_false,Bool.true_or,Bool.false_or,if_true,Bool.false_eq_true,if_false]
 ·by_cases h:sk x<sk y
  ·rw[if_pos h,decide_eq_true (by omega)];rfl
  ·rw[if_neg h]
   by_cases h2:sk y<sk x
   ·rw[if_pos h2,decide_eq_true (by omega)];rfl
   ·rw[if_neg h2,decide_eq_false (by omega)];rfl
 all_goals rfl
theorem aaq (x y:Nat)(hx:x<W)(hy:y<W):(FloatKind.f64.format.order x y==some .eq)=(!nan x&&!nan y&&decide (sk x=sk y)):=by
 have h:=uX x y hx hy
 rw[bne] at h
 rw[<-Bool.not_not (FloatKind.f64.format.order x y==some .eq),h]
 cases nan x <;> cases nan y <;> simp
theorem uY (x y:Nat)(hx:x<W)(hy:y<W):(FloatKind.f64.format.order x y==some .lt)=(!nan x&&!nan y&&decide (sk x<sk y)):=by
 show (double.order x y==some .lt)=_
 rw[jB x y hx hy,dQ]
 cases nan x <;> cases nan y <;> simp only[Bool.or_true,Bool.or_false,if_true,Bool.false_eq_true,if_false,Bool.not_false,Bool.not_true,Bool.true_and,Bool.false_and]
 ·by_cases h:sk x<sk y
  ·rw[if_pos h,decide_eq_true h];rfl
  ·rw[if_neg h,decide_eq_false h]
   split <;> rfl
 all_goals rfl
theorem aar (x y:Nat)(hx:x<W)(hy:y<W):(FloatKind.f64.format.order x y==some .gt)=(!nan x&&!nan y&&decide (sk y<sk x)):=by
 show (double.order x y==some .gt)=_
 rw[jB x y hx hy,dQ]
 cases nan x <;> cases nan y <;> simp only[Bool.or_true,Bool.or_false,if_true,Bool.false_eq_true,if_false,Bool.not_false,Bool.not_true,Bool.true_and,Bool.false_and]
 ·by_cases h:sk x<sk y
  ·rw[if_pos h,decide_eq_false (by omega)];rfl
  ·rw[if_neg h]
   by_cases h2:sk y<sk x
   ·rw[if_pos h2,decide_eq_true h2];rfl
   ·rw[if_neg h2,decide_eq_false h2];rfl
 all_goals rfl
theorem oY (x:Nat)(hx:x<W):(FloatKind.f64.format.order x x != some .eq)=nan x:=by
 rw[uX x x hx hx];cases nan x <;> simp
end Wm
section
open Go.RowKit
theorem iu (n:Int)(w:World):(callFunc 284 #[.int .u64 n]).run Tryz.prog w=.ok (.value (.float .f64 n.toNat)) w:=by kernel_rfl
theorem kx (b:Nat)(w:World):(callFunc 195 #[.float .f64 b]).run Tryz.prog w=.ok (.value (.int .u64 b)) w:=by kernel_rfl
def chkW (b:Nat):Int:=if Wm.nan b then 8 else 0
theorem mJ (b:Nat)(hb:b<Wm.W)(w:World) :
  Calls Tryz.prog 193 #[.float .f64 b] w fun e w'=>e=.returned (.bool (Wm.nan b))/\w=w':=by
 have H:=zh (Wm.oY b hb)
 go_enter Tryz.func193,Tryz.ntmps193
 go_wp2_with fail
 go_ret
 exact⟨by first | rfl | (rw[H.out];rfl),rfl⟩
theorem zr (b:Nat)(hb:b<Wm.W)(w:World) :
  Calls Tryz.prog 188 #[.float .f64 b] w fun e w'=>e=.returned (.int .i64 (chkW b))/\w=w':=by
 go_enter Tryz.func188,Tryz.ntmps188
 go_wp2_with fail
 refine (mJ b hb _).mono ?_
 rintro e w' ⟨rfl,rfl⟩
 cases hn:Wm.nan b
 all_goals
  go_wp2_with fail
  go_ret
  exact⟨by rw[chkW,hn];rfl,rfl⟩
theorem lN (s:Int)(w:World) :
  Calls Tryz.prog 286 #[.int .i64 s] w fun e w'=>e=.returned (.float .f64 (Wm.word (decide (s<0)) 9218868437227405312))/\w=w':=by
 have aa:=iu
 go_enter Tryz.func286,Tryz.ntmps286
 by_cases h:0<=s
 ·go_wp2_with fail
  go_ret
  exact⟨by first | rfl | (rw[decide_eq_false (by omega)];rfl),rfl⟩
 ·go_wp2_with fail
  go_ret
  exact⟨by first | rfl | (rw[decide_eq_true (by omega)];rfl),rfl⟩
theorem zt (w:World) :
  Calls Tryz.prog 313 #[] w fun e w'=>e=.returned (.float .f64 9221120237041090561)/\w=w':=by
 have aa:=iu
 go_enter Tryz.func313,Tryz.ntmps313
 go_wp2_with fail
 go_ret
 exact⟨rfl,rfl⟩
end
namespace Pg
open Go.RowKit Rs At
structure Gv where
 name:List UInt8
 ver:List UInt8
 deriving DecidableEq
structure Pk where
 name:List UInt8
 ver:List UInt8
 deps:List (List Atm)
 confl:List Atm
 prov:List Gv
 wt:Nat
 deriving DecidableEq
def verE (v:List UInt8):Int:=if Vm.check v=0 then (if Vm.canon v=v then 0 else 5) else Vm.check v
def atomsE:List Atm->Int
 | []=>0
 | a :: l=>if checkA a=0 then atomsE l else checkA a
def giveE (g:Gv):Int:=if nameB g.name then (if g.ver=[] then 0 else verE g.ver) else 3
def givesE:List Gv->Int
 | []=>0
 | g :: l=>if giveE g=0 then givesE l else giveE g
def depsE:List (List Atm)->Int
 | []=>0
 | d :: l=>if 1<=d.length/\d.length<=8 then (if atomsE d=0 then depsE l else atomsE d) else 4
def checkP (p:Pk):Int :=
 if nameB p.name=false then 3
 else if verE p.ver≠0 then verE p.ver
 else if 16<p.deps.length then 4
 else if depsE p.deps≠0 then depsE p.deps
 else if 16<p.confl.length then 4
 else if atomsE p.confl≠0 then atomsE p.confl
 else if 16<p.prov.length then 4
 else if givesE p.prov≠0 then givesE p.prov
 else chkW p.wt
abbrev AtD:=List UInt8 × Desc
def encA (d:AtD):List Value:=[.string ⟨d.1.toArray⟩,.slice d.2.1 d.2.2.1 d.2.2.2]
def encG (g:Gv):List Value:=[.string ⟨g.name.toArray⟩,.string ⟨g.ver.toArray⟩]
theorem fitsA:Rg.Fits encA 2:=⟨fun _=>rfl,fun x u hu=>by
 simp only[encA,List.mem_cons,List.not_mem_nil,or_false] at hu
 rcases hu with rfl | rfl <;> rfl⟩
theorem fitsG:Rg.Fits encG 2:=⟨fun _=>rfl,fun x u hu=>by
 simp only[encG,List.mem_cons,List.not_mem_nil,or_false] at hu
 rcases hu with rfl | rfl <;> rfl⟩
def AIn (w:World) (ds:List AtD) (l:List Atm):Prop:=ds.length=l.length/\∀ (i:Nat) (d:AtD) (a:Atm),ds[i]?=some d->l[i]?=some a->d.1=a.name/\d.2.2.1=a.rng.length/\SRow w d.2.1 a.rng
def ARow (w:World) (A:Option Addr) (l:List Atm):Prop:=∃ ds,Rg.Row encA 2 w A ds/\AIn w ds l
def DIn (w:World) (ds:List Desc) (t:List (List Atm)):Prop:=ds.length=t.length/\∀ (i:Nat) (d:Desc) (l:List Atm),ds[i]?=some d->t[i]?=some l->d.2.1=l.length/\ARow w d.1 l
def DRow (w:World) (A:Option Addr) (t:List (List Atm)):Prop:=∃ ds,Rg.Row encO 1 w A ds/\DIn w ds t
abbrev GRow (w:World) (A:Option Addr) (l:List Gv):Prop:=Rg.Row encG 2 w A l
theorem mK {w w':World}{ds:List AtD}{l:List Atm}(h:AIn w ds l)(hb:Below w.heap.size w w'):AIn w' ds l :=
 ⟨h.1,fun i d a h1 h2=>⟨(h.2 i d a h1 h2).1,(h.2 i d a h1 h2).2.1,aL (h.2 i d a h1 h2).2.2 hb⟩⟩
theorem bX {w w':World}{A:Option Addr}{l:List Atm}(h:ARow w A l)(hb:Below w.heap.size w w'):ARow w' A l:=by
 obtain⟨ds,h1,h2⟩:=h;exact⟨ds,Rg.ag h1 hb,mK h2 hb⟩
theorem eX {w w':World}{ds:List Desc}{t:List (List Atm)}(h:DIn w ds t)(hb:Below w.heap.size w w'):DIn w' ds t :=
 ⟨h.1,fun i d l h1 h2=>⟨(h.2 i d l h1 h2).1,bX (h.2 i d l h1 h2).2 hb⟩⟩
theorem fp {w w':World}{A:Option Addr}{t:List (List Atm)}(h:DRow w A t)(hb:Below w.heap.size w w'):DRow w' A t:=by
 obtain⟨ds,h1,h2⟩:=h;exact⟨ds,Rg.ag h1 hb,eX h2 hb⟩
end Pg
section
open Go.RowKit Rs At Pg
attribute [local go_sem ↓] Go.wp_at_zero Go.wp_at_succ
theorem Pg.aS {w W1 u:World}{a b:Value}{T:TypeId}(h1:w.alloc (.cells #[a,b] T)=W1)(hb:Below W1.heap.size W1 u):u.cell? ⟨w.heap.size,0,none⟩=some a/\u.cell? ⟨w.heap.size,1,none⟩=some b :=
 ⟨(bF h1 hb).1,(bF h1 hb).2.1⟩
end
section
open Go.RowKit Rs At Pg
namespace Pg
theorem cF {w W1 u:World}{a b c d e f:Value}{T:TypeId}(h1:w.alloc (.cells #[a,b,c,d,e,f] T)=W1)(hb:Below W1.heap.size W1 u) :
  u.cell? ⟨w.heap.size,0,none⟩=some a/\u.cell? ⟨w.heap.size,1,none⟩=some b/\u.cell? ⟨w.heap.size,2,none⟩=some c/\u.cell? ⟨w.heap.size,3,none⟩=some d/\u.cell? ⟨w.heap.size,4,none⟩=some e/\u.cell? ⟨w.heap.size,5,none⟩=some f:=by
 subst h1
 have h:u.heap[w.heap.size]?=some (.cells #[a,b,c,d,e,f] T (0,0)):=(hb.block _ (by simp)).trans (heap_alloc_new w _)
 refine⟨?_,?_,?_,?_,?_,?_⟩ <;> simp[World.cell?,h]
end Pg
end
namespace Wm
theorem iS {x i j:Nat}(h:x<2 ^ i)(hj:i<=j):x.testBit j=false:=Nat.testBit_lt_two_pow (Nat.lt_of_lt_of_le h (Nat.pow_le_pow_right (by decide) hj))
theorem rP (n:Bool){r:Nat}(h:r<9223372036854775808):word n r=(if n then 2 ^ 63 else 0) ||| r:=by
 unfold word
 cases n
 ·simp
 ·rw[if_pos rfl,if_pos rfl,show (9223372036854775808:Nat)=2 ^ 63 from rfl]
  exact Nat.two_pow_add_eq_or_of_lt (i:=63) h 1 |>.symm ▸ by simp
theorem cV (n:Bool){r:Nat}(h:r<9223372036854775808)(i:Nat):(word n r).testBit i=if i=63 then n else r.testBit i:=by
 rw[rP n h,Nat.testBit_or]
 by_cases hi:i=63
 ·subst hi
  rw[if_pos rfl,iS (i:=63) h (Nat.le_refl _)]
  cases n
  ·simp
  ·rw[if_pos rfl,Nat.testBit_two_pow_self];rfl
 ·rw[if_neg hi]
  cases n
  ·simp
  ·rw[if_pos rfl,Nat.testBit_two_pow_of_ne (Ne.symm hi),Bool.false_or]
theorem lO (b:Nat)(hb:b<W):b=word (neg b) (rung b):=by
 unfold word neg rung W at *
 split
 ·rename_i h;have:=of_decide_eq_true h;omega
 ·rename_i h;have:¬ 9223372036854775808<=b:=fun hh=>h (decide_eq_true hh);omega
theorem fields (p f i:Nat)(hf:f<2 ^ 52):(p*4503599627370496+f).testBit i=if i<52 then f.testBit i else p.testBit (i-52):=by
 rw[show p*4503599627370496+f=2 ^ 52*p+f from by omega]
 exact Nat.testBit_two_pow_mul_add p hf i
theorem xE (n:Bool){r:Nat}(h:r<9223372036854775808):word n r &&& 9223372036854775808=if n then 9223372036854775808 else 0:=by
 refine Nat.eq_of_testBit_eq fun i=>?_
 rw[Nat.testBit_and,cV n h,show (9223372036854775808:Nat)=2 ^ 63 from rfl]
 by_cases hi:i=63
 ·subst hi
  rw[if_pos rfl,Nat.testBit_two_pow_self]
  cases n
  ·simp
  ·rw[if_pos rfl,Nat.testBit_two_pow_self];rfl
 ·rw[if_neg hi,Nat.testBit_two_pow_of_ne (Ne.symm hi),Bool.and_false]
  cases n
  ·simp
  ·rw[if_pos rfl,Nat.testBit_two_pow_of_ne (Ne.symm hi)]
theorem qP (n:Bool){r:Nat}(h:r<9223372036854775808):word n r &&& 9223372036854775807=r:=by
 rw[show (9223372036854775807:Nat)=2 ^ 63-1 from rfl,Nat.and_two_pow_sub_one_eq_mod]
 have:=(br n h).1
 unfold rung at this;exact this
theorem zu {r:Nat}(h:r<9223372036854775808):r ||| 9223372036854775808=9223372036854775808+r:=by
 have:=rP true h
 rw[if_pos rfl] at this
 rw[Nat.or_comm,show (9223372036854775808:Nat)=2 ^ 63 from rfl,<-this];rfl
theorem aas (n:Bool){r:Nat}(h:r<9223372036854775808):word n r ||| 9223372036854775807=word n 9223372036854775807:=by
 refine Nat.eq_of_testBit_eq fun i=>?_
 rw[Nat.testBit_or,cV n h,cV n (by decide),show (9223372036854775807:Nat)=2 ^ 63-1 from rfl,Nat.testBit_two_pow_sub_one]
 by_cases hi:i=63
 ·simp[hi]
 ·simp only[if_neg hi]
  by_cases h2:i<63
  ·simp[h2]
  ·rw[iS (i:=63) h (by omega)];simp[h2]
theorem zv {b:Nat}(hb:b<W):18446744073709551615 ^^^ b=18446744073709551615-b:=by
 refine Nat.eq_of_testBit_eq fun i=>?_
 rw[Nat.testBit_xor,show 18446744073709551615-b=2 ^ 64-(b+1) from by unfold W at hb;omega,Nat.testBit_two_pow_sub_succ hb,show (18446744073709551615:Nat)=2 ^ 64-1 from rfl,Nat.testBit_two_pow_sub_one]
 by_cases h2:i<64
 ·simp[h2]
 ·rw[iS (i:=64) hb (by omega)];simp[h2]
theorem uZ (n:Bool){r:Nat}(h:r<9223372036854775808):word n r &&& 9227875636482146303=word n (r % 4503599627370496):=by
 have hr:r=(r / 4503599627370496)*4503599627370496+r % 4503599627370496:=by omega
 refine Nat.eq_of_testBit_eq fun i=>?_
 rw[Nat.testBit_and,cV n h,cV n (by omega),show (9227875636482146303:Nat)=word true (2 ^ 52-1) from rfl,cV true (by decide),Nat.testBit_two_pow_sub_one,hr,fields _ _ _ (Nat.mod_lt _ (by decide)),<-hr]
 by_cases hi:i=63
 ·simp[hi]
 ·simp only[if_neg hi]
  by_cases h2:i<52
  ·simp[h2]
  ·rw[iS (i:=52) (x:=r % 4503599627370496) (Nat.mod_lt _ (by decide)) (by omega)];simp[h2]
theorem zw (n:Bool){q f:Nat}(hq:q<2048)(hf:f<4503599627370496):word n f ||| q*4503599627370496=word n (q*4503599627370496+f):=by
 refine Nat.eq_of_testBit_eq fun i=>?_
 rw[Nat.testBit_or,cV n (by omega),cV n (by omega),fields q f i hf]
 have e:=fields q 0 i (by decide)
 rw[Nat.add_zero] at e
 rw[e]
 by_cases hi:i=63
 ·subst hi
  simp only[if_true]
  rw[if_neg (by decide),iS (i:=11) hq (by decide)];simp
 ·simp only[if_neg hi]
  by_cases h2:i<52
  ·simp[h2]
  ·rw[iS (i:=52) hf (by omega)];simp[h2]
theorem sgnB (b:Nat)(hb:b<W):bits .and .u64 (b:Int) 9223372036854775808=if neg b then 9223372036854775808 else 0:=by
 have h:=u64_and_nat b 9223372036854775808 hb (by decide)
 have e:=xE (neg b) (fI b)
 rw[<-lO b hb] at e
 rw[e] at h
 refine h.trans ?_
 cases neg b <;> rfl
theorem absB (b:Nat)(hb:b<W):bits .andNot .u64 (b:Int) 9223372036854775808=(rung b:Int):=by
 have h:=u64_andNot_nat b 9223372036854775808 hb (by decide)
 have e:=qP (neg b) (fI b)
 rw[<-lO b hb] at e
 refine h.trans ?_
 rw[show (18446744073709551615-9223372036854775808:Nat)=9223372036854775807 from rfl,e]
theorem maxB (b:Nat)(hb:b<W):bits .or .u64 (b:Int) 9223372036854775807=(word (neg b) 9223372036854775807:Nat):=by
 have h:=u64_or_nat b 9223372036854775807 hb (by decide)
 have e:=aas (neg b) (fI b)
 rw[<-lO b hb] at e
 exact h.trans (by rw[e])
theorem signB (r:Nat)(h:r<9223372036854775808):bits .or .u64 (r:Int) 9223372036854775808=(9223372036854775808+r:Nat):=by
 have h1:=u64_or_nat r 9223372036854775808 (by omega) (by decide)
 exact h1.trans (by rw[zu h])
theorem xorB (b:Nat)(hb:b<W):bits .xor .u64 18446744073709551615 (b:Int)=(18446744073709551615-b:Nat):=by
 have h1:=u64_xor_nat 18446744073709551615 b (by decide) hb
 exact h1.trans (by rw[zv hb])
theorem clearB (n:Bool)(r:Nat)(h:r<9223372036854775808):bits .andNot .u64 (word n r:Nat) 9218868437227405312=(word n (r % 4503599627370496):Nat):=by
 have h1:=u64_andNot_nat (word n r) 9218868437227405312 (br n h).2.2 (by decide)
 refine h1.trans ?_
 rw[show (18446744073709551615-9218868437227405312:Nat)=9227875636482146303 from rfl,uZ n h]
theorem setB (n:Bool)(q f:Nat)(hq:q<2048)(hf:f<4503599627370496):bits .or .u64 (word n f:Nat) ((q*4503599627370496:Nat):Int)=(word n (q*4503599627370496+f):Nat):=by
 have h1:=u64_or_nat (word n f) (q*4503599627370496) (br n (by omega)).2.2 (by omega)
 exact h1.trans (by rw[zw n hq hf])
theorem xF (n:Bool){r:Nat}(h:r<9223372036854775808):word n r / 4503599627370496=(if n then 2048 else 0)+r / 4503599627370496/\r / 4503599627370496<2048:=by
 unfold word;cases n <;> simp <;> omega
theorem expI (n:Bool)(r:Nat)(h:r<9223372036854775808):bits .and .i64 ((word n r:Int) / 4503599627370496) 2047=((r / 4503599627370496:Nat):Int):=by
 obtain⟨d1,d2⟩:=xF n h
 have e:((word n r:Int) / 4503599627370496)=((word n r / 4503599627370496:Nat):Int):=by omega
 have aa:word n r / 4503599627370496<4096:=by rw[d1];cases n <;> simp <;> omega
 have h1:=bits_mask .i64 63 (by decide) (fun m h0 h1=>by rw[IntKind.wrap_i64];omega) 11 (by decide) ((word n r / 4503599627370496:Nat):Int) (by omega) (by omega)
 rw[e]
 refine (show bits .and .i64 ((word n r / 4503599627370496:Nat):Int) 2047=_ from h1).trans ?_
 rw[d1]
 cases n <;> simp <;> omega
def placeN (b:Nat):Nat:=if nan b then (if neg b then 0 else 18446744073709551615) else (if neg b then 18446744073709551615-b else 9223372036854775808+b)
theorem xH {b:Nat}(hb:b<W)(h:neg b=false):rung b=b/\b<9223372036854775808:=by
 unfold neg rung W at *
 have:=of_decide_eq_false h;omega
end Wm
section
open Go.RowKit
theorem zx (b:Nat)(hb:b<Wm.W)(w:World) :
  Calls Tryz.prog 302 #[.float .f64 b] w fun e w'=>e=.returned (.float .f64 (Wm.rung b))/\w=w':=by
 have ab:=kx
 have aa:=iu
 have e:=Wm.absB b hb
 go_enter Tryz.func302,Tryz.ntmps302
 go_wp2_with fail
 go_ret
 exact⟨rfl,rfl⟩
theorem rQ (b:Nat)(hb:b<Wm.W)(w:World) :
  Calls Tryz.prog 173 #[.float .f64 b] w fun e w'=>e=.returned (.int .u64 (Wm.placeN b))/\w=w':=by
 have ab:=kx
 have hs:IntKind.u64.signed=false:=rfl
 have hm:IntKind.u64.max=18446744073709551615:=rfl
 have e1:=Wm.sgnB b hb
 have e2:=Wm.maxB b hb
 have e3:=Wm.xorB b hb
 go_enter Tryz.func173,Tryz.ntmps173
 go_wp2_with fail
 refine (mJ b hb _).mono ?_
 rintro e w' ⟨rfl,rfl⟩
 cases hn:Wm.nan b
 ·cases hg:Wm.neg b
  ·have e4:=Wm.signB b (Wm.xH hb hg).2
   rw[hg] at e1
   clear e2 e3
   go_wp2_with fail
   go_ret
   exact⟨by rw[Wm.placeN,hn,hg];rfl,rfl⟩
  ·rw[hg] at e1
   clear e2
   go_wp2_with fail
   go_ret
   exact⟨by rw[Wm.placeN,hn,hg];rfl,rfl⟩
 ·cases hg:Wm.neg b
  ·have aa:bits .or .u64 (b:Int) 9223372036854775807=9223372036854775807:=by rw[e2,hg];rfl
   have e5:bits .and .u64 9223372036854775807 9223372036854775808=0:=by kernel_rfl
   have e6:bits .or .u64 9223372036854775807 9223372036854775808=18446744073709551615:=by kernel_rfl
   clear e1 e2 e3
   go_wp2_with fail
   go_ret
   exact⟨by rw[Wm.placeN,hn,hg];rfl,rfl⟩
  ·have aa:bits .or .u64 (b:Int) 9223372036854775807=18446744073709551615:=by rw[e2,hg];rfl
   have e5:bits .and .u64 18446744073709551615 9223372036854775808=9223372036854775808:=by kernel_rfl
   have e6:bits .xor .u64 18446744073709551615 18446744073709551615=0:=by kernel_rfl
   clear e1 e2 e3
   go_wp2_with fail
   go_ret
   exact⟨by rw[Wm.placeN,hn,hg];rfl,rfl⟩
theorem ky (x:Nat)(w:World) :
  Calls Tryz.prog 202 #[.int .u64 x] w fun e w'=>e=.returned (.bool false)/\w=w':=by
 go_enter Tryz.func202,Tryz.ntmps202
 go_wp2_with fail
 go_ret
 exact⟨by first | rfl | simp,rfl⟩
theorem xI (x y:Nat)(w:World) :
  Calls Tryz.prog 172 #[.int .u64 x,.int .u64 y] w fun e w'=>e=.returned (.int .i64 (Vm.sgn x y))/\w=w':=by
 obtain⟨v,hv,hc⟩:∃ v:Int,Hid (Vm.sgn x y=v)/\((x<y/\v = -1)\/(y<x/\v=1)\/(x=y/\v=0)):=by
  refine⟨_,zh rfl,?_⟩
  unfold Vm.sgn
  by_cases h1:(x:Int)<y
  ·left;exact⟨by omega,by rw[if_pos h1]⟩
  ·by_cases h2:(y:Int)<x
   ·right;left;exact⟨by omega,by rw[if_neg h1,if_pos h2]⟩
   ·right;right;exact⟨by omega,by rw[if_neg h1,if_neg h2]⟩
 rcases hc with⟨h1,rfl⟩ | ⟨h1,rfl⟩ | ⟨rfl,rfl⟩
 all_goals
  go_enter Tryz.func172,Tryz.ntmps172
  go_wp2_with fail
  refine (ky _ _).mono ?_
  rintro e w' ⟨rfl,rfl⟩
  go_wp2_with fail
  refine (ky _ _).mono ?_
  rintro e w' ⟨rfl,rfl⟩
  go_wp2_with fail
  go_ret
  exact⟨by rw[hv.out];rfl,rfl⟩
theorem va (a b:Nat)(ha:a<Wm.W)(hb:b<Wm.W)(w:World) :
  Calls Tryz.prog 138 #[.float .f64 a,.float .f64 b] w fun e w'=>e=.returned (.int .i64 (Vm.sgn (Wm.placeN a) (Wm.placeN b)))/\w=w':=by
 go_enter Tryz.func138,Tryz.ntmps138
 go_wp2_with fail
 refine (rQ a ha _).mono ?_
 rintro e w' ⟨rfl,rfl⟩
 go_wp2_with fail
 refine (rQ b hb _).mono ?_
 rintro e w' ⟨rfl,rfl⟩
 go_wp2_with fail
 refine (xI _ _ _).mono ?_
 rintro e w' ⟨rfl,rfl⟩
 go_wp2_with fail
 go_ret
 exact⟨rfl,rfl⟩
end
namespace Sz
structure Fld where
 key:List UInt8
 val:List UInt8
 line:Int
 deriving DecidableEq
def valC (c:UInt8):Bool:=decide (32<=c.toNat)&&decide (c.toNat<=126)
def keyB (s:List UInt8):Bool:=s.all Vm.ltr&&(!s.isEmpty&&decide (s.length<=16))
def valB (s:List UInt8):Bool:=s.all valC
def mark:List UInt8:=[58,32]
def fieldP (s:List UInt8) (n:Int):Option Fld :=
 if 0<=Lib.index s mark/\keyB (s.take (Lib.index s mark).toNat)=true/\valB (s.drop ((Lib.index s mark).toNat+2))=true then
  some ⟨s.take (Lib.index s mark).toNat,s.drop ((Lib.index s mark).toNat+2),n⟩ else none
def hasK (l:List Fld) (k:List UInt8):Bool:=l.any (fun f=>f.key==k)
def readL:Nat->List (List UInt8)->List (List Fld)->List Fld->Int × Int × List (List Fld)
 | _,[],acc,last=>(0,0,if last.isEmpty then acc else acc++[last])
 | n,s :: ls,acc,last =>
  if s.isEmpty then (if last.isEmpty||ls.isEmpty then (2,n,[]) else readL (n+1) ls (acc++[last]) [])
  else match fieldP s n with
   | none=>(2,n,[])
   | some f=>if hasK last f.key then (6,n,[]) else readL (n+1) ls acc (last++[f])
def linesL (s:List UInt8):List (List UInt8):=(Lib.split s [10]).dropLast
def endB (s:List UInt8):Bool:=s.isEmpty||s.getLast? == some 10
def parseS (s:List UInt8):Int × Int × List (List Fld) :=
 if 65536<s.length then (4,0,[]) else if endB s then readL 0 (linesL s) [] [] else (2,0,[])
def fieldT (f:Fld):List UInt8:=f.key++mark++f.val++[10]
def stanzaT (l:List Fld):List UInt8:=l.flatMap fieldT
def textS:List (List Fld)->List UInt8
 | []=>[]
 | [l]=>stanzaT l
 | l :: m :: r=>stanzaT l++[10]++textS (m :: r)
def joinL (ls:List (List UInt8)):List UInt8:=ls.flatMap (fun s=>s++[10])
theorem gm {s:List UInt8}{n:Int}{f:Fld}(h:fieldP s n=some f):f.key++mark++f.val=s/\f.line=n/\keyB f.key=true/\valB f.val=true:=by
 unfold fieldP at h
 split at h
 ·rename_i hc
  obtain⟨h0,h1,h2⟩:=hc
  cases h
  refine⟨?_,rfl,h1,h2⟩
  dsimp only
  obtain⟨i,hi⟩:∃ i:Nat,Lib.index s mark=i:=⟨(Lib.index s mark).toNat,by omega⟩
  rw[hi]
  have ho:Lib.occAt s mark i=true:=by
   rcases Lib.index_spec s mark with⟨h1,_⟩ | ⟨j,h1,_,h3,_⟩
   ·omega
   ·have:j=i:=by omega
    exact this ▸ h3
  unfold Lib.occAt at ho
  obtain⟨t,ht⟩:=List.isPrefixOf_iff_prefix.1 ho
  show s.take i++mark++s.drop (i+2)=s
  have e:s.drop (i+2)=t:=by rw[<-List.drop_drop,<-ht];rfl
  rw[e,List.append_assoc,ht,List.take_append_drop]
 ·cases h
theorem oZ (l:List Fld)(f:Fld):stanzaT (l++[f])=stanzaT l++fieldT f:=by
 unfold stanzaT;rw[List.flatMap_append];simp
theorem dY:∀ (acc:List (List Fld)) (l:List Fld),textS (acc++[l])=(if acc.isEmpty then [] else textS acc++[10])++stanzaT l
 | [],l=>rfl
 | [a],l=>by show stanzaT a++[10]++stanzaT l=_;rfl
 | a :: b :: r,l=>by
  have ih:=dY (b :: r) l
  show stanzaT a++[10]++textS (b :: r++[l])=_
  rw[ih]
  show _=(stanzaT a++[10]++textS (b :: r)++[10])++stanzaT l
  simp
theorem gp (s:List UInt8)(ls:List (List UInt8)):joinL (s :: ls)=s++[10]++joinL ls:=by unfold joinL;rw[List.flatMap_cons]
theorem ix:∀ (ls:List (List UInt8)) (n:Nat) (acc:List (List Fld)) (last:List Fld) (r:List (List Fld)) (k:Int),readL n ls acc last=(0,k,r) ->
  k=0/\textS r=textS (acc++[last])++joinL ls\/(k=0/\ls=[]/\last=[]/\r=acc)
 | [],n,acc,last,r,k,h=>by
  unfold readL at h
  cases last with
  | nil=>right;injection h with _ h;injection h with h1 h2;exact⟨h1.symm,rfl,rfl,h2.symm⟩
  | cons f l=>left;injection h with _ h;injection h with h1 h2;subst h2;exact⟨h1.symm,by simp[joinL]⟩
 | s :: ls,n,acc,last,r,k,h=>by
  unfold readL at h
  split at h
  ·rename_i hs
   have hs0:s=[]:=by simpa using hs
   subst hs0
   split at h
   ·injection h with h _;cases h
   ·rename_i hl
    have ab:last≠[]:=fun e=>hl (by simp[e])
    have aa:ls≠[]:=fun e=>hl (by simp[e])
    rcases ix ls (n+1) (acc++[last]) [] r k h with⟨hk,ht⟩ | ⟨_,h2,_,_⟩
    ·left
     refine⟨hk,?_⟩
     rw[ht,dY (acc++[last]) [],gp]
     simp[stanzaT]
    ·exact absurd h2 aa
  ·rename_i hs
   cases hf:fieldP s n with
   | none=>rw[hf] at h;injection h with h _;cases h
   | some f =>
    rw[hf] at h
    dsimp only at h
    split at h
    ·injection h with h _;cases h
    ·obtain⟨h1,_,_,_⟩:=gm hf
     rcases ix ls (n+1) acc (last++[f]) r k h with⟨hk,ht⟩ | ⟨_,_,h3,_⟩
     ·left
      refine⟨hk,?_⟩
      rw[ht,dY,dY,oZ,gp]
      unfold fieldT
      rw[h1]
      simp
     ·exact absurd h3 (by simp)
theorem zy (a r:List UInt8)(h:(10:UInt8) ∉ a):Lib.split (a++10 :: r) [10]=a :: Lib.split r [10]:=by
 have hi:Lib.index (a++10 :: r) [10]=a.length:=by
  refine Lib.index_first (by simp) ?_ fun j hj=>?_
  ·unfold Lib.occAt;rw[List.drop_left];rfl
  ·cases ho:Lib.occAt (a++10 :: r) [10] j with
   | false=>rfl
   | true =>
    have h2:=Lib.occAt_head (c:=10) (t:=[]) rfl ho
    rw[List.getElem?_append_left hj] at h2
    exact absurd (List.mem_of_getElem? h2) h
 rw[At.uG (by simp) hi,List.take_left]
 have e:(a++10 :: r).drop (a.length+([10]:List UInt8).length)=r:=by
  rw[<-List.drop_drop,List.drop_left];rfl
 rw[e]
theorem kz (s:List UInt8):Lib.split s [10]≠[]:=by
 unfold Lib.split
 cases Lib.count s [10] with
 | zero=>unfold Lib.splitK;simp
 | succ k=>unfold Lib.splitK;split <;> simp
theorem vb (a r:List UInt8)(h:(10:UInt8) ∉ a):linesL (a++10 :: r)=a :: linesL r:=by
 unfold linesL
 rw[zy a r h,List.dropLast_cons_of_ne_nil (kz r)]
theorem zz (s:List UInt8):((10:UInt8) ∉ s)\/∃ a r,s=a++10 :: r/\(10:UInt8) ∉ a:=by
 induction s with
 | nil=>left;simp
 | cons b l ih =>
  by_cases hb:b=10
  ·right;exact⟨[],l,by rw[hb];rfl,by simp⟩
  ·rcases ih with h | ⟨a,r,e,h⟩
   ·left;intro hm;rcases List.mem_cons.1 hm with e | e
    ·exact hb e.symm
    ·exact h e
   ·right
    refine⟨b :: a,r,by rw[e];rfl,fun hm=>?_⟩
    rcases List.mem_cons.1 hm with e | e
    ·exact hb e.symm
    ·exact h e
theorem gq:∀ (k:Nat) (s:List UInt8),s.length<=k->endB s=true->joinL (linesL s)=s
 | 0,s,hk,_=>by
  have:s=[]:=List.length_eq_zero_iff.1 (by omega)
  subst this;rfl
 | k+1,s,hk,he=>by
  rcases zz s with h | ⟨a,r,e,h⟩
  ·unfold endB at he
   rw[Bool.or_eq_true] at he
   rcases he with he | he
   ·have:s=[]:=by simpa using he
    subst this;rfl
   ·exact absurd (List.mem_of_getLast? (by simpa using he)) h
  ·subst e
   rw[vb a r h,gp]
   have hr:endB r=true:=by
    unfold endB at he ⊢
    cases r with
    | nil=>rfl
    | cons b l =>
     rw[Bool.or_eq_true] at he ⊢
     rcases he with he | he
     ·simp at he
     ·right
      rw[List.getLast?_append] at he
      have e2:(10 :: b :: l).getLast? = (b :: l).getLast?:=by rw[List.getLast?_cons_cons]
      rw[e2] at he
      obtain⟨x,hx⟩:∃ x,(b :: l).getLast? = some x:=⟨_,List.getLast?_eq_some_getLast (by simp)⟩
      rw[hx] at he ⊢
      exact he
   rw[gq k r (by simp at hk;omega) hr]
   simp
theorem tj {s:List UInt8}{k:Int}{r:List (List Fld)}(h:parseS s=(0,k,r)):k=0/\textS r=s:=by
 unfold parseS at h
 split at h
 ·injection h with h _;cases h
 ·split at h
  ·rename_i he
   rcases ix _ _ _ _ _ _ h with⟨h1,h2⟩ | ⟨h1,h2,_,h4⟩
   ·refine⟨h1,?_⟩
    rw[h2,gq s.length s (Nat.le_refl _) he];rfl
   ·refine⟨h1,?_⟩
    rw[h4,<-gq s.length s (Nat.le_refl _) he,h2];rfl
  ·injection h with h _;cases h
end Sz
section
open Go.RowKit
abbrev panAt (k n:Int):Ending:=.panicked [{ v:=.iface 158 (.agg #[.int .i64 k,.int .i64 n]),recovered:=false }]
theorem ax {k n:Int}(w:World):Calls Tryz.prog 104 #[.bool true,.int .i64 k,.int .i64 n] w fun e w'=>e=.returned (.tuple #[])/\w=w':=by
 go_enter Tryz.func104,Tryz.ntmps104
 go_wp2_with fail
 go_end0
 exact⟨rfl,rfl⟩
theorem ao {k n:Int}(w:World):Calls Tryz.prog 104 #[.bool false,.int .i64 k,.int .i64 n] w fun e w'=>e=panAt k n/\w=w':=by
 go_enter Tryz.func104,Tryz.ntmps104
 go_wp2_with fail
 exact⟨rfl,rfl,rfl⟩
theorem ck (k n:Int){o:Int}(w:World) :
  Calls Tryz.prog 63 #[.iface 158 (.agg #[.int .i64 k,.int .i64 n]),.int .i64 o] w fun e w'=>e=.returned (.tuple #[.int .i64 k,.int .i64 n])/\Below w.heap.size w w':=by
 have aa:∀ W:World,(Instr.typeAssert (.iface 158 (.agg #[.int .i64 k,.int .i64 n])) 20 77 true).run Tryz.prog W=.ok (.tuple #[.int .i64 0,.bool false]) W:=fun _=>by kernel_rfl
 have ab:∀ W:World,(Instr.typeAssert (.iface 158 (.agg #[.int .i64 k,.int .i64 n])) 20 158 true).run Tryz.prog W=.ok (.tuple #[.agg #[.int .i64 k,.int .i64 n],.bool true]) W:=fun _=>by kernel_rfl
 go_enter Tryz.func63,Tryz.ntmps63
 go_wp2_with fail
 go_quiet (fail)
 go_wp2_with fail
 go_ret2
 refine⟨rfl,below_drewN ?_ _⟩
 first
  | exact (Below.refl _ _).alloc (Nat.le_refl _) _
  | exact ((Below.refl _ _).alloc (Nat.le_refl _) _).setCell (Nat.le_refl _) _
  | exact Below.setCell (Below.setCell ((Below.refl _ _).alloc (Nat.le_refl _) _) (by simp) _) (by simp) _
  | trace_state
theorem mL (l:List UInt8)(p:UInt8->Bool)(k:Nat)(h:k<l.length):(l.take (k+1)).all p=((l.take k).all p&&p l[k]):=by
 rw[List.take_succ_eq_append_getElem h,List.all_append];simp only[List.all_cons,List.all_nil,Bool.and_true]
theorem kA (l:List UInt8)(p:UInt8->Bool)(k:Nat)(h:k<l.length)(hp:p l[k]=false):l.all p=false:=by
 rw[Bool.eq_false_iff];intro ha;rw[List.all_eq_true] at ha;have:=ha _ (List.getElem_mem h);simp[hp] at this
theorem jc (c:UInt8)(w:World) :
  Calls Tryz.prog 237 #[.int .u8 c.toNat] w fun e w'=>e=.returned (.bool (Vm.ltr c))/\w=w':=by
 unfold Vm.ltr
 by_cases h1:97<=c.toNat <;> by_cases h2:c.toNat<=122 <;> by_cases h3:65<=c.toNat <;> by_cases h4:c.toNat<=90
 all_goals
  go_enter Tryz.func237,Tryz.ntmps237
  go_wp2
 all_goals
  go_ret
  exact⟨by first | (simp[h1,h2,h3,h4];done) | (simp[h1,h2,h3,h4];omega),rfl⟩
theorem iy (l:List UInt8)(w:World)(hm:l.length<=1000000) :
  Calls Tryz.prog 205 #[.string ⟨l.toArray⟩] w fun e w'=>e=.returned (.bool (Sz.keyB l))/\w=w':=by
 obtain⟨R,hR⟩:=ex (Sz.keyB l)
 rw[hR]
 have HF:Hid (l.all Vm.ltr=false->R=false):=fun h=>by rw[<-hR];unfold Sz.keyB;rw[h];rfl
 have HT:Hid (l.all Vm.ltr=true->R=(!l.isEmpty&&decide (l.length<=16))):=fun h=>by rw[<-hR];unfold Sz.keyB;rw[h];rfl
 clear hR
 go_enter Tryz.func205,Tryz.ntmps205
 go_wp2_with fail
 go_loop [6] (fun i=>∃ k:Nat,k<=l.length/\i=.int .i64 k/\Hid ((l.take k).all Vm.ltr=true)) (fun i=>l.length-(intOf i).toNat)
 case atStart=>exact⟨0,Nat.zero_le _,rfl,rfl⟩
 case round =>
  obtain⟨k,hk,rfl,HK⟩:=hrel
  by_cases ad:k<l.length
  ·obtain⟨c,hc,ac⟩:=byte_at l k ad
   have HS:=zh (mL l Vm.ltr k ad)
   rw[ac] at HS
   cases h1:Vm.ltr c
   ·have HR:Hid (R=false):=HF.out (kA l Vm.ltr k ad (by rw[ac];exact h1))
    have HL:=zh h1
    clear h1 ac HS
    go_wp2_with fail
    refine (jc c _).mono ?_
    rintro _ z ⟨rfl,rfl⟩
    rw[HL.out]
    go_wp2_with fail
    go_ret
    exact⟨by rw[HR.out];rfl,rfl⟩
   ·have HY:Hid ((l.take (k+1)).all Vm.ltr=true):=by show _=_;rw[HS.out,HK.out,h1];rfl
    have HL:=zh h1
    clear h1 ac HS
    go_wp2_with fail
    refine (jc c _).mono ?_
    rintro _ z ⟨rfl,rfl⟩
    rw[HL.out]
    go_wp2_with fail
    go_round
    case rel=>exact⟨k+1,by omega,by go_num,HY⟩
    case measure=>simp[intOf];omega
  ·obtain rfl:k=l.length:=by omega
   have HR:Hid (R=(!l.isEmpty&&decide (l.length<=16))):=HT.out (by have:=HK.out;rwa [List.take_length] at this)
   cases he:l.isEmpty
   ·by_cases ab:l.length<=16
    ·have d0:decide ((l.length:Int)<=16)=true:=decide_eq_true (by omega)
     have aa:Hid (R=true):=by show _=_;rw[HR.out,he,decide_eq_true ab];rfl
     clear ab HF HT HR
     go_wp2_with fail
     go_ret
     exact⟨by rw[aa.out];rfl,rfl⟩
    ·have d0:decide ((l.length:Int)<=16)=false:=decide_eq_false (by omega)
     have aa:Hid (R=false):=by show _=_;rw[HR.out,decide_eq_false ab,Bool.and_false]
     clear ab HF HT HR
     go_wp2_with fail
     go_ret
     exact⟨by rw[aa.out];rfl,rfl⟩
   ·have aa:Hid (R=false):=by show _=_;rw[HR.out,he];rfl
    clear HF HT HR
    go_wp2_with fail
    go_ret
    exact⟨by rw[aa.out];rfl,rfl⟩
theorem vd (c:UInt8):(Sz.valC c=true/\decide ((c.toNat:Int)<32)=false/\decide ((126:Int)<(c.toNat:Int))=false)\/(Sz.valC c=false/\decide ((c.toNat:Int)<32)=true)\/(Sz.valC c=false/\decide ((c.toNat:Int)<32)=false/\decide ((126:Int)<(c.toNat:Int))=true):=by
 unfold Sz.valC
 by_cases h1:32<=c.toNat
 ·by_cases h2:c.toNat<=126
  ·left;exact⟨by rw[decide_eq_true h1,decide_eq_true h2];rfl,decide_eq_false (by omega),decide_eq_false (by omega)⟩
  ·right;right;exact⟨by rw[decide_eq_false h2,Bool.and_false],decide_eq_false (by omega),decide_eq_true (by omega)⟩
 ·right;left;exact⟨by rw[decide_eq_false h1];rfl,decide_eq_true (by omega)⟩
theorem jd (l:List UInt8)(w:World)(hm:l.length<=1000000) :
  Calls Tryz.prog 206 #[.string ⟨l.toArray⟩] w fun e w'=>e=.returned (.bool (Sz.valB l))/\w=w':=by
 obtain⟨R,hR⟩:=ex (Sz.valB l)
 rw[hR]
 have HF:Hid (l.all Sz.valC=false->R=false):=fun h=>by rw[<-hR];exact h
 have HT:Hid (l.all Sz.valC=true->R=true):=fun h=>by rw[<-hR];exact h
 clear hR
 go_enter Tryz.func206,Tryz.ntmps206
 go_wp2_with fail
 go_loop [6] (fun i=>∃ k:Nat,k<=l.length/\i=.int .i64 k/\Hid ((l.take k).all Sz.valC=true)) (fun i=>l.length-(intOf i).toNat)
 case atStart=>exact⟨0,Nat.zero_le _,rfl,rfl⟩
 case round =>
  obtain⟨k,hk,rfl,HK⟩:=hrel
  by_cases ab:k<l.length
  ·obtain⟨c,hc,aa⟩:=byte_at l k ab
   have HS:=zh (mL l Sz.valC k ab)
   rw[aa] at HS
   rcases vd c with⟨h1,d1,d2⟩ | ⟨h1,d1⟩ | ⟨h1,d1,d2⟩
   ·have HY:Hid ((l.take (k+1)).all Sz.valC=true):=by show _=_;rw[HS.out,HK.out,h1];rfl
    clear h1 aa HS
    go_wp2_with fail
    go_round
    case rel=>exact⟨k+1,by omega,by go_num,HY⟩
    case measure=>simp[intOf];omega
   all_goals
    have HR:Hid (R=false):=HF.out (kA l Sz.valC k ab (by rw[aa];exact h1))
    clear h1 aa HS
    go_wp2_with fail
    go_ret
    exact⟨by rw[HR.out];rfl,rfl⟩
  ·obtain rfl:k=l.length:=by omega
   have HR:Hid (R=true):=HT.out (by have:=HK.out;rwa [List.take_length] at this)
   clear HF HT
   go_wp2_with fail
   go_ret
   exact⟨by rw[HR.out];rfl,rfl⟩
end
end Go.Proofs.YtgnaiidgjmicaaaGreatDoor
