/- Part 18 of what the laws lean on. -/
import Derived.Test.YtkplahkkmmoppaaGreatDoorL17
import Derived.Lib.AppendIntMem
import Derived.Lib.ItoaLen
set_option maxHeartbeats 2000000
namespace Go.Proofs.YtkplahkkmmoppaaGreatDoor.Wm
theorem tb_hi {x i j : Nat} (h : x < 2 ^ i) (hj : i≤j) : x.testBit j=false:=Nat.testBit_lt_two_pow (Nat.lt_of_lt_of_le h (Nat.pow_le_pow_right (by decide) hj))
theorem word_or (n : Bool) {r : Nat} (h : r < 9223372036854775808) : word n r=(if n then 2 ^ 63 else 0) ||| r:=by
 unfold word
 cases n
 ·simp
 ·rw [if_pos rfl,if_pos rfl,show (9223372036854775808 : Nat)=2 ^ 63 from rfl]
  exact Nat.two_pow_add_eq_or_of_lt (i:=63) h 1 |>.symm ▸ by simp
theorem tb_word (n : Bool) {r : Nat} (h : r < 9223372036854775808) (i : Nat) : (word n r).testBit i=if i=63 then n else r.testBit i:=by
 rw [word_or n h,Nat.testBit_or]
 by_cases hi : i=63
 ·subst hi
  rw [if_pos rfl,tb_hi (i:=63) h (Nat.le_refl _)]
  cases n
  ·simp
  ·rw [if_pos rfl,Nat.testBit_two_pow_self];rfl
 ·rw [if_neg hi]
  cases n
  ·simp
  ·rw [if_pos rfl,Nat.testBit_two_pow_of_ne (Ne.symm hi),Bool.false_or]
theorem word_of (b : Nat) (hb : b < W) : b=word (neg b) (rung b):=by
 unfold word neg rung W at *
 split
 ·rename_i h;have:=of_decide_eq_true h;omega
 ·rename_i h;have : ¬ 9223372036854775808≤b:=fun hh=>h (decide_eq_true hh);omega
theorem fields (p f i : Nat) (hf : f < 2 ^ 52) : (p * 4503599627370496 + f).testBit i=if i < 52 then f.testBit i else p.testBit (i - 52):=by
 rw [show p * 4503599627370496 + f=2 ^ 52 * p + f from by omega]
 exact Nat.testBit_two_pow_mul_add p hf i
theorem and_sign (n : Bool) {r : Nat} (h : r < 9223372036854775808) : word n r &&& 9223372036854775808=if n then 9223372036854775808 else 0:=by
 refine Nat.eq_of_testBit_eq fun i=>?_
 rw [Nat.testBit_and,tb_word n h,show (9223372036854775808 : Nat)=2 ^ 63 from rfl]
 by_cases hi : i=63
 ·subst hi
  rw [if_pos rfl,Nat.testBit_two_pow_self]
  cases n
  ·simp
  ·rw [if_pos rfl,Nat.testBit_two_pow_self];rfl
 ·rw [if_neg hi,Nat.testBit_two_pow_of_ne (Ne.symm hi),Bool.and_false]
  cases n
  ·simp
  ·rw [if_pos rfl,Nat.testBit_two_pow_of_ne (Ne.symm hi)]
theorem andNot_sign (n : Bool) {r : Nat} (h : r < 9223372036854775808) : word n r &&& 9223372036854775807=r:=by
 rw [show (9223372036854775807 : Nat)=2 ^ 63 - 1 from rfl,Nat.and_two_pow_sub_one_eq_mod]
 have:=(rung_word n h).1
 unfold rung at this;exact this
theorem or_sign {r : Nat} (h : r < 9223372036854775808) : r ||| 9223372036854775808=9223372036854775808 + r:=by
 have:=word_or true h
 rw [if_pos rfl] at this
 rw [Nat.or_comm,show (9223372036854775808 : Nat)=2 ^ 63 from rfl,← this];rfl
theorem or_max (n : Bool) {r : Nat} (h : r < 9223372036854775808) : word n r ||| 9223372036854775807=word n 9223372036854775807:=by
 refine Nat.eq_of_testBit_eq fun i=>?_
 rw [Nat.testBit_or,tb_word n h,tb_word n (by decide),show (9223372036854775807 : Nat)=2 ^ 63 - 1 from rfl,Nat.testBit_two_pow_sub_one]
 by_cases hi : i=63
 ·simp [hi]
 ·simp only [if_neg hi]
  by_cases h2 : i < 63
  ·simp [h2]
  ·rw [tb_hi (i:=63) h (by omega)];simp [h2]
theorem xor_max {b : Nat} (hb : b < W) : 18446744073709551615 ^^^ b=18446744073709551615 - b:=by
 refine Nat.eq_of_testBit_eq fun i=>?_
 rw [Nat.testBit_xor,show 18446744073709551615 - b=2 ^ 64 - (b + 1) from by unfold W at hb;omega,Nat.testBit_two_pow_sub_succ hb,show (18446744073709551615 : Nat)=2 ^ 64 - 1 from rfl,Nat.testBit_two_pow_sub_one]
 by_cases h2 : i < 64
 ·simp [h2]
 ·rw [tb_hi (i:=64) hb (by omega)];simp [h2]
theorem clear_exp (n : Bool) {r : Nat} (h : r < 9223372036854775808) : word n r &&& 9227875636482146303=word n (r % 4503599627370496):=by
 have hr : r=(r / 4503599627370496) * 4503599627370496 + r % 4503599627370496:=by omega
 refine Nat.eq_of_testBit_eq fun i=>?_
 rw [Nat.testBit_and,tb_word n h,tb_word n (by omega),show (9227875636482146303 : Nat)=word true (2 ^ 52 - 1) from rfl,tb_word true (by decide),Nat.testBit_two_pow_sub_one,hr,fields _ _ _ (Nat.mod_lt _ (by decide)),← hr]
 by_cases hi : i=63
 ·simp [hi]
 ·simp only [if_neg hi]
  by_cases h2 : i < 52
  ·simp [h2]
  ·rw [tb_hi (i:=52) (x:=r % 4503599627370496) (Nat.mod_lt _ (by decide)) (by omega)];simp [h2]
theorem set_exp (n : Bool) {q f : Nat} (hq : q < 2048) (hf : f < 4503599627370496) : word n f ||| q * 4503599627370496=word n (q * 4503599627370496 + f):=by
 refine Nat.eq_of_testBit_eq fun i=>?_
 rw [Nat.testBit_or,tb_word n (by omega),tb_word n (by omega),fields q f i hf]
 have e:=fields q 0 i (by decide)
 rw [Nat.add_zero] at e
 rw [e]
 by_cases hi : i=63
 ·subst hi
  simp only [if_true]
  rw [if_neg (by decide),tb_hi (i:=11) hq (by decide)];simp
 ·simp only [if_neg hi]
  by_cases h2 : i < 52
  ·simp [h2]
  ·rw [tb_hi (i:=52) hf (by omega)];simp [h2]
theorem sgnB (b : Nat) (hb : b < W) : bits .and .u64 (b : Int) 9223372036854775808=if neg b then 9223372036854775808 else 0:=by
 have h:=u64_and_nat b 9223372036854775808 hb (by decide)
 have e:=and_sign (neg b) (rung_lt b)
 rw [← word_of b hb] at e
 rw [e] at h
 refine h.trans ?_
 cases neg b <;> rfl
theorem absB (b : Nat) (hb : b < W) : bits .andNot .u64 (b : Int) 9223372036854775808=(rung b : Int):=by
 have h:=u64_andNot_nat b 9223372036854775808 hb (by decide)
 have e:=andNot_sign (neg b) (rung_lt b)
 rw [← word_of b hb] at e
 refine h.trans ?_
 rw [show (18446744073709551615 - 9223372036854775808 : Nat)=9223372036854775807 from rfl,e]
theorem maxB (b : Nat) (hb : b < W) : bits .or .u64 (b : Int) 9223372036854775807=(word (neg b) 9223372036854775807 : Nat):=by
 have h:=u64_or_nat b 9223372036854775807 hb (by decide)
 have e:=or_max (neg b) (rung_lt b)
 rw [← word_of b hb] at e
 exact h.trans (by rw [e])
theorem signB (r : Nat) (h : r < 9223372036854775808) : bits .or .u64 (r : Int) 9223372036854775808=(9223372036854775808 + r : Nat):=by
 have h1:=u64_or_nat r 9223372036854775808 (by omega) (by decide)
 exact h1.trans (by rw [or_sign h])
theorem xorB (b : Nat) (hb : b < W) : bits .xor .u64 18446744073709551615 (b : Int)=(18446744073709551615 - b : Nat):=by
 have h1:=u64_xor_nat 18446744073709551615 b (by decide) hb
 exact h1.trans (by rw [xor_max hb])
theorem clearB (n : Bool) (r : Nat) (h : r < 9223372036854775808) : bits .andNot .u64 (word n r : Nat) 9218868437227405312=(word n (r % 4503599627370496) : Nat):=by
 have h1:=u64_andNot_nat (word n r) 9218868437227405312 (rung_word n h).2.2 (by decide)
 refine h1.trans ?_
 rw [show (18446744073709551615 - 9218868437227405312 : Nat)=9227875636482146303 from rfl,clear_exp n h]
theorem setB (n : Bool) (q f : Nat) (hq : q < 2048) (hf : f < 4503599627370496) : bits .or .u64 (word n f : Nat) ((q * 4503599627370496 : Nat) : Int)=(word n (q * 4503599627370496 + f) : Nat):=by
 have h1:=u64_or_nat (word n f) (q * 4503599627370496) (rung_word n (by omega)).2.2 (by omega)
 exact h1.trans (by rw [set_exp n hq hf])
theorem word_div (n : Bool) {r : Nat} (h : r < 9223372036854775808) : word n r / 4503599627370496=(if n then 2048 else 0) + r / 4503599627370496∧r / 4503599627370496 < 2048:=by
 unfold word;cases n <;> simp <;> omega
theorem expB (n : Bool) (r : Nat) (h : r < 9223372036854775808) : bits .and .u64 ((word n r : Int) / 4503599627370496) 2047=((r / 4503599627370496 : Nat) : Int):=by
 obtain ⟨d1,d2⟩:=word_div n h
 have h1:=u64_and_nat (word n r / 4503599627370496) 2047 (by rw [d1];cases n <;> simp <;> omega) (by decide)
 have e : ((word n r : Int) / 4503599627370496)=((word n r / 4503599627370496 : Nat) : Int):=by omega
 rw [e]
 refine h1.trans ?_
 rw [show (2047 : Nat)=2 ^ 11 - 1 from rfl,Nat.and_two_pow_sub_one_eq_mod,d1]
 congr 1
 cases n <;> simp <;> omega
theorem expI (n : Bool) (r : Nat) (h : r < 9223372036854775808) : bits .and .i64 ((word n r : Int) / 4503599627370496) 2047=((r / 4503599627370496 : Nat) : Int):=by
 obtain ⟨d1,d2⟩:=word_div n h
 have e : ((word n r : Int) / 4503599627370496)=((word n r / 4503599627370496 : Nat) : Int):=by omega
 have hlt : word n r / 4503599627370496 < 4096:=by rw [d1];cases n <;> simp <;> omega
 have h1:=bits_mask .i64 63 (by decide) (fun m h0 h1=>by rw [IntKind.wrap_i64];omega) 11 (by decide) ((word n r / 4503599627370496 : Nat) : Int) (by omega) (by omega)
 rw [e]
 refine (show bits .and .i64 ((word n r / 4503599627370496 : Nat) : Int) 2047=_ from h1).trans ?_
 rw [d1]
 cases n <;> simp <;> omega
def placeN (b : Nat) : Nat:=if nan b then (if neg b then 0 else 18446744073709551615) else (if neg b then 18446744073709551615 - b else 9223372036854775808 + b)
theorem neg_rung {b : Nat} (hb : b < W) (h : neg b=false) : rung b=b∧b < 9223372036854775808:=by
 unfold neg rung W at *
 have:=of_decide_eq_false h;omega
end Go.Proofs.YtkplahkkmmoppaaGreatDoor.Wm
namespace Go.Proofs.YtkplahkkmmoppaaGreatDoor
open Go.RowKit
theorem abs_any (b : Nat) (hb : b < Wm.W) (w : World) :
  Calls Tryz.prog 260 #[.float .f64 b] w fun e w'=>e = .returned (.float .f64 (Wm.rung b))∧w=w':=by
 have hfb:=tb_run
 have hfb2:=fb_run
 have e:=Wm.absB b hb
 go_enter Tryz.func260,Tryz.ntmps260
 go_wp2_with fail
 go_ret
 exact ⟨rfl,rfl⟩
theorem place_w (b : Nat) (hb : b < Wm.W) (w : World) :
  Calls Tryz.prog 145 #[.float .f64 b] w fun e w'=>e = .returned (.int .u64 (Wm.placeN b))∧w=w':=by
 have hfb:=tb_run
 have hs : IntKind.u64.signed=false:=rfl
 have hm : IntKind.u64.max=18446744073709551615:=rfl
 have e1:=Wm.sgnB b hb
 have e2:=Wm.maxB b hb
 have e3:=Wm.xorB b hb
 go_enter Tryz.func145,Tryz.ntmps145
 go_wp2_with fail
 refine (isNaN_any b hb _).mono ?_
 rintro e w' ⟨rfl,rfl⟩
 cases hn : Wm.nan b
 ·cases hg : Wm.neg b
  ·have e4:=Wm.signB b (Wm.neg_rung hb hg).2
   rw [hg] at e1
   clear e2 e3
   go_wp2_with fail
   go_ret
   exact ⟨by rw [Wm.placeN,hn,hg];rfl,rfl⟩
  ·rw [hg] at e1
   clear e2
   go_wp2_with fail
   go_ret
   exact ⟨by rw [Wm.placeN,hn,hg];rfl,rfl⟩
 ·cases hg : Wm.neg b
  ·have e2' : bits .or .u64 (b : Int) 9223372036854775807=9223372036854775807:=by rw [e2,hg];rfl
   have e5 : bits .and .u64 9223372036854775807 9223372036854775808=0:=by kernel_rfl
   have e6 : bits .or .u64 9223372036854775807 9223372036854775808=18446744073709551615:=by kernel_rfl
   clear e1 e2 e3
   go_wp2_with fail
   go_ret
   exact ⟨by rw [Wm.placeN,hn,hg];rfl,rfl⟩
  ·have e2' : bits .or .u64 (b : Int) 9223372036854775807=18446744073709551615:=by rw [e2,hg];rfl
   have e5 : bits .and .u64 18446744073709551615 9223372036854775808=9223372036854775808:=by kernel_rfl
   have e6 : bits .xor .u64 18446744073709551615 18446744073709551615=0:=by kernel_rfl
   clear e1 e2 e3
   go_wp2_with fail
   go_ret
   exact ⟨by rw [Wm.placeN,hn,hg];rfl,rfl⟩
theorem isNaNU_any (x : Nat) (w : World) :
  Calls Tryz.prog 193 #[.int .u64 x] w fun e w'=>e = .returned (.bool false)∧w=w':=by
 go_enter Tryz.func193,Tryz.ntmps193
 go_wp2_with fail
 go_ret
 exact ⟨by first | rfl | simp,rfl⟩
theorem cmpU_any (x y : Nat) (w : World) :
  Calls Tryz.prog 144 #[.int .u64 x,.int .u64 y] w fun e w'=>e = .returned (.int .i64 (Vm.sgn x y))∧w=w':=by
 obtain ⟨v,hv,hc⟩ : ∃ v : Int,Hid (Vm.sgn x y=v)∧((x < y∧v = -1) ∨ (y < x∧v=1) ∨ (x=y∧v=0)):=by
  refine ⟨_,Lib.hid rfl,?_⟩
  unfold Vm.sgn
  by_cases h1 : (x : Int) < y
  ·left;exact ⟨by omega,by rw [if_pos h1]⟩
  ·by_cases h2 : (y : Int) < x
   ·right;left;exact ⟨by omega,by rw [if_neg h1,if_pos h2]⟩
   ·right;right;exact ⟨by omega,by rw [if_neg h1,if_neg h2]⟩
 rcases hc with ⟨h1,rfl⟩ | ⟨h1,rfl⟩ | ⟨rfl,rfl⟩
 all_goals
  go_enter Tryz.func144,Tryz.ntmps144
  go_wp2_with fail
  refine (isNaNU_any _ _).mono ?_
  rintro e w' ⟨rfl,rfl⟩
  go_wp2_with fail
  refine (isNaNU_any _ _).mono ?_
  rintro e w' ⟨rfl,rfl⟩
  go_wp2_with fail
  go_ret
  exact ⟨by rw [hv.out];rfl,rfl⟩
theorem compare_w (a b : Nat) (ha : a < Wm.W) (hb : b < Wm.W) (w : World) :
  Calls Tryz.prog 99 #[.float .f64 a,.float .f64 b] w fun e w'=>e = .returned (.int .i64 (Vm.sgn (Wm.placeN a) (Wm.placeN b)))∧w=w':=by
 go_enter Tryz.func99,Tryz.ntmps99
 go_wp2_with fail
 refine (place_w a ha _).mono ?_
 rintro e w' ⟨rfl,rfl⟩
 go_wp2_with fail
 refine (place_w b hb _).mono ?_
 rintro e w' ⟨rfl,rfl⟩
 go_wp2_with fail
 refine (cmpU_any _ _ _).mono ?_
 rintro e w' ⟨rfl,rfl⟩
 go_wp2_with fail
 go_ret
 exact ⟨rfl,rfl⟩
theorem same_w (a b : Nat) (ha : a < Wm.W) (hb : b < Wm.W) (w : World) :
  Calls Tryz.prog 50 #[.float .f64 a,.float .f64 b] w fun e w'=>e = .returned (.bool (Vm.sgn (Wm.placeN a) (Wm.placeN b) == 0))∧w=w':=by
 go_enter Tryz.func50,Tryz.ntmps50
 go_wp2_with fail
 refine (compare_w a b ha hb _).mono ?_
 rintro e w' ⟨rfl,rfl⟩
 go_wp2_with fail
 go_ret
 exact ⟨rfl,rfl⟩
theorem sgn_eq (a b : Int) : (a < b∧Vm.sgn a b = -1) ∨ (b < a∧Vm.sgn a b=1) ∨ (a=b∧Vm.sgn a b=0):=by
 unfold Vm.sgn
 by_cases h1 : a < b
 ·left;exact ⟨h1,by rw [if_pos h1]⟩
 ·by_cases h2 : b < a
  ·right;left;exact ⟨h2,by rw [if_neg h1,if_pos h2]⟩
  ·right;right;exact ⟨by omega,by rw [if_neg h1,if_neg h2]⟩
theorem sk_zero : Wm.sk 0=0:=rfl
theorem nan_zero : Wm.nan 0=false:=rfl
theorem lt_zero (b : Nat) (hb : b < Wm.W) : (FloatKind.f64.format.order b 0 == some .lt)=(!Wm.nan b && decide (Wm.sk b < 0)):=by
 rw [Wm.ord_lt b 0 hb (by decide),nan_zero,sk_zero];simp
def Fin (r : Nat) : Prop:=0 < r∧r < 9218868437227405312
theorem fin_word {r : Nat} (h : Fin r) (n : Bool) : Wm.word n r < Wm.W∧Wm.nan (Wm.word n r)=false∧Wm.sk (Wm.word n r) ≠ 0∧Wm.sk (Wm.word n r) < 9218868437227405312 ∧ -9218868437227405312 < Wm.sk (Wm.word n r):=by
 obtain ⟨h1,h2⟩:=h
 obtain ⟨a1,a2,a3⟩:=Wm.rung_word n (r:=r) (by omega)
 refine ⟨a3,?_,?_⟩
 ·unfold Wm.nan;rw [a1];exact decide_eq_false (by omega)
 ·unfold Wm.sk;rw [a1,a2];cases n <;> simp <;> omega
theorem mIsNaN_any (b : Nat) (hb : b < Wm.W) (w : World) :
  Calls Tryz.prog 229 #[.float .f64 b] w fun e w'=>e = .returned (.bool (Wm.nan b))∧w=w':=by
 have H:=Wm.ord_self b hb
 go_enter Tryz.func229,Tryz.ntmps229
 go_wp2_with fail
 go_ret
 exact ⟨rfl,rfl⟩
theorem fin_pos {r : Nat} (h : Fin r) : r < Wm.W∧Wm.nan r=false∧Wm.sk r=r:=by
 obtain ⟨h1,h2⟩:=h
 obtain ⟨a1,a2,a3⟩:=Wm.rung_word false (r:=r) (by omega)
 refine ⟨a3,?_,?_⟩
 ·unfold Wm.nan;rw [show Wm.rung r=r from a1];exact decide_eq_false (by omega)
 ·unfold Wm.sk;rw [show Wm.neg r=false from a2,show Wm.rung r=r from a1];rfl
theorem abs_word (n : Bool) {r : Nat} (h : Fin r) (w : World) :
  Calls Tryz.prog 260 #[.float .f64 (Wm.word n r)] w fun e w'=>e = .returned (.float .f64 r)∧w=w':=by
 have h2:=h.2
 obtain ⟨a1,a2,a3⟩:=Wm.rung_word n (r:=r) (by omega)
 have:=abs_any (Wm.word n r) a3 w
 rwa [a1] at this
theorem isInf_no (n : Bool) (r : Nat) (h : Fin r) (w : World) :
  Calls Tryz.prog 228 #[.float .f64 (Wm.word n r),.int .i64 0] w fun e w'=>e = .returned (.bool false)∧w=w':=by
 obtain ⟨g1,g2,g3⟩:=fin_pos h
 have h2:=h.2
 have o1:=Wm.ord_gt r 9218868437227405311 g1 (by decide)
 rw [g2,g3,show Wm.sk 9218868437227405311=9218868437227405311 from rfl,decide_eq_false (by omega)] at o1
 simp only [Bool.and_false] at o1
 clear g1 g2 g3 h2
 go_enter Tryz.func228,Tryz.ntmps228
 go_wp2_with fail
 refine (abs_word n h _).mono ?_
 rintro e w' ⟨rfl,rfl⟩
 go_wp2_with fail
 go_ret
 exact ⟨rfl,rfl⟩
theorem run_mul (x y r : Nat) (h : Ieee.double.mul x y=some r) (W : World) : (binOp .mul 25 (.float .f64 x) (.float .f64 y)).run Tryz.prog W = .ok (.float .f64 r) W :=
 run_float_arith W .mul _ .f64 x y r h
def nrmX (r : Nat) : Int:=if r < 4503599627370496 then -52 else 0
theorem normalize_any (n : Bool) (r : Nat) (h : Fin r) (w : World) :
  Calls Tryz.prog 230 #[.float .f64 (Wm.word n r)] w fun e w'=>e = .returned (.tuple #[.float .f64 (Wm.word n (Wm.nrm r)),.int .i64 (nrmX r)])∧w=w':=by
 obtain ⟨g1,g2,g3⟩:=fin_pos h
 have o1:=Wm.ord_lt r 4503599627370496 g1 (by decide)
 rw [g2,g3,show Wm.nan 4503599627370496=false from rfl,show Wm.sk 4503599627370496=4503599627370496 from rfl] at o1
 clear g1 g2 g3
 by_cases hr : r < 4503599627370496
 ·rw [decide_eq_true (by omega)] at o1
  simp only [Bool.not_false,Bool.and_true] at o1
  have hm:=run_mul _ _ _ (Wm.mul_nrm n h.1 hr)
  have HX : Hid (nrmX r = -52):=by show _=_;rw [nrmX,if_pos hr]
  clear hr
  go_enter Tryz.func230,Tryz.ntmps230
  go_wp2_with fail
  refine (abs_word n h _).mono ?_
  rintro e w' ⟨rfl,rfl⟩
  go_wp2_with fail
  go_ret2
  exact ⟨by rw [HX.out];rfl,rfl⟩
 ·rw [decide_eq_false (by omega)] at o1
  simp only [Bool.not_false,Bool.and_false] at o1
  have HX : Hid (nrmX r=0∧Wm.nrm r=r):=by show _∧_;rw [nrmX,if_neg hr,Wm.nrm,if_neg hr];exact ⟨rfl,rfl⟩
  clear hr
  go_enter Tryz.func230,Tryz.ntmps230
  go_wp2_with fail
  refine (abs_word n h _).mono ?_
  rintro e w' ⟨rfl,rfl⟩
  go_wp2_with fail
  go_ret2
  exact ⟨by rw [HX.out.1,HX.out.2];rfl,rfl⟩
theorem ne_zero (n : Bool) {r : Nat} (h : Fin r) : (FloatKind.f64.format.order (Wm.word n r) 0 == some .eq)=false:=by
 obtain ⟨g1,g2,g3,_⟩:=fin_word h n
 rw [Wm.ord_eq _ 0 g1 (by decide),g2,nan_zero,sk_zero,decide_eq_false g3];rfl
theorem frexp_in (n : Bool) (r : Nat) (h : Fin r) (w : World) :
  Calls Tryz.prog 196 #[.float .f64 (Wm.word n r)] w fun e w'=>e = .returned (.tuple #[.float .f64 (Wm.word n (4602678819172646912 + Wm.fOf r)),.int .i64 (Wm.xOf r)])∧w=w':=by
 have o1:=ne_zero n h
 obtain ⟨n1,n2⟩:=Wm.nrm_lo h.1 h.2
 have hfb:=tb_run
 have hfb2:=fb_run
 have e1:=Wm.expB n (Wm.nrm r) (by omega)
 have e2:=Wm.clearB n (Wm.nrm r) (by omega)
 have e3 : bits .or .u64 (Wm.word n (Wm.nrm r % 4503599627370496) : Nat) 4602678819172646912=(Wm.word n (4602678819172646912 + Wm.nrm r % 4503599627370496) : Nat):=Wm.setB n 1022 (Wm.nrm r % 4503599627370496) (by decide) (by omega)
 have hq : Wm.nrm r / 4503599627370496 < 2048:=by omega
 have HX : Hid (Wm.xOf r=nrmX r + ((Wm.nrm r / 4503599627370496 : Nat) - 1023 + 1)):=by
  show _=_
  unfold Wm.xOf nrmX
  split <;> omega
 have HF : Hid (Wm.fOf r=Wm.nrm r % 4503599627370496):=rfl
 have hx0 : nrmX r = -52 ∨ nrmX r=0:=by unfold nrmX;split <;> simp
 clear n1 n2
 generalize Wm.nrm r / 4503599627370496=q at *
 go_enter Tryz.func196,Tryz.ntmps196
 go_wp2_with fail
 refine (isInf_no n r h _).mono ?_
 rintro e w' ⟨rfl,rfl⟩
 go_wp2_with fail
 refine (mIsNaN_any _ (fin_word h n).1 _).mono ?_
 rintro e w' ⟨rfl,rfl⟩
 rw [(fin_word h n).2.1]
 go_wp2_with fail
 refine (normalize_any n r h _).mono ?_
 rintro e w' ⟨rfl,rfl⟩
 go_wp2_with fail
 go_ret2
 exact ⟨by rw [HX.out,HF.out];rfl,rfl⟩
theorem frexp_any (n : Bool) (r : Nat) (h : Fin r) (w : World) :
  Calls Tryz.prog 147 #[.float .f64 (Wm.word n r)] w fun e w'=>e = .returned (.tuple #[.float .f64 (Wm.word n (4602678819172646912 + Wm.fOf r)),.int .i64 (Wm.xOf r)])∧w=w':=by
 go_enter Tryz.func147,Tryz.ntmps147
 go_wp2_with fail
 refine (frexp_in n r h _).mono ?_
 rintro e w' ⟨rfl,rfl⟩
 go_wp2_with fail
 go_ret2
 exact ⟨rfl,rfl⟩
theorem copysign_any (b c : Nat) (hb : b < Wm.W) (hc : c < Wm.W) (w : World) :
  Calls Tryz.prog 231 #[.float .f64 b,.float .f64 c] w fun e w'=>e = .returned (.float .f64 (Wm.word (Wm.neg c) (Wm.rung b)))∧w=w':=by
 have hfb:=tb_run
 have hfb2:=fb_run
 have e1:=Wm.absB b hb
 have e2:=Wm.sgnB c hc
 have e3:=Wm.signB (Wm.rung b) (Wm.rung_lt b)
 have e4 : bits .or .u64 (Wm.rung b : Int) 0=(Wm.rung b : Int):=by
  have h:=u64_or_nat (Wm.rung b) 0 (by have:=Wm.rung_lt b;omega) (by decide)
  rw [Nat.or_zero] at h
  exact h
 have HW : Hid (∀ g r,Wm.word g r=if g then 9223372036854775808 + r else r):=fun _ _=>rfl
 cases hg : Wm.neg c
 all_goals
  rw [hg] at e2
  go_enter Tryz.func231,Tryz.ntmps231
  go_wp2_with fail
  go_ret
  exact ⟨by rw [HW.out];rfl,rfl⟩
theorem ldexp_in (n : Bool) (r : Nat) (e : Int) (h : Fin r) (hr : 4503599627370496≤r) (he : -100000≤e∧e≤100000) (w : World) :
  Calls Tryz.prog 198 #[.float .f64 (Wm.word n r),.int .i64 e] w fun e' w'=>e' = .returned (.float .f64 (Wm.ldx n r e))∧w=w':=by
 have o1:=ne_zero n h
 have h2:=h.2
 have hfb:=tb_run
 have hfb2:=fb_run
 have e1:=Wm.expI n r (by omega)
 have e2:=Wm.clearB n r (by omega)
 have hq : r / 4503599627370496 < 2048:=by omega
 have hnm : Wm.nrm r=r∧nrmX r=0:=by unfold Wm.nrm nrmX;rw [if_neg (by omega),if_neg (by omega)];exact ⟨rfl,rfl⟩
 have HL : Hid (Wm.ldx n r e=if Wm.ldE r e < -1075 then Wm.word n 0 else if 1023 < Wm.ldE r e then Wm.word n 9218868437227405312
  else if Wm.ldE r e < -1022 then Wm.deno n ((Wm.ldE r e + 1076).toNat * 4503599627370496 + r % 4503599627370496)
  else Wm.word n ((Wm.ldE r e + 1023).toNat * 4503599627370496 + r % 4503599627370496)):=rfl
 have HE : Hid (Wm.ldE r e=(r / 4503599627370496 : Nat) - 1023 + e):=rfl
 have hfr : r % 4503599627370496 < 4503599627370496:=by omega
 have hz0 : 0≤(Wm.word n r : Int) / 4503599627370496:=by omega
 have hz1 : (Wm.word n r : Int) / 4503599627370496≤4095:=by have:=(fin_word h n).1;unfold Wm.W at this;omega
 go_enter Tryz.func198,Tryz.ntmps198
 go_wp2_with fail
 refine (isInf_no n r h _).mono ?_
 rintro e' w' ⟨rfl,rfl⟩
 go_wp2_with fail
 refine (mIsNaN_any _ (fin_word h n).1 _).mono ?_
 rintro e' w' ⟨rfl,rfl⟩
 rw [(fin_word h n).2.1]
 go_wp2_with fail
 refine (normalize_any n r h _).mono ?_
 rintro e' w' ⟨rfl,rfl⟩
 rw [hnm.1,hnm.2]
 clear hnm hr h2
 generalize r / 4503599627370496=q at *
 by_cases c1 : (q : Int) - 1023 + e < -1075
 ·have HV : Hid (Wm.ldx n r e=Wm.word n 0):=by show _=_;rw [HL.out,if_pos (by rw [HE.out];exact c1)]
  clear HL HE
  go_wp2_with fail
  refine (copysign_any 0 (Wm.word n r) (by decide) (fin_word h n).1 _).mono ?_
  rintro e' w' ⟨rfl,rfl⟩
  rw [(Wm.rung_word n (r:=r) (by have:=h.2;omega)).2.1]
  go_wp2_with fail
  go_ret
  exact ⟨by rw [HV.out];rfl,rfl⟩
 ·by_cases c2 : 1023 < (q : Int) - 1023 + e
  ·have HV : Hid (Wm.ldx n r e=Wm.word n 9218868437227405312):=by show _=_;rw [HL.out,if_neg (by rw [HE.out];exact c1),if_pos (by rw [HE.out];exact c2)]
   clear HL HE
   have o2:=lt_zero _ (fin_word h n).1
   rw [(fin_word h n).2.1] at o2
   have hs : decide (Wm.sk (Wm.word n r) < 0)=n:=by
    obtain ⟨a1,a2,a3⟩:=Wm.rung_word n (r:=r) (by have:=h.2;omega)
    have:=h.1
    unfold Wm.sk;rw [a1,a2];cases n <;> simp <;> omega
   rw [hs] at o2
   clear hs
   cases n
   all_goals
    simp only [Bool.not_false,Bool.true_and] at o2
    go_wp2_with fail
    refine (inf_any _ _).mono ?_
    rintro e' w' ⟨rfl,rfl⟩
    go_wp2_with fail
    go_ret
    exact ⟨by rw [HV.out];rfl,rfl⟩
  ·by_cases c3 : (q : Int) - 1023 + e < -1022
   ·have HV : Hid (Wm.ldx n r e=Wm.deno n ((Wm.ldE r e + 1076).toNat * 4503599627370496 + r % 4503599627370496)):=by show _=_;rw [HL.out,if_neg (by rw [HE.out];exact c1),if_neg (by rw [HE.out];exact c2),if_pos (by rw [HE.out];exact c3)]
    clear HL
    obtain ⟨p,hp⟩ : ∃ p : Nat,(q : Int) - 1023 + e + 1076=p:=⟨((q : Int) - 1023 + e + 1076).toNat,by omega⟩
    have HP : Hid ((Wm.ldE r e + 1076).toNat=p):=by show _=_;rw [HE.out];omega
    rw [HP.out] at HV
    have e3 : bits .or .u64 (Wm.word n (r % 4503599627370496) : Nat) ((e + ((q : Int) - 1023) + 53 + 1023) * 4503599627370496)=(Wm.word n (p * 4503599627370496 + r % 4503599627370496) : Nat):=by
     rw [show (e + ((q : Int) - 1023) + 53 + 1023) * 4503599627370496=((p * 4503599627370496 : Nat) : Int) from by omega]
     exact Wm.setB n p _ (by omega) hfr
    have hm:=run_mul _ _ _ (Wm.mul_deno n (r:=p * 4503599627370496 + r % 4503599627370496) (by omega)).1
    clear HP HE hp
    go_wp2_with fail
    go_ret
    exact ⟨by rw [HV.out];rfl,rfl⟩
   ·have HV : Hid (Wm.ldx n r e=Wm.word n ((Wm.ldE r e + 1023).toNat * 4503599627370496 + r % 4503599627370496)):=by show _=_;rw [HL.out,if_neg (by rw [HE.out];exact c1),if_neg (by rw [HE.out];exact c2),if_neg (by rw [HE.out];exact c3)]
    clear HL
    obtain ⟨p,hp⟩ : ∃ p : Nat,(q : Int) - 1023 + e + 1023=p:=⟨((q : Int) - 1023 + e + 1023).toNat,by omega⟩
    have HP : Hid ((Wm.ldE r e + 1023).toNat=p):=by show _=_;rw [HE.out];omega
    rw [HP.out] at HV
    have e3 : bits .or .u64 (Wm.word n (r % 4503599627370496) : Nat) ((e + ((q : Int) - 1023) + 1023) * 4503599627370496)=(Wm.word n (p * 4503599627370496 + r % 4503599627370496) : Nat):=by
     rw [show (e + ((q : Int) - 1023) + 1023) * 4503599627370496=((p * 4503599627370496 : Nat) : Int) from by omega]
     exact Wm.setB n p _ (by omega) hfr
    have hm:=run_mul _ _ _ (Wm.mul_one n (r:=p * 4503599627370496 + r % 4503599627370496) (by omega) (by omega))
    clear HP HE hp
    go_wp2_with fail
    go_ret
    exact ⟨by rw [HV.out];rfl,rfl⟩
theorem ldexp_any (n : Bool) (r : Nat) (e : Int) (h : Fin r) (hr : 4503599627370496≤r) (he : -100000≤e∧e≤100000) (w : World) :
  Calls Tryz.prog 148 #[.float .f64 (Wm.word n r),.int .i64 e] w fun e' w'=>e' = .returned (.float .f64 (Wm.ldx n r e))∧w=w':=by
 go_enter Tryz.func148,Tryz.ntmps148
 go_wp2_with fail
 refine (ldexp_in n r e h hr he _).mono ?_
 rintro e' w' ⟨rfl,rfl⟩
 go_wp2_with fail
 go_ret
 exact ⟨rfl,rfl⟩
end Go.Proofs.YtkplahkkmmoppaaGreatDoor
namespace Go.Proofs.YtkplahkkmmoppaaGreatDoor.Wm
open Go.Lib
theorem num_snoc (l : List UInt8) (c : UInt8) : Vm.num (l ++ [c])=10 * Vm.num l + (c.toNat - 48):=by
 unfold Vm.num;rw [List.foldl_append];rfl
theorem dig_iff (c : UInt8) : Vm.dig c=true ↔ 48≤c.toNat∧c.toNat≤57:=by unfold Vm.dig;simp
theorem ofNat_toNat (n : Nat) (h : n < 256) : (UInt8.ofNat n).toNat=n:=by rw [UInt8.toNat_ofNat'];omega
def plain (l : List UInt8) : Prop:=l ≠ []∧l.all Vm.dig=true∧(l.head? = some 48 → l = [48])
theorem dec_small {u : Nat} (h : u < 10) : decDigits u = [UInt8.ofNat (48 + u)]:=by rw [decDigits,dif_pos h]
theorem dec_big {u : Nat} (h : ¬ u < 10) : decDigits u=decDigits (u / 10) ++ [UInt8.ofNat (48 + u % 10)]:=by rw [decDigits,dif_neg h]
theorem dec_plain : ∀ (n u : Nat),u≤n → plain (decDigits u)∧Vm.num (decDigits u)=u∧(0 < u → (decDigits u).head? ≠ some 48)
 | 0,u,h=>by
  obtain rfl : u=0:=by omega
  rw [dec_small (by omega)]
  refine ⟨⟨by simp,by decide,fun _=>rfl⟩,by decide,fun h=>by omega⟩
 | n + 1,u,h=>by
  by_cases c : u < 10
  ·rw [dec_small c]
   have hd : (UInt8.ofNat (48 + u)).toNat=48 + u:=ofNat_toNat _ (by omega)
   refine ⟨⟨by simp,?_,fun h=>?_⟩,?_,fun h0 h=>?_⟩
   ·simp only [List.all_cons,List.all_nil,Bool.and_true];rw [dig_iff,hd];omega
   ·simp only [List.head?_cons,Option.some.injEq] at h;rw [h]
   ·have:=num_snoc [] (UInt8.ofNat (48 + u));rw [List.nil_append,hd] at this;rw [this];simp [Vm.num]
   ·simp only [List.head?_cons,Option.some.injEq] at h
    rw [h] at hd;have : (48 : UInt8).toNat=48:=rfl
    omega
  ·obtain ⟨⟨h1,h2,h3⟩,h4,h5⟩:=dec_plain n (u / 10) (by omega)
   have hd : (UInt8.ofNat (48 + u % 10)).toNat=48 + u % 10:=ofNat_toNat _ (by omega)
   have h6:=h5 (by omega)
   rw [dec_big c]
   have hh : (decDigits (u / 10) ++ [UInt8.ofNat (48 + u % 10)]).head? = (decDigits (u / 10)).head?:=by
    rw [List.head?_append]
    cases hx : (decDigits (u / 10)).head? with
    | none=>rw [List.head?_eq_none_iff] at hx;exact absurd hx h1
    | some _=>rfl
   refine ⟨⟨by simp,?_,fun h=>?_⟩,?_,fun _=>?_⟩
   ·rw [List.all_append,h2];simp only [List.all_cons,List.all_nil,Bool.and_true,Bool.true_and];rw [dig_iff,hd];omega
   ·rw [hh] at h;exact absurd h h6
   ·rw [num_snoc,h4,hd];omega
   ·rw [hh];exact h6
theorem num_last (l : List UInt8) (h : l ≠ []) : Vm.num l % 2=((l.getLast h).toNat - 48) % 2:=by
 obtain ⟨m,c,rfl⟩ : ∃ m c,l=m ++ [c]:=⟨l.dropLast,l.getLast h,(List.dropLast_concat_getLast h).symm⟩
 rw [num_snoc,List.getLast_concat];omega
theorem parseUintM_num : ∀ (l : List UInt8) (acc : Nat),l.all Vm.dig=true → acc≤18446744073709551615 →
  parseUintM 18446744073709551615 acc l=if l.foldl (fun n c=>10 * n + (c.toNat - 48)) acc≤18446744073709551615 then .ok (l.foldl (fun n c=>10 * n + (c.toNat - 48)) acc) else .range
 | [],acc,_,h=>by simp [parseUintM,h]
 | c :: l,acc,h,ha=>by
  simp only [List.all_cons,Bool.and_eq_true] at h
  have hc:=(dig_iff c).1 h.1
  have mono : ∀ (l : List UInt8) (a : Nat),a≤l.foldl (fun n c=>10 * n + (c.toNat - 48)) a:=fun l=>by
   induction l with
   | nil=>intro a;exact Nat.le_refl _
   | cons c l ih=>intro a;rw [List.foldl_cons];exact Nat.le_trans (by omega) (ih _)
  have hm:=mono l (10 * acc + (c.toNat - 48))
  rw [List.foldl_cons]
  unfold parseUintM
  rw [if_pos hc,show acc * 10 + (c.toNat - 48)=10 * acc + (c.toNat - 48) from by omega]
  by_cases c1 : 10 * acc + (c.toNat - 48)≤18446744073709551615
  ·rw [if_neg (by omega),if_neg (by omega)]
   exact parseUintM_num l _ h.2 c1
  ·rw [if_neg (show ¬ l.foldl (fun n c=>10 * n + (c.toNat - 48)) (10 * acc + (c.toNat - 48))≤18446744073709551615 by omega)]
   split
   ·rfl
   ·rw [if_pos (by omega)]
def sgnd (l : List UInt8) : Bool:=l.head? == some 45
def mgn (l : List UInt8) : List UInt8:=if sgnd l then l.drop 1 else l
def decOk (l : List UInt8) : Prop:=plain (mgn l)∧(mgn l = [48] → sgnd l=false)
def nmb (l : List UInt8) : Int :=
 if sgnd l then (if Vm.num (mgn l)≤9223372036854775808 then -(Vm.num (mgn l) : Int) else -9223372036854775808)
 else (if Vm.num (mgn l) < 9223372036854775808 then (Vm.num (mgn l) : Int) else 9223372036854775807)
theorem parse_nmb (l : List UInt8) (h : plain (mgn l)) : parseIntB 64 l = .ok (nmb l) ∨ (parseIntB 64 l = .range∧intSat 64 l=nmb l):=by
 obtain ⟨h1,h2,_⟩:=h
 have hu:=parseUintM_num (mgn l) 0 h2 (by omega)
 have hB : parseUintB 64 (mgn l)=if Vm.num (mgn l)≤18446744073709551615 then .ok (Vm.num (mgn l)) else .range:=by
  unfold parseUintB;rw [if_neg h1];exact hu
 clear hu
 unfold nmb
 cases l with
 | nil=>exact absurd rfl h1
 | cons c r =>
  have h45 : (45 : UInt8).toNat=45:=rfl
  by_cases hc : c=45
  ·have hs : sgnd (c :: r)=true:=by unfold sgnd;rw [hc];rfl
   have hm : mgn (c :: r)=r:=by unfold mgn;rw [hs];rfl
   rw [hm] at hB ⊢
   rw [hs]
   unfold parseIntB intSat
   subst hc
   simp only [h45,or_true,if_true,hB]
   by_cases g1 : Vm.num r≤18446744073709551615
   ·simp only [if_pos g1]
    by_cases g2 : Vm.num r≤9223372036854775808
    ·left
     rw [if_neg (by simp),if_neg (by simp;omega)]
     simp [g2]
    ·right
     rw [if_neg (by simp),if_pos (by simp;omega)]
     simp [g2]
   ·right
    simp only [if_neg g1]
    simp;omega
  ·have hs : sgnd (c :: r)=false:=by unfold sgnd;simp [hc]
   have hm : mgn (c :: r)=c :: r:=by unfold mgn;rw [hs];rfl
   rw [hm] at hB h2 ⊢
   rw [hs]
   have hd : Vm.dig c=true:=by simp only [List.all_cons,Bool.and_eq_true] at h2;exact h2.1
   rw [dig_iff] at hd
   unfold parseIntB intSat
   simp only [List.head?_cons,Option.map_some,Option.some.injEq]
   rw [if_neg (show ¬ (c.toNat=43 ∨ c.toNat=45) by omega),hB,if_neg (show ¬ c.toNat=45 by omega)]
   by_cases g1 : Vm.num (c :: r)≤18446744073709551615
   ·simp only [if_pos g1]
    by_cases g2 : Vm.num (c :: r) < 9223372036854775808
    ·left
     rw [if_neg (by simp;omega),if_neg (by simp;omega),if_neg (show ¬ c.toNat=45 by omega)]
     simp [g2]
    ·right
     rw [if_pos (by simp;omega)]
     simp [g2]
   ·right
    simp only [if_neg g1]
    simp;omega
theorem mgn_eq (l : List UInt8) : Lib.trimPrefix l [45]=mgn l:=by
 unfold Lib.trimPrefix mgn sgnd Lib.hasPrefix
 cases l with
 | nil=>rfl
 | cons c t =>
  by_cases hc : c=45
  ·subst hc;rfl
  ·have h1 : (List.isPrefixOf [45] (c :: t))=false:=by simp [List.isPrefixOf];exact fun h=>hc h.symm
   rw [h1];simp [hc]
theorem mgn_le (l : List UInt8) : (mgn l).length≤l.length:=by
 unfold mgn;split
 ·rw [List.length_drop];omega
 ·exact Nat.le_refl _
def decB (l : List UInt8) : Bool:=if (mgn l).isEmpty || (mgn l).head? == some 48 then l == [48] else (Vm.undigs (mgn l)).isEmpty
theorem undigs_nil (l : List UInt8) : (Vm.undigs l).isEmpty=true ↔ l.all Vm.dig=true:=by
 unfold Vm.undigs
 induction l with
 | nil=>simp
 | cons c t ih =>
  rw [List.dropWhile_cons,List.all_cons]
  cases hc : Vm.dig c
  ·simp
  ·simp only [if_true,Bool.true_and];exact ih
theorem decB_iff (l : List UInt8) : decB l=true ↔ decOk l:=by
 unfold decB decOk plain
 constructor
 ·intro h
  split at h
  ·have : l = [48]:=by simpa using h
   subst this
   refine ⟨⟨by decide,by decide,fun _=>rfl⟩,fun _=>rfl⟩
  ·rename_i h2
   simp only [Bool.or_eq_true,List.isEmpty_iff,beq_iff_eq,not_or] at h2
   refine ⟨⟨h2.1,(undigs_nil _).1 h,fun h3=>absurd h3 h2.2⟩,fun h3=>absurd (by rw [h3];rfl) h2.2⟩
 ·rintro ⟨⟨h1,h2,h3⟩,h4⟩
  split
  ·rename_i h5
   simp only [Bool.or_eq_true,List.isEmpty_iff,beq_iff_eq] at h5
   rcases h5 with h5 | h5
   ·exact absurd h5 h1
   ·have h6:=h3 h5
    have h7:=h4 h6
    have : mgn l=l:=by unfold mgn;rw [h7];rfl
    rw [this] at h6
    rw [h6];rfl
  ·exact (undigs_nil _).2 h2
end Go.Proofs.YtkplahkkmmoppaaGreatDoor.Wm
namespace Go.Proofs.YtkplahkkmmoppaaGreatDoor
open Go.RowKit
namespace Wm
theorem ctz_tz {x : Nat} (h0 : 0 < x) (h : x < 18446744073709551616) : Lib.ctz 64 x=tz x:=by
 obtain ⟨m,e,_⟩:=Lib.ctzFrom_spec 64 x h0 h
 have : Lib.ctz 64 x=Lib.ctzFrom 64 x:=by unfold Lib.ctz;rw [if_neg (by omega)]
 rw [this]
 generalize Lib.ctzFrom 64 x=t at *
 rw [e,Nat.mul_comm,tz_mul (by omega),tz_odd (by omega)];omega
theorem tz_lt {m i : Nat} (h0 : 0 < m) (h : m < 2 ^ i) : tz m < i:=by
 have e:=(od_spec m m (Nat.le_refl _) h0).2
 have hp:=od_pos h0
 rcases Nat.lt_or_ge (tz m) i with h1 | h1
 ·exact h1
 ·have : 2 ^ i≤2 ^ tz m:=Nat.pow_le_pow_right (by decide) h1
  have : 1 * 2 ^ tz m≤od m * 2 ^ tz m:=Nat.mul_le_mul_right _ hp
  omega
theorem tz_neg {m : Nat} (h0 : 0 < m) (h : m < 2 ^ 53) : tz (18446744073709551616 - m)=tz m:=by
 obtain ⟨ho,e⟩:=od_spec m m (Nat.le_refl _) h0
 have ht:=tz_lt h0 h
 have hle:=od_le m
 generalize od m=k at *
 generalize tz m=t at *
 have e2 : 18446744073709551616 - m=(2 ^ (64 - t) - k) * 2 ^ t:=by
  rw [Nat.sub_mul,← Nat.pow_add,show 64 - t + t=64 from by omega,← e]
 have h2 : 2 ^ (64 - t)=2 * 2 ^ (63 - t):=by rw [show 64 - t=(63 - t) + 1 from by omega,Nat.pow_succ];omega
 have h4 : k < 2 ^ (64 - t):=by
  have h5 : k * 2 ^ t < 2 ^ (64 - t) * 2 ^ t:=by
   rw [← Nat.pow_add,show 64 - t + t=64 from by omega,← e];omega
  exact Nat.lt_of_mul_lt_mul_right h5
 rw [e2,tz_mul (by omega),tz_odd (by omega)];omega
def sg (n : Bool) (k : Nat) : Int:=(if n then -1 else 1) * (k : Int)
theorem sg_nat (n : Bool) (k : Nat) : (sg n k).natAbs=k:=by unfold sg;cases n <;> simp
def textF (n : Bool) (r : Nat) : List UInt8:=Lib.itoa (sg n (kOf r)) ++ 112 :: Lib.itoa (eOf r)
def signed (n : Bool) (l : List UInt8) : List UInt8:=if n then 45 :: l else l
def textW (b : Nat) : List UInt8 :=
 if nan b then [110,97,110] else if rung b=9218868437227405312 then signed (neg b) [105,110,102] else if rung b=0 then signed (neg b) [48] else textF (neg b) (rung b)
end Wm
def KOk (w : World) : Prop := MaxOk w ∧ Lib.TabIs Tryz.prog w "internal/strconv.uint64pow10" .u64 Lib.pow10Tab ∧ Lib.TabIs Tryz.prog w "math/bits.deBruijn64tab" .u8 (Lib.deBruijn64tab.map Int.ofNat) ∧ ∃ tp p, w.var? Tryz.prog "strconv.ErrRange" = some #[.iface tp p]
theorem var_lt {w : World} {n : String} {g : Nat} {cs : Array Value} (hg : Tryz.prog.globalNamed n=some g) (h : w.var? Tryz.prog n=some cs) : g < w.heap.size:=by
 unfold World.var? at h
 simp only [hg,Option.bind_some] at h
 rcases Nat.lt_or_ge g w.heap.size with h1 | h1
 ·exact h1
 ·simp [Array.getElem?_eq_none h1] at h
theorem kOk_below {w w' : World} (h : KOk w) (hb : Below w.heap.size w w') : KOk w':=by
 obtain ⟨h1,h2,h3,tp,p,h4⟩:=h
 have g2 : Tryz.prog.globalNamed "internal/strconv.uint64pow10" = some 3 := by kernel_rfl
 have g3 : Tryz.prog.globalNamed "math/bits.deBruijn64tab" = some 1 := by kernel_rfl
 have g4 : Tryz.prog.globalNamed "strconv.ErrRange" = some 8 := by kernel_rfl
 exact ⟨maxOk_below h1 hb,var?_below hb g2 (var_lt g2 h2) h2,var?_below hb g3 (var_lt g3 h3) h3,tp,p,var?_below hb g4 (var_lt g4 h4) h4⟩
theorem kOk_tab {w : World} (h : KOk w) : TabAt 1 Lib.deBruijn64tab w:=by
 intro j hj
 have := Lib.TabIs.cell h.2.2.1 (show Tryz.prog.globalNamed "math/bits.deBruijn64tab" = some 1 by kernel_rfl) j (by simpa using hj)
 rw [this]
 simp [List.getD,hj]
theorem product_any (n : Bool) (r : Nat) (h : Fin r) (w : World) (hk : KOk w) :
  Calls Tryz.prog 106 #[.float .f64 (Wm.word n r)] w fun e w'=>e = .returned (.string ⟨(Wm.textF n r).toArray⟩)∧Below w.heap.size w w':=by
 have hf:=Wm.fOf_lt r
 obtain ⟨x1,x2⟩:=Wm.fx_spec h.1
 have h53:=Wm.ldx_53 n (Wm.fOf r) hf
 have hti:=Wm.toInt_word n (Wm.fOf r) hf
 obtain ⟨M,hM⟩ : ∃ M,4503599627370496 + Wm.fOf r=M:=⟨_,rfl⟩
 rw [hM] at x1 x2 hti
 obtain ⟨F,hF⟩ : ∃ F : Int,(if n then -1 else 1) * (M : Int)=F:=⟨_,rfl⟩
 rw [hF] at hti
 have hcv : ∀ W : World,(convert 25 2 (.float .f64 (Wm.word n (4841369599423283200 + Wm.fOf r)))).run Tryz.prog W = .ok (.int .i64 F) W :=
  fun W=>run_convert_float_int W 25 2 .f64 .i64 _ _ (by kernel_rfl) Tryz.underlying2 hti
 have hM0 : 0 < M:=by omega
 have hM1 : M < 2 ^ 53:=by omega
 have hFb : -9007199254740992≤F∧F≤9007199254740992:=by rw [← hF];cases n <;> simp <;> omega
 obtain ⟨U,hU⟩ : ∃ U : Nat,IntKind.u64.wrap F=(U : Int)∧0 < U∧U < 18446744073709551616∧Wm.tz U=Wm.tz M:=by
  rw [← hF]
  cases n
  ·refine ⟨M,?_,hM0,by omega,rfl⟩
   rw [IntKind.wrap_u64];simp;omega
  ·refine ⟨18446744073709551616 - M,?_,by omega,by omega,Wm.tz_neg hM0 hM1⟩
   rw [IntKind.wrap_u64];simp;omega
 have hctz:=Wm.ctz_tz hU.2.1 hU.2.2.1
 rw [hU.2.2.2] at hctz
 have hz:=Wm.tz_lt hM0 hM1
 have hU1:=hU.1
 have hFr : Fin (4602678819172646912 + Wm.fOf r):=⟨by omega,by omega⟩
 clear hti
 go_enter Tryz.func106,Tryz.ntmps106
 go_wp2_with fail
 refine (frexp_any n r h _).mono ?_
 rintro e' w' ⟨rfl,rfl⟩
 go_wp2_with fail
 refine (ldexp_any n (4602678819172646912 + Wm.fOf r) 53 hFr (by omega) (by omega) _).mono ?_
 rintro e' w' ⟨rfl,rfl⟩
 rw [h53]
 clear h53 hf hM hFr
 go_wp2_with fail
 refine (Tryz.bits_TrailingZeros64 U hU.2.2.1 _ (fun _=>kOk_tab hk)).mono ?_
 rintro e' w' ⟨rfl,rfl⟩
 rw [hctz]
 clear hctz hU hcv hU1
 have HD : F / 2 ^ Wm.tz M=Wm.sg n (Wm.kOf r):=by
  have e:=(Wm.od_spec M M (Nat.le_refl _) hM0).2
  rw [x1] at e
  rw [← hF]
  have e3 : (if n then -1 else 1) * (M : Int)=Wm.sg n (Wm.kOf r) * (2 : Int) ^ Wm.tz M:=by
   unfold Wm.sg
   conv=>lhs;rw [e]
   rw [Int.natCast_mul,Int.mul_assoc,Int.natCast_pow];rfl
  rw [e3,Int.mul_ediv_cancel _ (Int.ne_of_gt (Int.pow_pos (by decide)))]
 have hkb:=(Wm.kOf_spec h.1 h.2).2.1
 have hsb : -9007199254740992≤Wm.sg n (Wm.kOf r)∧Wm.sg n (Wm.kOf r)≤9007199254740992:=by unfold Wm.sg;cases n <;> simp <;> omega
 have hxb : -2000≤Wm.xOf r∧Wm.xOf r≤2000:=by
  have:=h.2
  have:=(Wm.nrm_lo h.1 h.2).2
  unfold Wm.xOf;split <;> omega
 have HT : Hid (Wm.textF n r=Lib.itoa (Wm.sg n (Wm.kOf r)) ++ 112 :: Lib.itoa (Wm.eOf r)):=rfl
 have he0 : Wm.xOf r + ((Wm.tz M : Int) - 53)=Wm.eOf r:=by omega
 clear x1 x2 hF hkb
 generalize Wm.tz M=z at *
 go_wp2_with fail
 refine (Tryz.strconv_FormatInt_10 _ (by omega) (by omega) _ hk.2.1).mono ?_
 rintro e' w1 ⟨g1,k1,os1,g2⟩;subst g1
 have HB1:=Lib.hid (g2 ▸ Lib.below_grow _ _ (Nat.le_refl _) k1 os1 : Below w'.heap.size w' w1)
 have hk1:=kOk_below hk HB1.out
 clear g2 hk
 have hl1:=Lib.itoa_length_le (Wm.sg n (Wm.kOf r)) (by omega) (by omega)
 have hl2:=Lib.itoa_length_le (Wm.eOf r) (by omega) (by omega)
 go_wp2_with fail
 refine (Tryz.strconv_Itoa _ (by omega) (by omega) _ hk1.2.1).mono ?_
 rintro e' w2 ⟨g1,k2,os2,g2⟩;subst g1
 have HB2:=Lib.hid (HB1.out.trans ((g2 ▸ Lib.below_grow _ _ (Nat.le_refl _) k2 os2 : Below w1.heap.size w1 w2).mono HB1.out.size))
 clear g2
 go_wp2_with fail
 go_ret
 refine ⟨?_,HB2.out⟩
 rw [HT.out]
 show Ending.returned (.string ((ByteArray.mk _ ++ ByteArray.mk #[112]) ++ ByteArray.mk _))=_
 rw [show (#[112] : Array UInt8)=([112] : List UInt8).toArray from rfl,ByteArray.mk_append_mk,ByteArray.mk_append_mk,List.append_assoc]
 rfl
end Go.Proofs.YtkplahkkmmoppaaGreatDoor
namespace Go.Proofs.YtkplahkkmmoppaaGreatDoor
open Go.RowKit
theorem kinds (b : Nat) (hb : b < Wm.W) : Wm.nan b=true ∨ (∃ n,b=Wm.word n 9218868437227405312) ∨ (∃ n r,Fin r∧b=Wm.word n r) ∨ (∃ n,b=Wm.word n 0):=by
 have e:=Wm.word_of b hb
 cases hn : Wm.nan b
 ·right
  have hr : Wm.rung b≤9218868437227405312:=by unfold Wm.nan at hn;simpa using hn
  by_cases h1 : Wm.rung b=9218868437227405312
  ·left;exact ⟨Wm.neg b,by rw [← h1];exact e⟩
  ·right
   by_cases h2 : Wm.rung b=0
   ·right;exact ⟨Wm.neg b,by rw [← h2];exact e⟩
   ·left;exact ⟨Wm.neg b,Wm.rung b,⟨by omega,by omega⟩,e⟩
 ·left;rfl
theorem textW_fin (n : Bool) {r : Nat} (h : Fin r) : Wm.textW (Wm.word n r)=Wm.textF n r:=by
 obtain ⟨_,g2,_⟩:=fin_word h n
 have h1:=h.1
 have h2:=h.2
 obtain ⟨a1,a2,_⟩:=Wm.rung_word n (r:=r) (by omega)
 unfold Wm.textW
 rw [g2,a1,a2,if_neg Bool.false_ne_true,if_neg (by omega),if_neg (by omega)]
theorem text_pinf (w : World) :
  Calls Tryz.prog 58 #[.float .f64 9218868437227405312] w fun e w'=>e = .returned (.string ⟨#[105,110,102]⟩)∧w=w':=by
 have o1 : (FloatKind.f64.format.order 9218868437227405312 9218868437227405311 == some .gt)=true:=by decide +kernel
 have o2 : (FloatKind.f64.format.order 9218868437227405312 18442240474082181119 == some .lt)=false:=by decide +kernel
 have o3 : (FloatKind.f64.format.order 9218868437227405312 0 != some .eq)=true:=by decide +kernel
 have hfb:=tb_run
 have hn : Wm.nan 9218868437227405312=false:=by decide +kernel
 go_enter Tryz.func58,Tryz.ntmps58
 go_wp2_with fail
 refine (isNaN_any 9218868437227405312 (by decide) _).mono ?_
 rintro e w' ⟨rfl,rfl⟩
 rw [hn]
 go_wp2_with fail
 go_ret
 exact ⟨rfl,rfl⟩
theorem text_ninf (w : World) :
  Calls Tryz.prog 58 #[.float .f64 18442240474082181120] w fun e w'=>e = .returned (.string ⟨#[45,105,110,102]⟩)∧w=w':=by
 have o1 : (FloatKind.f64.format.order 18442240474082181120 9218868437227405311 == some .gt)=false:=by decide +kernel
 have o2 : (FloatKind.f64.format.order 18442240474082181120 18442240474082181119 == some .lt)=true:=by decide +kernel
 have o3 : (FloatKind.f64.format.order 18442240474082181120 0 != some .eq)=true:=by decide +kernel
 have hfb:=tb_run
 have hn : Wm.nan 18442240474082181120=false:=by decide +kernel
 go_enter Tryz.func58,Tryz.ntmps58
 go_wp2_with fail
 refine (isNaN_any 18442240474082181120 (by decide) _).mono ?_
 rintro e w' ⟨rfl,rfl⟩
 rw [hn]
 go_wp2_with fail
 go_ret
 exact ⟨rfl,rfl⟩
theorem text_p0 (w : World) :
  Calls Tryz.prog 58 #[.float .f64 0] w fun e w'=>e = .returned (.string ⟨#[48]⟩)∧w=w':=by
 have o1 : (FloatKind.f64.format.order 0 9218868437227405311 == some .gt)=false:=by decide +kernel
 have o2 : (FloatKind.f64.format.order 0 18442240474082181119 == some .lt)=false:=by decide +kernel
 have o3 : (FloatKind.f64.format.order 0 0 != some .eq)=false:=by decide +kernel
 have hfb:=tb_run
 have hn : Wm.nan 0=false:=by decide +kernel
 go_enter Tryz.func58,Tryz.ntmps58
 go_wp2_with fail
 refine (isNaN_any 0 (by decide) _).mono ?_
 rintro e w' ⟨rfl,rfl⟩
 rw [hn]
 go_wp2_with fail
 go_ret
 exact ⟨rfl,rfl⟩
theorem text_n0 (w : World) :
  Calls Tryz.prog 58 #[.float .f64 9223372036854775808] w fun e w'=>e = .returned (.string ⟨#[45,48]⟩)∧w=w':=by
 have o1 : (FloatKind.f64.format.order 9223372036854775808 9218868437227405311 == some .gt)=false:=by decide +kernel
 have o2 : (FloatKind.f64.format.order 9223372036854775808 18442240474082181119 == some .lt)=false:=by decide +kernel
 have o3 : (FloatKind.f64.format.order 9223372036854775808 0 != some .eq)=false:=by decide +kernel
 have hfb:=tb_run
 have hn : Wm.nan 9223372036854775808=false:=by decide +kernel
 go_enter Tryz.func58,Tryz.ntmps58
 go_wp2_with fail
 refine (isNaN_any 9223372036854775808 (by decide) _).mono ?_
 rintro e w' ⟨rfl,rfl⟩
 rw [hn]
 go_wp2_with fail
 go_ret
 exact ⟨rfl,rfl⟩
theorem text_w (b : Nat) (hb : b < Wm.W) (w : World) (hk : KOk w) :
  Calls Tryz.prog 58 #[.float .f64 b] w fun e w'=>e = .returned (.string ⟨(Wm.textW b).toArray⟩)∧Below w.heap.size w w':=by
 have o1:=Wm.ord_gt b 9218868437227405311 hb (by decide)
 have o2:=Wm.ord_lt b 18442240474082181119 hb (by decide)
 have o3:=Wm.ord_ne b 0 hb (by decide)
 have hfb:=tb_run
 rw [show Wm.nan 9218868437227405311=false from rfl,show Wm.sk 9218868437227405311=9218868437227405311 from rfl] at o1
 rw [show Wm.nan 18442240474082181119=false from rfl,show Wm.sk 18442240474082181119 = -9218868437227405311 from rfl] at o2
 rw [nan_zero,sk_zero] at o3
 rcases kinds b hb with hn | ⟨n,rfl⟩ | ⟨n,r,hf,rfl⟩ | ⟨n,rfl⟩
 ·have HV : Hid (Wm.textW b = [110,97,110]):=by show _=_;rw [Wm.textW,hn];rfl
  clear o1 o2 o3
  go_enter Tryz.func58,Tryz.ntmps58
  go_wp2_with fail
  refine (isNaN_any b hb _).mono ?_
  rintro e w' ⟨rfl,rfl⟩
  rw [hn]
  go_wp2_with fail
  go_ret
  exact ⟨by rw [HV.out];rfl,Below.refl _ _⟩
 ·cases n
  ·refine (text_pinf w).mono ?_
   rintro e w' ⟨rfl,rfl⟩
   exact ⟨rfl,Below.refl _ _⟩
  ·refine (text_ninf w).mono ?_
   rintro e w' ⟨rfl,rfl⟩
   exact ⟨rfl,Below.refl _ _⟩
 ·have HV:=Lib.hid (textW_fin n hf)
  obtain ⟨g1,g2,g3,g4,g5⟩:=fin_word hf n
  rw [decide_eq_false (by omega)] at o1 o2
  rw [decide_eq_true g3] at o3
  simp only [Bool.and_false,Bool.or_true] at o1 o2 o3
  clear g3 g4 g5
  go_enter Tryz.func58,Tryz.ntmps58
  go_wp2_with fail
  refine (isNaN_any _ hb _).mono ?_
  rintro e w' ⟨rfl,rfl⟩
  rw [g2]
  go_wp2_with fail
  refine (product_any n r hf _ hk).mono ?_
  rintro e w' ⟨g1,g2⟩;subst g1
  go_wp2_with fail
  go_ret
  exact ⟨by rw [HV.out];rfl,g2⟩
 ·cases n
  ·refine (text_p0 w).mono ?_
   rintro e w' ⟨rfl,rfl⟩
   exact ⟨rfl,Below.refl _ _⟩
  ·refine (text_n0 w).mono ?_
   rintro e w' ⟨rfl,rfl⟩
   exact ⟨rfl,Below.refl _ _⟩
def lastOdd (l : List UInt8) : Bool:=(((l.getLast?.getD 0).toNat : Int) - 48) % 2 == 1
theorem isOdd_any (l : List UInt8) (h : l ≠ []) (hl : l.length≤1000) (w : World) :
  Calls Tryz.prog 302 #[.string ⟨l.toArray⟩] w fun e w'=>e = .returned (.bool (lastOdd l))∧w=w':=by
 have hpos : 0 < l.length:=List.length_pos_iff.2 h
 obtain ⟨c,hc,hc'⟩:=byte_at l (l.length - 1) (by omega)
 have HL : Hid (lastOdd l=(((c.toNat : Int) - 48) % 2 == 1)):=by
  show _=_
  rw [lastOdd,List.getLast?_eq_some_getLast h,List.getLast_eq_getElem,hc'];rfl
 clear hc'
 go_enter Tryz.func302,Tryz.ntmps302
 go_wp2_with fail
 go_ret
 exact ⟨by rw [HL.out];rfl,rfl⟩
theorem isDecimal_any (l : List UInt8) (_hl : l.length≤1000) (w : World) :
  Calls Tryz.prog 301 #[.string ⟨l.toArray⟩] w fun e w'=>e = .returned (.bool (Wm.decB l))∧Below w.heap.size w w':=by
 have HB : Hid (Wm.decB l=if (Wm.mgn l).isEmpty || (Wm.mgn l).head? == some 48 then l == [48] else (Vm.undigs (Wm.mgn l)).isEmpty):=rfl
 have hd:=Wm.mgn_le l
 go_enter Tryz.func301,Tryz.ntmps301
 go_wp2_with fail
 refine (Tryz.strings_TrimPrefix _ _ _).mono ?_
 rintro e w' ⟨g1,g2⟩;subst g1 g2
 rw [show Lib.trimPrefix (ByteArray.data ⟨l.toArray⟩).toList (ByteArray.data ⟨#[45]⟩).toList=Wm.mgn l from Wm.mgn_eq l]
 generalize Wm.mgn l=d at *
 by_cases h0 : d = []
 ·subst h0
  have HV : Hid (Wm.decB l=(l == [48])):=by show _=_;rw [HB.out];rfl
  clear HB
  go_wp2_with fail
  go_ret
  exact ⟨by rw [HV.out];rfl,Below.refl _ _⟩
 ·have hpos : 0 < d.length:=List.length_pos_iff.2 h0
  have he : d.isEmpty=false:=by cases d <;> simp at *
  obtain ⟨c,hc,hc'⟩:=byte_at d 0 hpos
  have hh : (d.head? == some 48)=((c.toNat : Int) == 48):=by
   cases d with
   | nil=>exact absurd rfl h0
   | cons x t =>
    have : x=c:=hc'
    subst this
    rw [Bool.eq_iff_iff]
    simp only [List.head?_cons,beq_iff_eq,Option.some.injEq]
    exact ⟨fun h=>by rw [h];rfl,fun h=>UInt8.toNat.inj (show x.toNat=48 by omega)⟩
  rw [he,hh,Bool.false_or] at HB
  clear hc' hh h0
  cases h48 : ((c.toNat : Int) == 48)
  ·have HV : Hid (Wm.decB l=(Vm.undigs d).isEmpty):=by show _=_;rw [HB.out,h48];rfl
   clear HB
   go_wp2_with fail
   refine (trimDigits_any d _).mono ?_
   rintro e w1 ⟨g1,g2⟩;subst g1
   obtain ⟨u,hu⟩ : ∃ u,Vm.undigs d=u:=⟨_,rfl⟩
   rw [hu] at HV
   rw [hu]
   have HD:=Lib.hid g2
   clear hu g2
   go_wp2_with fail
   go_ret
   exact ⟨by rw [HV.out];rfl,HD.out⟩
  ·have HV : Hid (Wm.decB l=(l == [48])):=by show _=_;rw [HB.out,h48];rfl
   clear HB
   go_wp2_with fail
   go_ret
   exact ⟨by rw [HV.out];rfl,Below.refl _ _⟩
theorem number_any (l : List UInt8) (hl : l.length≤1000) (hp : Wm.plain (Wm.mgn l)) (w : World) (hk : KOk w) :
  Calls Tryz.prog 303 #[.string ⟨l.toArray⟩] w fun e w'=>e = .returned (.int .i64 (Wm.nmb l))∧Below w.heap.size w w':=by
 obtain ⟨tp,p,hv⟩:=hk.2.2.2
 have hpn:=Wm.parse_nmb l hp
 generalize Wm.nmb l=v at *
 rcases hpn with h1 | ⟨h1,h2⟩
 ·go_enter Tryz.func303,Tryz.ntmps303
  go_wp2_with fail
  refine (Tryz.strconv_ParseInt_10_at64_ok ⟨l.toArray⟩ (by show l.toArray.size≤_;simp;omega) v h1 _).mono ?_
  rintro e w1 ⟨g1,g2⟩;subst g1
  go_wp2_with fail
  go_ret
  refine ⟨rfl,?_⟩
  rcases g2 with rfl | ⟨t,rfl⟩
  ·exact Below.refl _ _
  ·exact Lib.bytesWorld_below _ _ _
 ·go_enter Tryz.func303,Tryz.ntmps303
  go_wp2_with fail
  refine (Tryz.strconv_ParseInt_10_at64_range_var ⟨l.toArray⟩ (by show l.toArray.size≤_;simp;omega) h1 tp p _ hv).mono ?_
  rintro e w1 ⟨N,g1,g2,g3,g4⟩;subst g1
  rw [show Lib.intSat 64 (ByteArray.data ⟨l.toArray⟩).toList=v from h2]
  go_wp2_with fail
  go_ret
  exact ⟨rfl,g4⟩
end Go.Proofs.YtkplahkkmmoppaaGreatDoor
