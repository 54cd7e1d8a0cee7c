/- Part 21 of what the laws lean on. -/
import Derived.Test.YtpfkphmldalmmaaGreatDoorL20
set_option maxRecDepth 100000
set_option maxHeartbeats 2000000
namespace Go.Proofs.YtpfkphmldalmmaaGreatDoor
section
open Go.RowKit
abbrev panAt (k n:Int):Ending:=.panicked [{ v:=.iface 142 (.agg #[.int .i64 k,.int .i64 n]),recovered:=false }]
theorem aS {k n:Int}(w:World):Calls Tryz.prog 87 #[.bool true,.int .i64 k,.int .i64 n] w fun e w'=>e=.returned (.tuple #[])/\w=w':=by
 go_enter Tryz.func87,Tryz.ntmps87
 go_wp2_with fail
 go_end0
 exact⟨rfl,rfl⟩
theorem aK {k n:Int}(w:World):Calls Tryz.prog 87 #[.bool false,.int .i64 k,.int .i64 n] w fun e w'=>e=panAt k n/\w=w':=by
 go_enter Tryz.func87,Tryz.ntmps87
 go_wp2_with fail
 exact⟨rfl,rfl,rfl⟩
theorem eI (k n:Int){o:Int}(w:World) :
  Calls Tryz.prog 47 #[.iface 142 (.agg #[.int .i64 k,.int .i64 n]),.int .i64 o] w fun e w'=>e=.returned (.tuple #[.int .i64 k,.int .i64 n])/\Below w.heap.size w w':=by
 have aa:∀ W:World,(Instr.typeAssert (.iface 142 (.agg #[.int .i64 k,.int .i64 n])) 20 36 true).run Tryz.prog W=.ok (.tuple #[.int .i64 0,.bool false]) W:=fun _=>by kernel_rfl
 have ab:∀ W:World,(Instr.typeAssert (.iface 142 (.agg #[.int .i64 k,.int .i64 n])) 20 142 true).run Tryz.prog W=.ok (.tuple #[.agg #[.int .i64 k,.int .i64 n],.bool true]) W:=fun _=>by kernel_rfl
 go_enter Tryz.func47,Tryz.ntmps47
 go_wp2_with fail
 go_quiet (fail)
 go_wp2_with fail
 go_ret2
 refine⟨rfl,below_drewN ?_ _⟩
 first
  | exact (Below.refl _ _).alloc (Nat.le_refl _) _
  | exact ((Below.refl _ _).alloc (Nat.le_refl _) _).setCell (Nat.le_refl _) _
  | exact Below.setCell (Below.setCell ((Below.refl _ _).alloc (Nat.le_refl _) _) (by simp) _) (by simp) _
  | trace_state
theorem qD (l:List UInt8)(p:UInt8->Bool)(k:Nat)(h:k<l.length):(l.take (k+1)).all p=((l.take k).all p&&p l[k]):=by
 rw[List.take_succ_eq_append_getElem h,List.all_append];simp only[List.all_cons,List.all_nil,Bool.and_true]
theorem oB (l:List UInt8)(p:UInt8->Bool)(k:Nat)(h:k<l.length)(hp:p l[k]=false):l.all p=false:=by
 rw[Bool.eq_false_iff];intro ha;rw[List.all_eq_true] at ha;have:=ha _ (List.getElem_mem h);simp[hp] at this
theorem mx (c:UInt8)(w:World) :
  Calls Tryz.prog 181 #[.int .u8 c.toNat] w fun e w'=>e=.returned (.bool (Vm.ltr c))/\w=w':=by
 unfold Vm.ltr
 by_cases h1:97<=c.toNat <;> by_cases h2:c.toNat<=122 <;> by_cases h3:65<=c.toNat <;> by_cases h4:c.toNat<=90
 all_goals
  go_enter Tryz.func181,Tryz.ntmps181
  go_wp2
 all_goals
  go_ret
  exact⟨by first | (simp[h1,h2,h3,h4];done) | (simp[h1,h2,h3,h4];omega),rfl⟩
theorem k8 (l:List UInt8)(w:World)(hm:l.length<=1000000) :
  Calls Tryz.prog 146 #[.string ⟨l.toArray⟩] w fun e w'=>e=.returned (.bool (Sz.keyB l))/\w=w':=by
 obtain⟨R,hR⟩:=ex (Sz.keyB l)
 rw[hR]
 have HF:Hid (l.all Vm.ltr=false->R=false):=fun h=>by rw[<-hR];unfold Sz.keyB;rw[h];rfl
 have HT:Hid (l.all Vm.ltr=true->R=(!l.isEmpty&&decide (l.length<=16))):=fun h=>by rw[<-hR];unfold Sz.keyB;rw[h];rfl
 clear hR
 go_enter Tryz.func146,Tryz.ntmps146
 go_wp2_with fail
 go_loop [6] (fun i=>∃ k:Nat,k<=l.length/\i=.int .i64 k/\Hid ((l.take k).all Vm.ltr=true)) (fun i=>l.length-(intOf i).toNat)
 case atStart=>exact⟨0,Nat.zero_le _,rfl,rfl⟩
 case round =>
  obtain⟨k,hk,rfl,HK⟩:=hrel
  by_cases ad:k<l.length
  ·obtain⟨c,hc,ac⟩:=byte_at l k ad
   have HS:=zh (qD l Vm.ltr k ad)
   rw[ac] at HS
   cases h1:Vm.ltr c
   ·have HR:Hid (R=false):=HF.out (oB l Vm.ltr k ad (by rw[ac];exact h1))
    have HL:=zh h1
    clear h1 ac HS
    go_wp2_with fail
    refine (mx c _).mono ?_
    rintro _ z ⟨rfl,rfl⟩
    rw[HL.out]
    go_wp2_with fail
    go_ret
    exact⟨by rw[HR.out];rfl,rfl⟩
   ·have HY:Hid ((l.take (k+1)).all Vm.ltr=true):=by show _=_;rw[HS.out,HK.out,h1];rfl
    have HL:=zh h1
    clear h1 ac HS
    go_wp2_with fail
    refine (mx c _).mono ?_
    rintro _ z ⟨rfl,rfl⟩
    rw[HL.out]
    go_wp2_with fail
    go_round
    case rel=>exact⟨k+1,by omega,by go_num,HY⟩
    case measure=>simp[intOf];omega
  ·obtain rfl:k=l.length:=by omega
   have HR:Hid (R=(!l.isEmpty&&decide (l.length<=16))):=HT.out (by have:=HK.out;rwa [List.take_length] at this)
   cases he:l.isEmpty
   ·by_cases ab:l.length<=16
    ·have d0:decide ((l.length:Int)<=16)=true:=decide_eq_true (by omega)
     have aa:Hid (R=true):=by show _=_;rw[HR.out,he,decide_eq_true ab];rfl
     clear ab HF HT HR
     go_wp2_with fail
     go_ret
     exact⟨by rw[aa.out];rfl,rfl⟩
    ·have d0:decide ((l.length:Int)<=16)=false:=decide_eq_false (by omega)
     have aa:Hid (R=false):=by show _=_;rw[HR.out,decide_eq_false ab,Bool.and_false]
     clear ab HF HT HR
     go_wp2_with fail
     go_ret
     exact⟨by rw[aa.out];rfl,rfl⟩
   ·have aa:Hid (R=false):=by show _=_;rw[HR.out,he];rfl
    clear HF HT HR
    go_wp2_with fail
    go_ret
    exact⟨by rw[aa.out];rfl,rfl⟩
theorem zY (c:UInt8):(Sz.valC c=true/\decide ((c.toNat:Int)<32)=false/\decide ((126:Int)<(c.toNat:Int))=false)\/(Sz.valC c=false/\decide ((c.toNat:Int)<32)=true)\/(Sz.valC c=false/\decide ((c.toNat:Int)<32)=false/\decide ((126:Int)<(c.toNat:Int))=true):=by
 unfold Sz.valC
 by_cases h1:32<=c.toNat
 ·by_cases h2:c.toNat<=126
  ·left;exact⟨by rw[decide_eq_true h1,decide_eq_true h2];rfl,decide_eq_false (by omega),decide_eq_false (by omega)⟩
  ·right;right;exact⟨by rw[decide_eq_false h2,Bool.and_false],decide_eq_false (by omega),decide_eq_true (by omega)⟩
 ·right;left;exact⟨by rw[decide_eq_false h1];rfl,decide_eq_true (by omega)⟩
theorem my (l:List UInt8)(w:World)(hm:l.length<=1000000) :
  Calls Tryz.prog 147 #[.string ⟨l.toArray⟩] w fun e w'=>e=.returned (.bool (Sz.valB l))/\w=w':=by
 obtain⟨R,hR⟩:=ex (Sz.valB l)
 rw[hR]
 have HF:Hid (l.all Sz.valC=false->R=false):=fun h=>by rw[<-hR];exact h
 have HT:Hid (l.all Sz.valC=true->R=true):=fun h=>by rw[<-hR];exact h
 clear hR
 go_enter Tryz.func147,Tryz.ntmps147
 go_wp2_with fail
 go_loop [6] (fun i=>∃ k:Nat,k<=l.length/\i=.int .i64 k/\Hid ((l.take k).all Sz.valC=true)) (fun i=>l.length-(intOf i).toNat)
 case atStart=>exact⟨0,Nat.zero_le _,rfl,rfl⟩
 case round =>
  obtain⟨k,hk,rfl,HK⟩:=hrel
  by_cases ab:k<l.length
  ·obtain⟨c,hc,aa⟩:=byte_at l k ab
   have HS:=zh (qD l Sz.valC k ab)
   rw[aa] at HS
   rcases zY c with⟨h1,d1,d2⟩ | ⟨h1,d1⟩ | ⟨h1,d1,d2⟩
   ·have HY:Hid ((l.take (k+1)).all Sz.valC=true):=by show _=_;rw[HS.out,HK.out,h1];rfl
    clear h1 aa HS
    go_wp2_with fail
    go_round
    case rel=>exact⟨k+1,by omega,by go_num,HY⟩
    case measure=>simp[intOf];omega
   all_goals
    have HR:Hid (R=false):=HF.out (oB l Sz.valC k ab (by rw[aa];exact h1))
    clear h1 aa HS
    go_wp2_with fail
    go_ret
    exact⟨by rw[HR.out];rfl,rfl⟩
  ·obtain rfl:k=l.length:=by omega
   have HR:Hid (R=true):=HT.out (by have:=HK.out;rwa [List.take_length] at this)
   clear HF HT
   go_wp2_with fail
   go_ret
   exact⟨by rw[HR.out];rfl,rfl⟩
end
namespace Wm
theorem lV {x i j:Nat}(h:x<2 ^ i)(hj:i<=j):x.testBit j=false:=Nat.testBit_lt_two_pow (Nat.lt_of_lt_of_le h (Nat.pow_le_pow_right (by decide) hj))
theorem wV (n:Bool){r:Nat}(h:r<9223372036854775808):word n r=(if n then 2 ^ 63 else 0) ||| r:=by
 unfold word
 cases n
 ·simp
 ·rw[if_pos rfl,if_pos rfl,show (9223372036854775808:Nat)=2 ^ 63 from rfl]
  exact Nat.two_pow_add_eq_or_of_lt (i:=63) h 1 |>.symm ▸ by simp
theorem ej (n:Bool){r:Nat}(h:r<9223372036854775808)(i:Nat):(word n r).testBit i=if i=63 then n else r.testBit i:=by
 rw[wV n h,Nat.testBit_or]
 by_cases hi:i=63
 ·subst hi
  rw[if_pos rfl,lV (i:=63) h (Nat.le_refl _)]
  cases n
  ·simp
  ·rw[if_pos rfl,Nat.testBit_two_pow_self];rfl
 ·rw[if_neg hi]
  cases n
  ·simp
  ·rw[if_pos rfl,Nat.testBit_two_pow_of_ne (Ne.symm hi),Bool.false_or]
theorem iT (b:Nat)(hb:b<W):b=word (neg b) (rung b):=by
 unfold word neg rung W at *
 split
 ·rename_i h;have:=of_decide_eq_true h;omega
 ·rename_i h;have:¬ 9223372036854775808<=b:=fun hh=>h (decide_eq_true hh);omega
theorem fields (p f i:Nat)(hf:f<2 ^ 52):(p*4503599627370496+f).testBit i=if i<52 then f.testBit i else p.testBit (i-52):=by
 rw[show p*4503599627370496+f=2 ^ 52*p+f from by omega]
 exact Nat.testBit_two_pow_mul_add p hf i
theorem aca (n:Bool){r:Nat}(h:r<9223372036854775808):word n r &&& 9223372036854775808=if n then 9223372036854775808 else 0:=by
 refine Nat.eq_of_testBit_eq fun i=>?_
 rw[Nat.testBit_and,ej n h,show (9223372036854775808:Nat)=2 ^ 63 from rfl]
 by_cases hi:i=63
 ·subst hi
  rw[if_pos rfl,Nat.testBit_two_pow_self]
  cases n
  ·simp
  ·rw[if_pos rfl,Nat.testBit_two_pow_self];rfl
 ·rw[if_neg hi,Nat.testBit_two_pow_of_ne (Ne.symm hi),Bool.and_false]
  cases n
  ·simp
  ·rw[if_pos rfl,Nat.testBit_two_pow_of_ne (Ne.symm hi)]
theorem vD (n:Bool){r:Nat}(h:r<9223372036854775808):word n r &&& 9223372036854775807=r:=by
 rw[show (9223372036854775807:Nat)=2 ^ 63-1 from rfl,Nat.and_two_pow_sub_one_eq_mod]
 have:=(bc n h).1
 unfold rung at this;exact this
theorem adB {r:Nat}(h:r<9223372036854775808):r ||| 9223372036854775808=9223372036854775808+r:=by
 have:=wV true h
 rw[if_pos rfl] at this
 rw[Nat.or_comm,show (9223372036854775808:Nat)=2 ^ 63 from rfl,<-this];rfl
theorem aeu (n:Bool){r:Nat}(h:r<9223372036854775808):word n r ||| 9223372036854775807=word n 9223372036854775807:=by
 refine Nat.eq_of_testBit_eq fun i=>?_
 rw[Nat.testBit_or,ej n h,ej n (by decide),show (9223372036854775807:Nat)=2 ^ 63-1 from rfl,Nat.testBit_two_pow_sub_one]
 by_cases hi:i=63
 ·simp[hi]
 ·simp only[if_neg hi]
  by_cases h2:i<63
  ·simp[h2]
  ·rw[lV (i:=63) h (by omega)];simp[h2]
theorem adC {b:Nat}(hb:b<W):18446744073709551615 ^^^ b=18446744073709551615-b:=by
 refine Nat.eq_of_testBit_eq fun i=>?_
 rw[Nat.testBit_xor,show 18446744073709551615-b=2 ^ 64-(b+1) from by unfold W at hb;omega,Nat.testBit_two_pow_sub_succ hb,show (18446744073709551615:Nat)=2 ^ 64-1 from rfl,Nat.testBit_two_pow_sub_one]
 by_cases h2:i<64
 ·simp[h2]
 ·rw[lV (i:=64) hb (by omega)];simp[h2]
theorem zZ (n:Bool){r:Nat}(h:r<9223372036854775808):word n r &&& 9227875636482146303=word n (r % 4503599627370496):=by
 have hr:r=(r / 4503599627370496)*4503599627370496+r % 4503599627370496:=by omega
 refine Nat.eq_of_testBit_eq fun i=>?_
 rw[Nat.testBit_and,ej n h,ej n (by omega),show (9227875636482146303:Nat)=word true (2 ^ 52-1) from rfl,ej true (by decide),Nat.testBit_two_pow_sub_one,hr,fields _ _ _ (Nat.mod_lt _ (by decide)),<-hr]
 by_cases hi:i=63
 ·simp[hi]
 ·simp only[if_neg hi]
  by_cases h2:i<52
  ·simp[h2]
  ·rw[lV (i:=52) (x:=r % 4503599627370496) (Nat.mod_lt _ (by decide)) (by omega)];simp[h2]
theorem adE (n:Bool){q f:Nat}(hq:q<2048)(hf:f<4503599627370496):word n f ||| q*4503599627370496=word n (q*4503599627370496+f):=by
 refine Nat.eq_of_testBit_eq fun i=>?_
 rw[Nat.testBit_or,ej n (by omega),ej n (by omega),fields q f i hf]
 have e:=fields q 0 i (by decide)
 rw[Nat.add_zero] at e
 rw[e]
 by_cases hi:i=63
 ·subst hi
  simp only[if_true]
  rw[if_neg (by decide),lV (i:=11) hq (by decide)];simp
 ·simp only[if_neg hi]
  by_cases h2:i<52
  ·simp[h2]
  ·rw[lV (i:=52) hf (by omega)];simp[h2]
theorem sgnB (b:Nat)(hb:b<W):bits .and .u64 (b:Int) 9223372036854775808=if neg b then 9223372036854775808 else 0:=by
 have h:=u64_and_nat b 9223372036854775808 hb (by decide)
 have e:=aca (neg b) (fR b)
 rw[<-iT b hb] at e
 rw[e] at h
 refine h.trans ?_
 cases neg b <;> rfl
theorem absB (b:Nat)(hb:b<W):bits .andNot .u64 (b:Int) 9223372036854775808=(rung b:Int):=by
 have h:=u64_andNot_nat b 9223372036854775808 hb (by decide)
 have e:=vD (neg b) (fR b)
 rw[<-iT b hb] at e
 refine h.trans ?_
 rw[show (18446744073709551615-9223372036854775808:Nat)=9223372036854775807 from rfl,e]
theorem maxB (b:Nat)(hb:b<W):bits .or .u64 (b:Int) 9223372036854775807=(word (neg b) 9223372036854775807:Nat):=by
 have h:=u64_or_nat b 9223372036854775807 hb (by decide)
 have e:=aeu (neg b) (fR b)
 rw[<-iT b hb] at e
 exact h.trans (by rw[e])
theorem signB (r:Nat)(h:r<9223372036854775808):bits .or .u64 (r:Int) 9223372036854775808=(9223372036854775808+r:Nat):=by
 have h1:=u64_or_nat r 9223372036854775808 (by omega) (by decide)
 exact h1.trans (by rw[adB h])
theorem xorB (b:Nat)(hb:b<W):bits .xor .u64 18446744073709551615 (b:Int)=(18446744073709551615-b:Nat):=by
 have h1:=u64_xor_nat 18446744073709551615 b (by decide) hb
 exact h1.trans (by rw[adC hb])
theorem clearB (n:Bool)(r:Nat)(h:r<9223372036854775808):bits .andNot .u64 (word n r:Nat) 9218868437227405312=(word n (r % 4503599627370496):Nat):=by
 have h1:=u64_andNot_nat (word n r) 9218868437227405312 (bc n h).2.2 (by decide)
 refine h1.trans ?_
 rw[show (18446744073709551615-9218868437227405312:Nat)=9227875636482146303 from rfl,zZ n h]
theorem setB (n:Bool)(q f:Nat)(hq:q<2048)(hf:f<4503599627370496):bits .or .u64 (word n f:Nat) ((q*4503599627370496:Nat):Int)=(word n (q*4503599627370496+f):Nat):=by
 have h1:=u64_or_nat (word n f) (q*4503599627370496) (bc n (by omega)).2.2 (by omega)
 exact h1.trans (by rw[adE n hq hf])
theorem tI (n:Bool){r:Nat}(h:r<9223372036854775808):word n r / 4503599627370496=(if n then 2048 else 0)+r / 4503599627370496/\r / 4503599627370496<2048:=by
 unfold word;cases n <;> simp <;> omega
theorem expB (n:Bool)(r:Nat)(h:r<9223372036854775808):bits .and .u64 ((word n r:Int) / 4503599627370496) 2047=((r / 4503599627370496:Nat):Int):=by
 obtain⟨d1,d2⟩:=tI n h
 have h1:=u64_and_nat (word n r / 4503599627370496) 2047 (by rw[d1];cases n <;> simp <;> omega) (by decide)
 have e:((word n r:Int) / 4503599627370496)=((word n r / 4503599627370496:Nat):Int):=by omega
 rw[e]
 refine h1.trans ?_
 rw[show (2047:Nat)=2 ^ 11-1 from rfl,Nat.and_two_pow_sub_one_eq_mod,d1]
 congr 1
 cases n <;> simp <;> omega
theorem expI (n:Bool)(r:Nat)(h:r<9223372036854775808):bits .and .i64 ((word n r:Int) / 4503599627370496) 2047=((r / 4503599627370496:Nat):Int):=by
 obtain⟨d1,d2⟩:=tI n h
 have e:((word n r:Int) / 4503599627370496)=((word n r / 4503599627370496:Nat):Int):=by omega
 have aa:word n r / 4503599627370496<4096:=by rw[d1];cases n <;> simp <;> omega
 have h1:=bits_mask .i64 63 (by decide) (fun m h0 h1=>by rw[IntKind.wrap_i64];omega) 11 (by decide) ((word n r / 4503599627370496:Nat):Int) (by omega) (by omega)
 rw[e]
 refine (show bits .and .i64 ((word n r / 4503599627370496:Nat):Int) 2047=_ from h1).trans ?_
 rw[d1]
 cases n <;> simp <;> omega
def placeN (b:Nat):Nat:=if nan b then (if neg b then 0 else 18446744073709551615) else (if neg b then 18446744073709551615-b else 9223372036854775808+b)
theorem acb {b:Nat}(hb:b<W)(h:neg b=false):rung b=b/\b<9223372036854775808:=by
 unfold neg rung W at *
 have:=of_decide_eq_false h;omega
end Wm
section
open Go.RowKit
theorem adF (b:Nat)(hb:b<Wm.W)(w:World) :
  Calls Tryz.prog 229 #[.float .f64 b] w fun e w'=>e=.returned (.float .f64 (Wm.rung b))/\w=w':=by
 have ab:=ch
 have aa:=iS
 have e:=Wm.absB b hb
 go_enter Tryz.func229,Tryz.ntmps229
 go_wp2_with fail
 go_ret
 exact⟨rfl,rfl⟩
theorem wW (b:Nat)(hb:b<Wm.W)(w:World) :
  Calls Tryz.prog 118 #[.float .f64 b] w fun e w'=>e=.returned (.int .u64 (Wm.placeN b))/\w=w':=by
 have ab:=ch
 have hs:IntKind.u64.signed=false:=rfl
 have hm:IntKind.u64.max=18446744073709551615:=rfl
 have e1:=Wm.sgnB b hb
 have e2:=Wm.maxB b hb
 have e3:=Wm.xorB b hb
 go_enter Tryz.func118,Tryz.ntmps118
 go_wp2_with fail
 refine (cJ b hb _).mono ?_
 rintro e w' ⟨rfl,rfl⟩
 cases hn:Wm.nan b
 ·cases hg:Wm.neg b
  ·have e4:=Wm.signB b (Wm.acb hb hg).2
   rw[hg] at e1
   clear e2 e3
   go_wp2_with fail
   go_ret
   exact⟨by rw[Wm.placeN,hn,hg];rfl,rfl⟩
  ·rw[hg] at e1
   clear e2
   go_wp2_with fail
   go_ret
   exact⟨by rw[Wm.placeN,hn,hg];rfl,rfl⟩
 ·cases hg:Wm.neg b
  ·have aa:bits .or .u64 (b:Int) 9223372036854775807=9223372036854775807:=by rw[e2,hg];rfl
   have e5:bits .and .u64 9223372036854775807 9223372036854775808=0:=by kernel_rfl
   have e6:bits .or .u64 9223372036854775807 9223372036854775808=18446744073709551615:=by kernel_rfl
   clear e1 e2 e3
   go_wp2_with fail
   go_ret
   exact⟨by rw[Wm.placeN,hn,hg];rfl,rfl⟩
  ·have aa:bits .or .u64 (b:Int) 9223372036854775807=18446744073709551615:=by rw[e2,hg];rfl
   have e5:bits .and .u64 18446744073709551615 9223372036854775808=9223372036854775808:=by kernel_rfl
   have e6:bits .xor .u64 18446744073709551615 18446744073709551615=0:=by kernel_rfl
   clear e1 e2 e3
   go_wp2_with fail
   go_ret
   exact⟨by rw[Wm.placeN,hn,hg];rfl,rfl⟩
theorem oC (x:Nat)(w:World) :
  Calls Tryz.prog 164 #[.int .u64 x] w fun e w'=>e=.returned (.bool false)/\w=w':=by
 go_enter Tryz.func164,Tryz.ntmps164
 go_wp2_with fail
 go_ret
 exact⟨by first | rfl | simp,rfl⟩
theorem acd (x y:Nat)(w:World) :
  Calls Tryz.prog 117 #[.int .u64 x,.int .u64 y] w fun e w'=>e=.returned (.int .i64 (Vm.sgn x y))/\w=w':=by
 obtain⟨v,hv,hc⟩:∃ v:Int,Hid (Vm.sgn x y=v)/\((x<y/\v = -1)\/(y<x/\v=1)\/(x=y/\v=0)):=by
  refine⟨_,zh rfl,?_⟩
  unfold Vm.sgn
  by_cases h1:(x:Int)<y
  ·left;exact⟨by omega,by rw[if_pos h1]⟩
  ·by_cases h2:(y:Int)<x
   ·right;left;exact⟨by omega,by rw[if_neg h1,if_pos h2]⟩
   ·right;right;exact⟨by omega,by rw[if_neg h1,if_neg h2]⟩
 rcases hc with⟨h1,rfl⟩ | ⟨h1,rfl⟩ | ⟨rfl,rfl⟩
 all_goals
  go_enter Tryz.func117,Tryz.ntmps117
  go_wp2_with fail
  refine (oC _ _).mono ?_
  rintro e w' ⟨rfl,rfl⟩
  go_wp2_with fail
  refine (oC _ _).mono ?_
  rintro e w' ⟨rfl,rfl⟩
  go_wp2_with fail
  go_ret
  exact⟨by rw[hv.out];rfl,rfl⟩
theorem z9 (a b:Nat)(ha:a<Wm.W)(hb:b<Wm.W)(w:World) :
  Calls Tryz.prog 75 #[.float .f64 a,.float .f64 b] w fun e w'=>e=.returned (.int .i64 (Vm.sgn (Wm.placeN a) (Wm.placeN b)))/\w=w':=by
 go_enter Tryz.func75,Tryz.ntmps75
 go_wp2_with fail
 refine (wW a ha _).mono ?_
 rintro e w' ⟨rfl,rfl⟩
 go_wp2_with fail
 refine (wW b hb _).mono ?_
 rintro e w' ⟨rfl,rfl⟩
 go_wp2_with fail
 refine (acd _ _ _).mono ?_
 rintro e w' ⟨rfl,rfl⟩
 go_wp2_with fail
 go_ret
 exact⟨rfl,rfl⟩
theorem aev (a b:Nat)(ha:a<Wm.W)(hb:b<Wm.W)(w:World) :
  Calls Tryz.prog 36 #[.float .f64 a,.float .f64 b] w fun e w'=>e=.returned (.bool (Vm.sgn (Wm.placeN a) (Wm.placeN b)==0))/\w=w':=by
 go_enter Tryz.func36,Tryz.ntmps36
 go_wp2_with fail
 refine (z9 a b ha hb _).mono ?_
 rintro e w' ⟨rfl,rfl⟩
 go_wp2_with fail
 go_ret
 exact⟨rfl,rfl⟩
def keyN (b:Nat):Int:=if Wm.nan b then (if Wm.neg b then -3 else 3) else if Wm.sk b<0 then -2 else if 0<Wm.sk b then 2 else if Wm.neg b then -1 else 1
def cmpW (a b:Nat):Int:=Vm.sgn (Wm.placeN a) (Wm.placeN b)
def refCmpW (a b:Nat):Int:=if keyN a≠keyN b then Vm.sgn (keyN a) (keyN b) else if Wm.nan a||Wm.nan b then 0 else Vm.sgn (Wm.sk a) (Wm.sk b)
theorem ace (b:Nat)(hb:b<Wm.W):(Wm.neg b=false/\Wm.rung b=b/\b<9223372036854775808)\/(Wm.neg b=true/\b=9223372036854775808+Wm.rung b/\Wm.rung b<9223372036854775808):=by
 unfold Wm.neg Wm.rung Wm.W at *
 by_cases h:9223372036854775808<=b
 ·right;exact⟨decide_eq_true h,by omega,by omega⟩
 ·left;exact⟨decide_eq_false h,by omega,by omega⟩
theorem bg (a b:Int):(a<b/\Vm.sgn a b = -1)\/(b<a/\Vm.sgn a b=1)\/(a=b/\Vm.sgn a b=0):=by
 unfold Vm.sgn
 by_cases h1:a<b
 ·left;exact⟨h1,by rw[if_pos h1]⟩
 ·by_cases h2:b<a
  ·right;left;exact⟨h2,by rw[if_neg h1,if_pos h2]⟩
  ·right;right;exact⟨by omega,by rw[if_neg h1,if_neg h2]⟩
theorem tJ (b:Nat)(hb:b<Wm.W) :
  (Wm.nan b=true/\keyN b = -3/\Wm.placeN b=0)\/(Wm.nan b=true/\keyN b=3/\Wm.placeN b=18446744073709551615) \/
  (Wm.nan b=false/\(Wm.placeN b:Int)=(if Wm.neg b then 9223372036854775807 else 9223372036854775808)+Wm.sk b/\Wm.sk b<=9218868437227405312/\-9218868437227405312<=Wm.sk b/\(Wm.neg b=true->Wm.sk b<=0)/\(Wm.neg b=false->0<=Wm.sk b) /\
   ((Wm.sk b<0/\keyN b = -2)\/(0<Wm.sk b/\keyN b=2)\/(Wm.sk b=0/\Wm.neg b=true/\keyN b = -1)\/(Wm.sk b=0/\Wm.neg b=false/\keyN b=1))):=by
 have hr:Wm.nan b=false->Wm.rung b<=9218868437227405312:=fun h=>by unfold Wm.nan at h;simpa using h
 cases hn:Wm.nan b
 ·have hr:=hr hn
  right;right
  refine⟨rfl,?_⟩
  have hk:keyN b=(if Wm.sk b<0 then -2 else if 0<Wm.sk b then 2 else if Wm.neg b then -1 else 1):=by unfold keyN;rw[hn];rfl
  have aa:(Wm.sk b<0/\keyN b = -2)\/(0<Wm.sk b/\keyN b=2)\/(Wm.sk b=0/\Wm.neg b=true/\keyN b = -1)\/(Wm.sk b=0/\Wm.neg b=false/\keyN b=1):=by
   rw[hk]
   by_cases c1:Wm.sk b<0
   ·left;exact⟨c1,by rw[if_pos c1]⟩
   ·by_cases c2:0<Wm.sk b
    ·right;left;exact⟨c2,by rw[if_neg c1,if_pos c2]⟩
    ·right;right
     cases Wm.neg b
     ·right;exact⟨by omega,rfl,by rw[if_neg c1,if_neg c2];rfl⟩
     ·left;exact⟨by omega,rfl,by rw[if_neg c1,if_neg c2];rfl⟩
  refine⟨?_,?_,?_,?_,?_,aa⟩
  all_goals clear hk aa
  all_goals unfold Wm.sk
  all_goals try unfold Wm.placeN
  all_goals try rw[hn]
  all_goals
   rcases ace b hb with⟨h1,h2,h3⟩ | ⟨h1,h2,h3⟩
   ·rw[h1]
    try rw[h2]
    rw[h2] at hr
    simp only[Bool.false_eq_true,if_false,false_implies,forall_const]
    try omega
   ·rw[h1]
    simp only[Bool.true_eq_false,Bool.false_eq_true,if_false,if_true,false_implies,forall_const]
    try omega
 ·unfold keyN Wm.placeN
  rw[hn]
  cases Wm.neg b
  ·right;left;exact⟨rfl,rfl,rfl⟩
  ·left;exact⟨rfl,rfl,rfl⟩
theorem yl (a b:Nat)(ha:a<Wm.W)(hb:b<Wm.W):refCmpW a b=cmpW a b:=by
 have s1:=bg (keyN a) (keyN b)
 have s2:=bg (Wm.sk a) (Wm.sk b)
 have s3:=bg (Wm.placeN a) (Wm.placeN b)
 have ca:=tJ a ha
 have cb:=tJ b hb
 unfold refCmpW cmpW
 generalize Vm.sgn (keyN a) (keyN b)=x at *
 generalize Vm.sgn (Wm.sk a) (Wm.sk b)=y at *
 generalize Vm.sgn (Wm.placeN a) (Wm.placeN b)=z at *
 generalize keyN a=ka at *
 generalize keyN b=kb at *
 generalize Wm.placeN a=pa at *
 generalize Wm.placeN b=pb at *
 generalize Wm.sk a=sa at *
 generalize Wm.sk b=sb at *
 generalize Wm.nan a=na at *
 generalize Wm.nan b=nb at *
 generalize Wm.neg a=ga at *
 generalize Wm.neg b=gb at *
 have hg:(if ka≠kb then x else if na||nb then 0 else y)=(if ka=kb then (if na||nb then 0 else y) else x):=by
  by_cases hk:ka=kb
  ·rw[if_pos hk,if_neg (fun h=>h hk)]
  ·rw[if_neg hk,if_pos hk]
 rw[hg]
 clear hg
 by_cases hk:ka=kb
 ·rw[if_pos hk]
  cases na <;> cases nb <;> cases ga <;> cases gb <;> simp only[Bool.false_eq_true,Bool.true_eq_false,Bool.or_true,Bool.or_false,if_false,if_true,false_and,true_and,and_false,or_false,false_or,false_implies,forall_const] at*<;> omega
 ·rw[if_neg hk]
  cases na <;> cases nb <;> cases ga <;> cases gb <;> simp only[Bool.false_eq_true,Bool.true_eq_false,if_false,if_true,false_and,true_and,and_false,or_false,false_or,false_implies,forall_const] at*<;> omega
theorem lW:Wm.sk 0=0:=rfl
theorem jL:Wm.nan 0=false:=rfl
theorem wX (b:Nat)(hb:b<Wm.W):(FloatKind.f64.format.order b 0==some .lt)=(!Wm.nan b&&decide (Wm.sk b<0)):=by
 rw[Wm.ow b 0 hb (by decide),jL,lW];simp
theorem adH (b:Nat)(hb:b<Wm.W):(FloatKind.f64.format.order b 0==some .gt)=(!Wm.nan b&&decide (0<Wm.sk b)):=by
 rw[Wm.ox b 0 hb (by decide),jL,lW];simp
theorem aaa (b:Nat)(hb:b<Wm.W):((b:Int) / 9223372036854775808==1)=Wm.neg b:=by
 unfold Wm.neg Wm.W at *
 rw[Bool.eq_iff_iff];simp;omega
theorem aab (b:Nat):∃ v:Int,Hid (keyN b=v)/\((Wm.nan b=true/\Wm.neg b=true/\v = -3)\/(Wm.nan b=true/\Wm.neg b=false/\v=3)\/(Wm.nan b=false/\Wm.sk b<0/\v = -2)\/(Wm.nan b=false/\0<Wm.sk b/\v=2)\/(Wm.nan b=false/\Wm.sk b=0/\Wm.neg b=true/\v = -1)\/(Wm.nan b=false/\Wm.sk b=0/\Wm.neg b=false/\v=1)):=by
 refine⟨_,zh rfl,?_⟩
 unfold keyN
 cases Wm.nan b
 ·by_cases c1:Wm.sk b<0
  ·right;right;left;exact⟨rfl,c1,by rw[if_neg Bool.false_ne_true,if_pos c1]⟩
  ·by_cases c2:0<Wm.sk b
   ·right;right;right;left;exact⟨rfl,c2,by rw[if_neg Bool.false_ne_true,if_neg c1,if_pos c2]⟩
   ·cases Wm.neg b
    ·right;right;right;right;right;exact⟨rfl,by omega,rfl,by rw[if_neg Bool.false_ne_true,if_neg c1,if_neg c2];rfl⟩
    ·right;right;right;right;left;exact⟨rfl,by omega,rfl,by rw[if_neg Bool.false_ne_true,if_neg c1,if_neg c2];rfl⟩
 ·cases Wm.neg b
  ·right;left;exact⟨rfl,rfl,rfl⟩
  ·left;exact⟨rfl,rfl,rfl⟩
theorem wY (b:Nat)(hb:b<Wm.W)(w:World) :
  Calls Tryz.prog 77 #[.float .f64 b] w fun e w'=>e=.returned (.int .i64 (keyN b))/\w=w':=by
 have aa:=ch
 have o1:=Wm.gE b hb
 have o2:=wX b hb
 have o3:=adH b hb
 have o4:=aaa b hb
 obtain⟨v,hv,hc⟩:=aab b
 rcases hc with⟨hn,hg,rfl⟩ | ⟨hn,hg,rfl⟩ | ⟨hn,hs,rfl⟩ | ⟨hn,hs,rfl⟩ | ⟨hn,hs,hg,rfl⟩ | ⟨hn,hs,hg,rfl⟩
 all_goals
  rw[hn] at o1 o2 o3
  try rw[decide_eq_true hs,decide_eq_false (by omega)] at *
  try rw[decide_eq_true hs] at o3
  try rw[decide_eq_false (show ¬ Wm.sk b<0 by omega)] at o2
  try rw[decide_eq_false (show ¬ 0<Wm.sk b by omega)] at o3
  simp only[Bool.not_true,Bool.not_false,Bool.true_and,Bool.false_and] at o2 o3
  try rw[hg] at o4
  try clear hs
  go_enter Tryz.func77,Tryz.ntmps77
  go_wp2_with fail
  go_ret
  exact⟨by rw[hv.out];rfl,rfl⟩
theorem tK (x y:Int)(w:World) :
  Calls Tryz.prog 78 #[.int .i64 x,.int .i64 y] w fun e w'=>e=.returned (.int .i64 (Vm.sgn x y))/\w=w':=by
 rcases bg x y with⟨h,hv⟩ | ⟨h,hv⟩ | ⟨h,hv⟩
 all_goals
  have H:=zh hv
  clear hv
  try subst h
  go_enter Tryz.func78,Tryz.ntmps78
  go_wp2_with fail
  go_ret
  exact⟨by rw[H.out];rfl,rfl⟩
theorem oD (a b:Nat)(ha:a<Wm.W)(hb:b<Wm.W)(w:World) :
  Calls Tryz.prog 38 #[.float .f64 a,.float .f64 b] w fun e w'=>e=.returned (.int .i64 (cmpW a b))/\w=w':=by
 rw[<-yl a b ha hb]
 have H:Hid (refCmpW a b=if keyN a≠keyN b then Vm.sgn (keyN a) (keyN b) else if Wm.nan a||Wm.nan b then 0 else Vm.sgn (Wm.sk a) (Wm.sk b)):=rfl
 have o1:=Wm.ow a b ha hb
 have o2:=Wm.ox a b ha hb
 go_enter Tryz.func38,Tryz.ntmps38
 go_wp2_with fail
 refine (wY a ha _).mono ?_
 rintro e w' ⟨rfl,rfl⟩
 go_wp2_with fail
 refine (wY b hb _).mono ?_
 rintro e w' ⟨rfl,rfl⟩
 by_cases hk:keyN a=keyN b
 ·have aa:(keyN a != keyN b)=false:=by simp[hk]
  have HE:Hid (refCmpW a b=if Wm.nan a||Wm.nan b then 0 else Vm.sgn (Wm.sk a) (Wm.sk b)):=by show _=_;rw[H.out,if_neg (fun h=>h hk)]
  generalize keyN a=ka at *
  subst hk
  clear H
  cases hn:(Wm.nan a||Wm.nan b)
  ·have ab:Wm.nan a=false:=by revert hn;cases Wm.nan a <;> simp
   have ac:Wm.nan b=false:=by revert hn;cases Wm.nan b <;> simp
   rw[ab,ac] at o1 o2
   rcases bg (Wm.sk a) (Wm.sk b) with⟨h,hv⟩ | ⟨h,hv⟩ | ⟨h,hv⟩
   all_goals
    have HV:Hid (refCmpW a b=Vm.sgn (Wm.sk a) (Wm.sk b)):=by show _=_;rw[HE.out,hn];rfl
    rw[hv] at HV
    clear HE hv hn
   ·rw[decide_eq_true h] at o1
    rw[decide_eq_false (by omega)] at o2
    simp only[Bool.not_false,Bool.true_and] at o1 o2
    clear h
    go_wp2_with fail
    go_ret
    exact⟨by rw[HV.out];rfl,rfl⟩
   ·rw[decide_eq_false (by omega)] at o1
    rw[decide_eq_true h] at o2
    simp only[Bool.not_false,Bool.true_and] at o1 o2
    clear h
    go_wp2_with fail
    go_ret
    exact⟨by rw[HV.out];rfl,rfl⟩
   ·rw[decide_eq_false (by omega)] at o1
    rw[decide_eq_false (by omega)] at o2
    simp only[Bool.not_false,Bool.true_and] at o1 o2
    clear h
    go_wp2_with fail
    go_ret
    exact⟨by rw[HV.out];rfl,rfl⟩
  ·have HV:Hid (refCmpW a b=0):=by show _=_;rw[HE.out,hn];rfl
   have e1:(FloatKind.f64.format.order a b==some .lt)=false:=by rw[o1];revert hn;cases Wm.nan a <;> cases Wm.nan b <;> simp
   have e2:(FloatKind.f64.format.order a b==some .gt)=false:=by rw[o2];revert hn;cases Wm.nan a <;> cases Wm.nan b <;> simp
   clear o1 o2 HE hn
   go_wp2_with fail
   go_ret
   exact⟨by rw[HV.out];rfl,rfl⟩
 ·have aa:(keyN a != keyN b)=true:=by simp[hk]
  have HE:Hid (refCmpW a b=Vm.sgn (keyN a) (keyN b)):=by show _=_;rw[H.out,if_pos hk]
  clear H o1 o2 hk
  go_wp2_with fail
  refine (tK _ _ _).mono ?_
  rintro e w' ⟨rfl,rfl⟩
  go_wp2_with fail
  go_ret
  exact⟨by rw[HE.out];rfl,rfl⟩
def Fin (r:Nat):Prop:=0<r/\r<9218868437227405312
theorem bF {r:Nat}(h:Fin r)(n:Bool):Wm.word n r<Wm.W/\Wm.nan (Wm.word n r)=false/\Wm.sk (Wm.word n r)≠0/\Wm.sk (Wm.word n r)<9218868437227405312/\-9218868437227405312<Wm.sk (Wm.word n r):=by
 obtain⟨h1,h2⟩:=h
 obtain⟨a1,a2,a3⟩:=Wm.bc n (r:=r) (by omega)
 refine⟨a3,?_,?_⟩
 ·unfold Wm.nan;rw[a1];exact decide_eq_false (by omega)
 ·unfold Wm.sk;rw[a1,a2];cases n <;> simp <;> omega
theorem oE (b:Nat)(hb:b<Wm.W)(w:World) :
  Calls Tryz.prog 198 #[.float .f64 b] w fun e w'=>e=.returned (.bool (Wm.nan b))/\w=w':=by
 have H:=Wm.gE b hb
 go_enter Tryz.func198,Tryz.ntmps198
 go_wp2_with fail
 go_ret
 exact⟨rfl,rfl⟩
theorem fin_pos {r:Nat}(h:Fin r):r<Wm.W/\Wm.nan r=false/\Wm.sk r=r:=by
 obtain⟨h1,h2⟩:=h
 obtain⟨a1,a2,a3⟩:=Wm.bc false (r:=r) (by omega)
 refine⟨a3,?_,?_⟩
 ·unfold Wm.nan;rw[show Wm.rung r=r from a1];exact decide_eq_false (by omega)
 ·unfold Wm.sk;rw[show Wm.neg r=false from a2,show Wm.rung r=r from a1];rfl
theorem mZ (n:Bool){r:Nat}(h:Fin r)(w:World) :
  Calls Tryz.prog 229 #[.float .f64 (Wm.word n r)] w fun e w'=>e=.returned (.float .f64 r)/\w=w':=by
 have h2:=h.2
 obtain⟨a1,a2,a3⟩:=Wm.bc n (r:=r) (by omega)
 have:=adF (Wm.word n r) a3 w
 rwa [a1] at this
theorem tL (n:Bool)(r:Nat)(h:Fin r)(w:World) :
  Calls Tryz.prog 197 #[.float .f64 (Wm.word n r),.int .i64 0] w fun e w'=>e=.returned (.bool false)/\w=w':=by
 obtain⟨g1,g2,g3⟩:=fin_pos h
 have h2:=h.2
 have o1:=Wm.ox r 9218868437227405311 g1 (by decide)
 rw[g2,g3,show Wm.sk 9218868437227405311=9218868437227405311 from rfl,decide_eq_false (by omega)] at o1
 simp only[Bool.and_false] at o1
 clear g1 g2 g3 h2
 go_enter Tryz.func197,Tryz.ntmps197
 go_wp2_with fail
 refine (mZ n h _).mono ?_
 rintro e w' ⟨rfl,rfl⟩
 go_wp2_with fail
 go_ret
 exact⟨rfl,rfl⟩
theorem pL (x y r:Nat)(h:Ieee.double.mul x y=some r)(W:World):(binOp .mul 25 (.float .f64 x) (.float .f64 y)).run Tryz.prog W=.ok (.float .f64 r) W :=
 run_float_arith W .mul _ .f64 x y r h
def nrmX (r:Nat):Int:=if r<4503599627370496 then -52 else 0
theorem j8 (n:Bool)(r:Nat)(h:Fin r)(w:World) :
  Calls Tryz.prog 199 #[.float .f64 (Wm.word n r)] w fun e w'=>e=.returned (.tuple #[.float .f64 (Wm.word n (Wm.nrm r)),.int .i64 (nrmX r)])/\w=w':=by
 obtain⟨g1,g2,g3⟩:=fin_pos h
 have o1:=Wm.ow r 4503599627370496 g1 (by decide)
 rw[g2,g3,show Wm.nan 4503599627370496=false from rfl,show Wm.sk 4503599627370496=4503599627370496 from rfl] at o1
 clear g1 g2 g3
 by_cases hr:r<4503599627370496
 ·rw[decide_eq_true (by omega)] at o1
  simp only[Bool.not_false,Bool.and_true] at o1
  have hm:=pL _ _ _ (Wm.adv n h.1 hr)
  have HX:Hid (nrmX r = -52):=by show _=_;rw[nrmX,if_pos hr]
  clear hr
  go_enter Tryz.func199,Tryz.ntmps199
  go_wp2_with fail
  refine (mZ n h _).mono ?_
  rintro e w' ⟨rfl,rfl⟩
  go_wp2_with fail
  go_ret2
  exact⟨by rw[HX.out];rfl,rfl⟩
 ·rw[decide_eq_false (by omega)] at o1
  simp only[Bool.not_false,Bool.and_false] at o1
  have HX:Hid (nrmX r=0/\Wm.nrm r=r):=by show _/\_;rw[nrmX,if_neg hr,Wm.nrm,if_neg hr];exact⟨rfl,rfl⟩
  clear hr
  go_enter Tryz.func199,Tryz.ntmps199
  go_wp2_with fail
  refine (mZ n h _).mono ?_
  rintro e w' ⟨rfl,rfl⟩
  go_wp2_with fail
  go_ret2
  exact⟨by rw[HX.out.1,HX.out.2];rfl,rfl⟩
theorem wZ (n:Bool){r:Nat}(h:Fin r):(FloatKind.f64.format.order (Wm.word n r) 0==some .eq)=false:=by
 obtain⟨g1,g2,g3,_⟩:=bF h n
 rw[Wm.aet _ 0 g1 (by decide),g2,jL,lW,decide_eq_false g3];rfl
theorem acf (n:Bool)(r:Nat)(h:Fin r)(w:World) :
  Calls Tryz.prog 168 #[.float .f64 (Wm.word n r)] w fun e w'=>e=.returned (.tuple #[.float .f64 (Wm.word n (4602678819172646912+Wm.fOf r)),.int .i64 (Wm.xOf r)])/\w=w':=by
 have o1:=wZ n h
 obtain⟨n1,n2⟩:=Wm.zV h.1 h.2
 have ab:=ch
 have aa:=iS
 have e1:=Wm.expB n (Wm.nrm r) (by omega)
 have e2:=Wm.clearB n (Wm.nrm r) (by omega)
 have e3:bits .or .u64 (Wm.word n (Wm.nrm r % 4503599627370496):Nat) 4602678819172646912=(Wm.word n (4602678819172646912+Wm.nrm r % 4503599627370496):Nat):=Wm.setB n 1022 (Wm.nrm r % 4503599627370496) (by decide) (by omega)
 have hq:Wm.nrm r / 4503599627370496<2048:=by omega
 have HX:Hid (Wm.xOf r=nrmX r+((Wm.nrm r / 4503599627370496:Nat)-1023+1)):=by
  show _=_
  unfold Wm.xOf nrmX
  split <;> omega
 have HF:Hid (Wm.fOf r=Wm.nrm r % 4503599627370496):=rfl
 have ac:nrmX r = -52\/nrmX r=0:=by unfold nrmX;split <;> simp
 clear n1 n2
 generalize Wm.nrm r / 4503599627370496=q at *
 go_enter Tryz.func168,Tryz.ntmps168
 go_wp2_with fail
 refine (tL n r h _).mono ?_
 rintro e w' ⟨rfl,rfl⟩
 go_wp2_with fail
 refine (oE _ (bF h n).1 _).mono ?_
 rintro e w' ⟨rfl,rfl⟩
 rw[(bF h n).2.1]
 go_wp2_with fail
 refine (j8 n r h _).mono ?_
 rintro e w' ⟨rfl,rfl⟩
 go_wp2_with fail
 go_ret2
 exact⟨by rw[HX.out,HF.out];rfl,rfl⟩
theorem aac (n:Bool)(r:Nat)(h:Fin r)(w:World) :
  Calls Tryz.prog 123 #[.float .f64 (Wm.word n r)] w fun e w'=>e=.returned (.tuple #[.float .f64 (Wm.word n (4602678819172646912+Wm.fOf r)),.int .i64 (Wm.xOf r)])/\w=w':=by
 go_enter Tryz.func123,Tryz.ntmps123
 go_wp2_with fail
 refine (acf n r h _).mono ?_
 rintro e w' ⟨rfl,rfl⟩
 go_wp2_with fail
 go_ret2
 exact⟨rfl,rfl⟩
theorem k9 (b c:Nat)(hb:b<Wm.W)(hc:c<Wm.W)(w:World) :
  Calls Tryz.prog 201 #[.float .f64 b,.float .f64 c] w fun e w'=>e=.returned (.float .f64 (Wm.word (Wm.neg c) (Wm.rung b)))/\w=w':=by
 have ab:=ch
 have aa:=iS
 have e1:=Wm.absB b hb
 have e2:=Wm.sgnB c hc
 have e3:=Wm.signB (Wm.rung b) (Wm.fR b)
 have e4:bits .or .u64 (Wm.rung b:Int) 0=(Wm.rung b:Int):=by
  have h:=u64_or_nat (Wm.rung b) 0 (by have:=Wm.fR b;omega) (by decide)
  rw[Nat.or_zero] at h
  exact h
 have HW:Hid (∀ g r,Wm.word g r=if g then 9223372036854775808+r else r):=fun _ _=>rfl
 cases hg:Wm.neg c
 all_goals
  rw[hg] at e2
  go_enter Tryz.func201,Tryz.ntmps201
  go_wp2_with fail
  go_ret
  exact⟨by rw[HW.out];rfl,rfl⟩
theorem acg (n:Bool)(r:Nat)(e:Int)(h:Fin r)(hr:4503599627370496<=r)(he:-100000<=e/\e<=100000)(w:World) :
  Calls Tryz.prog 170 #[.float .f64 (Wm.word n r),.int .i64 e] w fun e' w'=>e'=.returned (.float .f64 (Wm.ldx n r e))/\w=w':=by
 have o1:=wZ n h
 have h2:=h.2
 have ad:=ch
 have ac:=iS
 have e1:=Wm.expI n r (by omega)
 have e2:=Wm.clearB n r (by omega)
 have hq:r / 4503599627370496<2048:=by omega
 have aa:Wm.nrm r=r/\nrmX r=0:=by unfold Wm.nrm nrmX;rw[if_neg (by omega),if_neg (by omega)];exact⟨rfl,rfl⟩
 have HL:Hid (Wm.ldx n r e=if Wm.ldE r e < -1075 then Wm.word n 0 else if 1023<Wm.ldE r e then Wm.word n 9218868437227405312
  else if Wm.ldE r e < -1022 then Wm.deno n ((Wm.ldE r e+1076).toNat*4503599627370496+r % 4503599627370496)
  else Wm.word n ((Wm.ldE r e+1023).toNat*4503599627370496+r % 4503599627370496)):=rfl
 have HE:Hid (Wm.ldE r e=(r / 4503599627370496:Nat)-1023+e):=rfl
 have ab:r % 4503599627370496<4503599627370496:=by omega
 have ae:0<=(Wm.word n r:Int) / 4503599627370496:=by omega
 have af:(Wm.word n r:Int) / 4503599627370496<=4095:=by have:=(bF h n).1;unfold Wm.W at this;omega
 go_enter Tryz.func170,Tryz.ntmps170
 go_wp2_with fail
 refine (tL n r h _).mono ?_
 rintro e' w' ⟨rfl,rfl⟩
 go_wp2_with fail
 refine (oE _ (bF h n).1 _).mono ?_
 rintro e' w' ⟨rfl,rfl⟩
 rw[(bF h n).2.1]
 go_wp2_with fail
 refine (j8 n r h _).mono ?_
 rintro e' w' ⟨rfl,rfl⟩
 rw[aa.1,aa.2]
 clear aa hr h2
 generalize r / 4503599627370496=q at *
 by_cases c1:(q:Int)-1023+e < -1075
 ·have HV:Hid (Wm.ldx n r e=Wm.word n 0):=by show _=_;rw[HL.out,if_pos (by rw[HE.out];exact c1)]
  clear HL HE
  go_wp2_with fail
  refine (k9 0 (Wm.word n r) (by decide) (bF h n).1 _).mono ?_
  rintro e' w' ⟨rfl,rfl⟩
  rw[(Wm.bc n (r:=r) (by have:=h.2;omega)).2.1]
  go_wp2_with fail
  go_ret
  exact⟨by rw[HV.out];rfl,rfl⟩
 ·by_cases c2:1023<(q:Int)-1023+e
  ·have HV:Hid (Wm.ldx n r e=Wm.word n 9218868437227405312):=by show _=_;rw[HL.out,if_neg (by rw[HE.out];exact c1),if_pos (by rw[HE.out];exact c2)]
   clear HL HE
   have o2:=wX _ (bF h n).1
   rw[(bF h n).2.1] at o2
   have hs:decide (Wm.sk (Wm.word n r)<0)=n:=by
    obtain⟨a1,a2,a3⟩:=Wm.bc n (r:=r) (by have:=h.2;omega)
    have:=h.1
    unfold Wm.sk;rw[a1,a2];cases n <;> simp <;> omega
   rw[hs] at o2
   clear hs
   cases n
   all_goals
    simp only[Bool.not_false,Bool.true_and] at o2
    go_wp2_with fail
    refine (pJ _ _).mono ?_
    rintro e' w' ⟨rfl,rfl⟩
    go_wp2_with fail
    go_ret
    exact⟨by rw[HV.out];rfl,rfl⟩
  ·by_cases c3:(q:Int)-1023+e < -1022
   ·have HV:Hid (Wm.ldx n r e=Wm.deno n ((Wm.ldE r e+1076).toNat*4503599627370496+r % 4503599627370496)):=by show _=_;rw[HL.out,if_neg (by rw[HE.out];exact c1),if_neg (by rw[HE.out];exact c2),if_pos (by rw[HE.out];exact c3)]
    clear HL
    obtain⟨p,hp⟩:∃ p:Nat,(q:Int)-1023+e+1076=p:=⟨((q:Int)-1023+e+1076).toNat,by omega⟩
    have HP:Hid ((Wm.ldE r e+1076).toNat=p):=by show _=_;rw[HE.out];omega
    rw[HP.out] at HV
    have e3:bits .or .u64 (Wm.word n (r % 4503599627370496):Nat) ((e+((q:Int)-1023)+53+1023)*4503599627370496)=(Wm.word n (p*4503599627370496+r % 4503599627370496):Nat):=by
     rw[show (e+((q:Int)-1023)+53+1023)*4503599627370496=((p*4503599627370496:Nat):Int) from by omega]
     exact Wm.setB n p _ (by omega) ab
    have hm:=pL _ _ _ (Wm.ab9 n (r:=p*4503599627370496+r % 4503599627370496) (by omega)).1
    clear HP HE hp
    go_wp2_with fail
    go_ret
    exact⟨by rw[HV.out];rfl,rfl⟩
   ·have HV:Hid (Wm.ldx n r e=Wm.word n ((Wm.ldE r e+1023).toNat*4503599627370496+r % 4503599627370496)):=by show _=_;rw[HL.out,if_neg (by rw[HE.out];exact c1),if_neg (by rw[HE.out];exact c2),if_neg (by rw[HE.out];exact c3)]
    clear HL
    obtain⟨p,hp⟩:∃ p:Nat,(q:Int)-1023+e+1023=p:=⟨((q:Int)-1023+e+1023).toNat,by omega⟩
    have HP:Hid ((Wm.ldE r e+1023).toNat=p):=by show _=_;rw[HE.out];omega
    rw[HP.out] at HV
    have e3:bits .or .u64 (Wm.word n (r % 4503599627370496):Nat) ((e+((q:Int)-1023)+1023)*4503599627370496)=(Wm.word n (p*4503599627370496+r % 4503599627370496):Nat):=by
     rw[show (e+((q:Int)-1023)+1023)*4503599627370496=((p*4503599627370496:Nat):Int) from by omega]
     exact Wm.setB n p _ (by omega) ab
    have hm:=pL _ _ _ (Wm.mul_one n (r:=p*4503599627370496+r % 4503599627370496) (by omega) (by omega))
    clear HP HE hp
    go_wp2_with fail
    go_ret
    exact⟨by rw[HV.out];rfl,rfl⟩
theorem qE (n:Bool)(r:Nat)(e:Int)(h:Fin r)(hr:4503599627370496<=r)(he:-100000<=e/\e<=100000)(w:World) :
  Calls Tryz.prog 124 #[.float .f64 (Wm.word n r),.int .i64 e] w fun e' w'=>e'=.returned (.float .f64 (Wm.ldx n r e))/\w=w':=by
 go_enter Tryz.func124,Tryz.ntmps124
 go_wp2_with fail
 refine (acg n r e h hr he _).mono ?_
 rintro e' w' ⟨rfl,rfl⟩
 go_wp2_with fail
 go_ret
 exact⟨rfl,rfl⟩
end
end Go.Proofs.YtpfkphmldalmmaaGreatDoor
