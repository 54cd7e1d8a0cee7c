/- Part 22 of what the laws lean on. -/
import Derived.Test.YtpfkphmldalmmaaGreatDoorL21
import Derived.Lib.AppendIntMem
import Derived.Lib.ItoaLen
set_option maxHeartbeats 4000000
namespace Go.Proofs.YtpfkphmldalmmaaGreatDoor
namespace Wm
open Go.Lib
theorem m6 (l:List UInt8)(c:UInt8):Vm.num (l++[c])=10*Vm.num l+(c.toNat-48):=by
 unfold Vm.num;rw[List.foldl_append];rfl
theorem fU (c:UInt8):Vm.dig c=true↔48<=c.toNat/\c.toNat<=57:=by unfold Vm.dig;simp
theorem ofNat_toNat (n:Nat)(h:n<256):(UInt8.ofNat n).toNat=n:=by rw[UInt8.toNat_ofNat'];omega
def plain (l:List UInt8):Prop:=l≠[]/\l.all Vm.dig=true/\(l.head? = some 48->l=[48])
theorem ib {u:Nat}(h:u<10):decDigits u=[UInt8.ofNat (48+u)]:=by rw[decDigits,dif_pos h]
theorem pM {u:Nat}(h:¬ u<10):decDigits u=decDigits (u / 10)++[UInt8.ofNat (48+u % 10)]:=by rw[decDigits,dif_neg h]
theorem el:∀ (n u:Nat),u<=n->plain (decDigits u)/\Vm.num (decDigits u)=u/\(0<u->(decDigits u).head?≠some 48)
 | 0,u,h=>by
  obtain rfl:u=0:=by omega
  rw[ib (by omega)]
  refine⟨⟨by simp,by decide,fun _=>rfl⟩,by decide,fun h=>by omega⟩
 | n+1,u,h=>by
  by_cases c:u<10
  ·rw[ib c]
   have hd:(UInt8.ofNat (48+u)).toNat=48+u:=ofNat_toNat _ (by omega)
   refine⟨⟨by simp,?_,fun h=>?_⟩,?_,fun h0 h=>?_⟩
   ·simp only[List.all_cons,List.all_nil,Bool.and_true];rw[fU,hd];omega
   ·simp only[List.head?_cons,Option.some.injEq] at h;rw[h]
   ·have:=m6 [] (UInt8.ofNat (48+u));rw[List.nil_append,hd] at this;rw[this];simp[Vm.num]
   ·simp only[List.head?_cons,Option.some.injEq] at h
    rw[h] at hd;have:(48:UInt8).toNat=48:=rfl
    omega
  ·obtain⟨⟨h1,h2,h3⟩,h4,h5⟩:=el n (u / 10) (by omega)
   have hd:(UInt8.ofNat (48+u % 10)).toNat=48+u % 10:=ofNat_toNat _ (by omega)
   have h6:=h5 (by omega)
   rw[pM c]
   have hh:(decDigits (u / 10)++[UInt8.ofNat (48+u % 10)]).head? = (decDigits (u / 10)).head?:=by
    rw[List.head?_append]
    cases hx:(decDigits (u / 10)).head? with
    | none=>rw[List.head?_eq_none_iff] at hx;exact absurd hx h1
    | some _=>rfl
   refine⟨⟨by simp,?_,fun h=>?_⟩,?_,fun _=>?_⟩
   ·rw[List.all_append,h2];simp only[List.all_cons,List.all_nil,Bool.and_true,Bool.true_and];rw[fU,hd];omega
   ·rw[hh] at h;exact absurd h h6
   ·rw[m6,h4,hd];omega
   ·rw[hh];exact h6
theorem tM (l:List UInt8)(h:l≠[]):Vm.num l % 2=((l.getLast h).toNat-48) % 2:=by
 obtain⟨m,c,rfl⟩:∃ m c,l=m++[c]:=⟨l.dropLast,l.getLast h,(List.dropLast_concat_getLast h).symm⟩
 rw[m6,List.getLast_concat];omega
theorem iU:∀ (l:List UInt8) (acc:Nat),l.all Vm.dig=true->acc<=18446744073709551615 ->
  parseUintM 18446744073709551615 acc l=if l.foldl (fun n c=>10*n+(c.toNat-48)) acc<=18446744073709551615 then .ok (l.foldl (fun n c=>10*n+(c.toNat-48)) acc) else .range
 | [],acc,_,h=>by simp[parseUintM,h]
 | c :: l,acc,h,ha=>by
  simp only[List.all_cons,Bool.and_eq_true] at h
  have hc:=(fU c).1 h.1
  have mono:∀ (l:List UInt8) (a:Nat),a<=l.foldl (fun n c=>10*n+(c.toNat-48)) a:=fun l=>by
   induction l with
   | nil=>intro a;exact Nat.le_refl _
   | cons c l ih=>intro a;rw[List.foldl_cons];exact Nat.le_trans (by omega) (ih _)
  have hm:=mono l (10*acc+(c.toNat-48))
  rw[List.foldl_cons]
  unfold parseUintM
  rw[if_pos hc,show acc*10+(c.toNat-48)=10*acc+(c.toNat-48) from by omega]
  by_cases c1:10*acc+(c.toNat-48)<=18446744073709551615
  ·rw[if_neg (by omega),if_neg (by omega)]
   exact iU l _ h.2 c1
  ·rw[if_neg (show ¬ l.foldl (fun n c=>10*n+(c.toNat-48)) (10*acc+(c.toNat-48))<=18446744073709551615 by omega)]
   split
   ·rfl
   ·rw[if_pos (by omega)]
def sgnd (l:List UInt8):Bool:=l.head? == some 45
def mgn (l:List UInt8):List UInt8:=if sgnd l then l.drop 1 else l
def decOk (l:List UInt8):Prop:=plain (mgn l)/\(mgn l=[48]->sgnd l=false)
def nmb (l:List UInt8):Int :=
 if sgnd l then (if Vm.num (mgn l)<=9223372036854775808 then -(Vm.num (mgn l):Int) else -9223372036854775808)
 else (if Vm.num (mgn l)<9223372036854775808 then (Vm.num (mgn l):Int) else 9223372036854775807)
theorem aad (l:List UInt8)(h:plain (mgn l)):parseIntB 64 l=.ok (nmb l)\/(parseIntB 64 l=.range/\intSat 64 l=nmb l):=by
 obtain⟨h1,h2,_⟩:=h
 have hu:=iU (mgn l) 0 h2 (by omega)
 have hB:parseUintB 64 (mgn l)=if Vm.num (mgn l)<=18446744073709551615 then .ok (Vm.num (mgn l)) else .range:=by
  unfold parseUintB;rw[if_neg h1];exact hu
 clear hu
 unfold nmb
 cases l with
 | nil=>exact absurd rfl h1
 | cons c r =>
  have aa:(45:UInt8).toNat=45:=rfl
  by_cases hc:c=45
  ·have hs:sgnd (c :: r)=true:=by unfold sgnd;rw[hc];rfl
   have hm:mgn (c :: r)=r:=by unfold mgn;rw[hs];rfl
   rw[hm] at hB ⊢
   rw[hs]
   unfold parseIntB intSat
   subst hc
   simp only[aa,or_true,if_true,hB]
   by_cases g1:Vm.num r<=18446744073709551615
   ·simp only[if_pos g1]
    by_cases g2:Vm.num r<=9223372036854775808
    ·left
     rw[if_neg (by simp),if_neg (by simp;omega)]
     simp[g2]
    ·right
     rw[if_neg (by simp),if_pos (by simp;omega)]
     simp[g2]
   ·right
    simp only[if_neg g1]
    simp;omega
  ·have hs:sgnd (c :: r)=false:=by unfold sgnd;simp[hc]
   have hm:mgn (c :: r)=c :: r:=by unfold mgn;rw[hs];rfl
   rw[hm] at hB h2 ⊢
   rw[hs]
   have hd:Vm.dig c=true:=by simp only[List.all_cons,Bool.and_eq_true] at h2;exact h2.1
   rw[fU] at hd
   unfold parseIntB intSat
   simp only[List.head?_cons,Option.map_some,Option.some.injEq]
   rw[if_neg (show ¬ (c.toNat=43\/c.toNat=45) by omega),hB,if_neg (show ¬ c.toNat=45 by omega)]
   by_cases g1:Vm.num (c :: r)<=18446744073709551615
   ·simp only[if_pos g1]
    by_cases g2:Vm.num (c :: r)<9223372036854775808
    ·left
     rw[if_neg (by simp;omega),if_neg (by simp;omega),if_neg (show ¬ c.toNat=45 by omega)]
     simp[g2]
    ·right
     rw[if_pos (by simp;omega)]
     simp[g2]
   ·right
    simp only[if_neg g1]
    simp;omega
theorem aew (l:List UInt8):Lib.trimPrefix l [45]=mgn l:=by
 unfold Lib.trimPrefix mgn sgnd Lib.hasPrefix
 cases l with
 | nil=>rfl
 | cons c t =>
  by_cases hc:c=45
  ·subst hc;rfl
  ·have h1:(List.isPrefixOf [45] (c :: t))=false:=by simp[List.isPrefixOf];exact fun h=>hc h.symm
   rw[h1];simp[hc]
theorem aex (l:List UInt8):(mgn l).length<=l.length:=by
 unfold mgn;split
 ·rw[List.length_drop];omega
 ·exact Nat.le_refl _
def decB (l:List UInt8):Bool:=if (mgn l).isEmpty||(mgn l).head? == some 48 then l==[48] else (Vm.undigs (mgn l)).isEmpty
theorem oF (l:List UInt8):(Vm.undigs l).isEmpty=true↔l.all Vm.dig=true:=by
 unfold Vm.undigs
 induction l with
 | nil=>simp
 | cons c t ih =>
  rw[List.dropWhile_cons,List.all_cons]
  cases hc:Vm.dig c
  ·simp
  ·simp only[if_true,Bool.true_and];exact ih
theorem jM (l:List UInt8):decB l=true↔decOk l:=by
 unfold decB decOk plain
 constructor
 ·intro h
  split at h
  ·have:l=[48]:=by simpa using h
   subst this
   refine⟨⟨by decide,by decide,fun _=>rfl⟩,fun _=>rfl⟩
  ·rename_i h2
   simp only[Bool.or_eq_true,List.isEmpty_iff,beq_iff_eq,not_or] at h2
   refine⟨⟨h2.1,(oF _).1 h,fun h3=>absurd h3 h2.2⟩,fun h3=>absurd (by rw[h3];rfl) h2.2⟩
 ·rintro⟨⟨h1,h2,h3⟩,h4⟩
  split
  ·rename_i h5
   simp only[Bool.or_eq_true,List.isEmpty_iff,beq_iff_eq] at h5
   rcases h5 with h5 | h5
   ·exact absurd h5 h1
   ·have h6:=h3 h5
    have h7:=h4 h6
    have:mgn l=l:=by unfold mgn;rw[h7];rfl
    rw[this] at h6
    rw[h6];rfl
  ·exact (oF _).2 h2
end Wm
section
open Go.RowKit
namespace Wm
theorem aey {x:Nat}(h0:0<x)(h:x<18446744073709551616):Lib.ctz 64 x=tz x:=by
 obtain⟨m,e,_⟩:=Lib.ctzFrom_spec 64 x h0 h
 have:Lib.ctz 64 x=Lib.ctzFrom 64 x:=by unfold Lib.ctz;rw[if_neg (by omega)]
 rw[this]
 generalize Lib.ctzFrom 64 x=t at *
 rw[e,Nat.mul_comm,gD (by omega),iR (by omega)];omega
theorem rM {m i:Nat}(h0:0<m)(h:m<2 ^ i):tz m<i:=by
 have e:=(fS m m (Nat.le_refl _) h0).2
 have hp:=zT h0
 rcases Nat.lt_or_ge (tz m) i with h1 | h1
 ·exact h1
 ·have:2 ^ i<=2 ^ tz m:=Nat.pow_le_pow_right (by decide) h1
  have:1*2 ^ tz m<=od m*2 ^ tz m:=Nat.mul_le_mul_right _ hp
  omega
theorem aez {m:Nat}(h0:0<m)(h:m<2 ^ 53):tz (18446744073709551616-m)=tz m:=by
 obtain⟨ho,e⟩:=fS m m (Nat.le_refl _) h0
 have ht:=rM h0 h
 have hle:=acP m
 generalize od m=k at *
 generalize tz m=t at *
 have e2:18446744073709551616-m=(2 ^ (64-t)-k)*2 ^ t:=by
  rw[Nat.sub_mul,<-Nat.pow_add,show 64-t+t=64 from by omega,<-e]
 have h2:2 ^ (64-t)=2*2 ^ (63-t):=by rw[show 64-t=(63-t)+1 from by omega,Nat.pow_succ];omega
 have h4:k<2 ^ (64-t):=by
  have h5:k*2 ^ t<2 ^ (64-t)*2 ^ t:=by
   rw[<-Nat.pow_add,show 64-t+t=64 from by omega,<-e];omega
  exact Nat.lt_of_mul_lt_mul_right h5
 rw[e2,gD (by omega),iR (by omega)];omega
def sg (n:Bool) (k:Nat):Int:=(if n then -1 else 1)*(k:Int)
theorem aae (n:Bool)(k:Nat):(sg n k).natAbs=k:=by unfold sg;cases n <;> simp
def textF (n:Bool) (r:Nat):List UInt8:=Lib.itoa (sg n (kOf r))++112 :: Lib.itoa (eOf r)
def signed (n:Bool) (l:List UInt8):List UInt8:=if n then 45 :: l else l
def textW (b:Nat):List UInt8 :=
 if nan b then [110,97,110] else if rung b=9218868437227405312 then signed (neg b) [105,110,102] else if rung b=0 then signed (neg b) [48] else textF (neg b) (rung b)
end Wm
def KOk (w:World):Prop := MaxOk w/\Lib.TabIs Tryz.prog w "internal/strconv.uint64pow10" .u64 Lib.pow10Tab/\Lib.TabIs Tryz.prog w "math/bits.deBruijn64tab" .u8 (Lib.deBruijn64tab.map Int.ofNat)/\∃ tp p, w.var? Tryz.prog "strconv.ErrRange" = some #[.iface tp p]
theorem tN {w:World}{n:String}{g:Nat}{cs:Array Value}(hg:Tryz.prog.globalNamed n=some g)(h:w.var? Tryz.prog n=some cs):g<w.heap.size:=by
 unfold World.var? at h
 simp only[hg,Option.bind_some] at h
 rcases Nat.lt_or_ge g w.heap.size with h1 | h1
 ·exact h1
 ·simp[Array.getElem?_eq_none h1] at h
theorem aX {w w':World}(h:KOk w)(hb:Below w.heap.size w w'):KOk w':=by
 obtain⟨h1,h2,h3,tp,p,h4⟩:=h
 have g2:Tryz.prog.globalNamed "internal/strconv.uint64pow10" = some 3 := by kernel_rfl
 have g3:Tryz.prog.globalNamed "math/bits.deBruijn64tab" = some 1 := by kernel_rfl
 have g4:Tryz.prog.globalNamed "strconv.ErrRange" = some 8 := by kernel_rfl
 exact⟨ah h1 hb,var?_below hb g2 (tN g2 h2) h2,var?_below hb g3 (tN g3 h3) h3,tp,p,var?_below hb g4 (tN g4 h4) h4⟩
theorem adI {w:World}(h:KOk w):TabAt 1 Lib.deBruijn64tab w:=by
 intro j hj
 have := Lib.TabIs.cell h.2.2.1 (show Tryz.prog.globalNamed "math/bits.deBruijn64tab" = some 1 by kernel_rfl) j (by simpa using hj)
 rw[this]
 simp[List.getD,hj]
theorem vE (n:Bool)(r:Nat)(h:Fin r)(w:World)(hk:KOk w) :
  Calls Tryz.prog 84 #[.float .f64 (Wm.word n r)] w fun e w'=>e=.returned (.string ⟨(Wm.textF n r).toArray⟩)/\Below w.heap.size w w':=by
 have hf:=Wm.aes r
 obtain⟨x1,x2⟩:=Wm.adw h.1
 have ae:=Wm.aer n (Wm.fOf r) hf
 have ab:=Wm.yk n (Wm.fOf r) hf
 obtain⟨M,hM⟩:=ex (4503599627370496+Wm.fOf r)
 rw[hM] at x1 x2 ab
 obtain⟨F,hF⟩:∃ F:Int,(if n then -1 else 1)*(M:Int)=F:=⟨_,rfl⟩
 rw[hF] at ab
 have ah:∀ W:World,(convert 25 2 (.float .f64 (Wm.word n (4841369599423283200+Wm.fOf r)))).run Tryz.prog W=.ok (.int .i64 F) W :=
  fun W=>run_convert_float_int W 25 2 .f64 .i64 _ _ (by kernel_rfl) Tryz.underlying2 ab
 have ac:0<M:=by omega
 have af:M<2 ^ 53:=by omega
 have ao:-9007199254740992<=F/\F<=9007199254740992:=by rw[<-hF];cases n <;> simp <;> omega
 obtain⟨U,hU⟩:∃ U:Nat,IntKind.u64.wrap F=(U:Int)/\0<U/\U<18446744073709551616/\Wm.tz U=Wm.tz M:=by
  rw[<-hF]
  cases n
  ·refine⟨M,?_,ac,by omega,rfl⟩
   rw[IntKind.wrap_u64];simp;omega
  ·refine⟨18446744073709551616-M,?_,by omega,by omega,Wm.aez ac af⟩
   rw[IntKind.wrap_u64];simp;omega
 have aa:=Wm.aey hU.2.1 hU.2.2.1
 rw[hU.2.2.2] at aa
 have hz:=Wm.rM ac af
 have ai:=hU.1
 have ag:Fin (4602678819172646912+Wm.fOf r):=⟨by omega,by omega⟩
 clear ab
 go_enter Tryz.func84,Tryz.ntmps84
 go_wp2_with fail
 refine (aac n r h _).mono ?_
 rintro e' w' ⟨rfl,rfl⟩
 go_wp2_with fail
 refine (qE n (4602678819172646912+Wm.fOf r) 53 ag (by omega) (by omega) _).mono ?_
 rintro e' w' ⟨rfl,rfl⟩
 rw[ae]
 clear ae hf hM ag
 go_wp2_with fail
 refine (Tryz.bits_TrailingZeros64 U hU.2.2.1 _ (fun _=>adI hk)).mono ?_
 rintro e' w' ⟨rfl,rfl⟩
 rw[aa]
 clear aa hU ah ai
 have HD:F / 2 ^ Wm.tz M=Wm.sg n (Wm.kOf r):=by
  have e:=(Wm.fS M M (Nat.le_refl _) ac).2
  rw[x1] at e
  rw[<-hF]
  have e3:(if n then -1 else 1)*(M:Int)=Wm.sg n (Wm.kOf r)*(2:Int) ^ Wm.tz M:=by
   unfold Wm.sg
   conv=>lhs;rw[e]
   rw[Int.natCast_mul,Int.mul_assoc,Int.natCast_pow];rfl
  rw[e3,Int.mul_ediv_cancel _ (Int.ne_of_gt (Int.pow_pos (by decide)))]
 have aj:=(Wm.eT h.1 h.2).2.1
 have ap:-9007199254740992<=Wm.sg n (Wm.kOf r)/\Wm.sg n (Wm.kOf r)<=9007199254740992:=by unfold Wm.sg;cases n <;> simp <;> omega
 have aq:-2000<=Wm.xOf r/\Wm.xOf r<=2000:=by
  have:=h.2
  have:=(Wm.zV h.1 h.2).2
  unfold Wm.xOf;split <;> omega
 have HT:Hid (Wm.textF n r=Lib.itoa (Wm.sg n (Wm.kOf r))++112 :: Lib.itoa (Wm.eOf r)):=rfl
 have ar:Wm.xOf r+((Wm.tz M:Int)-53)=Wm.eOf r:=by omega
 clear x1 x2 hF aj
 generalize Wm.tz M=z at *
 go_wp2_with fail
 refine (Tryz.strconv_FormatInt_10 _ (by omega) (by omega) _ hk.2.1).mono ?_
 rintro e' w1 ⟨g1,k1,am,g2⟩;subst g1
 have ad:=zh (g2 ▸ Lib.below_grow _ _ (Nat.le_refl _) k1 am:Below w'.heap.size w' w1)
 have ak:=aX hk ad.out
 clear g2 hk
 have au:=Lib.itoa_length_le (Wm.sg n (Wm.kOf r)) (by omega) (by omega)
 have av:=Lib.itoa_length_le (Wm.eOf r) (by omega) (by omega)
 go_wp2_with fail
 refine (Tryz.strconv_Itoa _ (by omega) (by omega) _ ak.2.1).mono ?_
 rintro e' w2 ⟨g1,k2,an,g2⟩;subst g1
 have al:=zh (ad.out.trans ((g2 ▸ Lib.below_grow _ _ (Nat.le_refl _) k2 an:Below w1.heap.size w1 w2).mono ad.out.size))
 clear g2
 go_wp2_with fail
 go_ret
 refine⟨?_,al.out⟩
 rw[HT.out]
 show Ending.returned (.string ((ByteArray.mk _++ByteArray.mk #[112])++ByteArray.mk _))=_
 rw[show (#[112]:Array UInt8)=([112]:List UInt8).toArray from rfl,ByteArray.mk_append_mk,ByteArray.mk_append_mk,List.append_assoc]
 rfl
end
section
open Go.RowKit
theorem kinds (b:Nat)(hb:b<Wm.W):Wm.nan b=true\/(∃ n,b=Wm.word n 9218868437227405312)\/(∃ n r,Fin r/\b=Wm.word n r)\/(∃ n,b=Wm.word n 0):=by
 have e:=Wm.iT b hb
 cases hn:Wm.nan b
 ·right
  have hr:Wm.rung b<=9218868437227405312:=by unfold Wm.nan at hn;simpa using hn
  by_cases h1:Wm.rung b=9218868437227405312
  ·left;exact⟨Wm.neg b,by rw[<-h1];exact e⟩
  ·right
   by_cases h2:Wm.rung b=0
   ·right;exact⟨Wm.neg b,by rw[<-h2];exact e⟩
   ·left;exact⟨Wm.neg b,Wm.rung b,⟨by omega,by omega⟩,e⟩
 ·left;rfl
theorem ic (n:Bool){r:Nat}(h:Fin r):Wm.textW (Wm.word n r)=Wm.textF n r:=by
 obtain⟨_,g2,_⟩:=bF h n
 have h1:=h.1
 have h2:=h.2
 obtain⟨a1,a2,_⟩:=Wm.bc n (r:=r) (by omega)
 unfold Wm.textW
 rw[g2,a1,a2,if_neg Bool.false_ne_true,if_neg (by omega),if_neg (by omega)]
theorem aaf (w:World) :
  Calls Tryz.prog 45 #[.float .f64 9218868437227405312] w fun e w'=>e=.returned (.string ⟨#[105,110,102]⟩)/\w=w':=by
 have o1:(FloatKind.f64.format.order 9218868437227405312 9218868437227405311==some .gt)=true:=by decide +kernel
 have o2:(FloatKind.f64.format.order 9218868437227405312 18442240474082181119==some .lt)=false:=by decide +kernel
 have o3:(FloatKind.f64.format.order 9218868437227405312 0 != some .eq)=true:=by decide +kernel
 have aa:=ch
 have hn:Wm.nan 9218868437227405312=false:=by decide +kernel
 go_enter Tryz.func45,Tryz.ntmps45
 go_wp2_with fail
 refine (cJ 9218868437227405312 (by decide) _).mono ?_
 rintro e w' ⟨rfl,rfl⟩
 rw[hn]
 go_wp2_with fail
 go_ret
 exact⟨rfl,rfl⟩
theorem aag (w:World) :
  Calls Tryz.prog 45 #[.float .f64 18442240474082181120] w fun e w'=>e=.returned (.string ⟨#[45,105,110,102]⟩)/\w=w':=by
 have o1:(FloatKind.f64.format.order 18442240474082181120 9218868437227405311==some .gt)=false:=by decide +kernel
 have o2:(FloatKind.f64.format.order 18442240474082181120 18442240474082181119==some .lt)=true:=by decide +kernel
 have o3:(FloatKind.f64.format.order 18442240474082181120 0 != some .eq)=true:=by decide +kernel
 have aa:=ch
 have hn:Wm.nan 18442240474082181120=false:=by decide +kernel
 go_enter Tryz.func45,Tryz.ntmps45
 go_wp2_with fail
 refine (cJ 18442240474082181120 (by decide) _).mono ?_
 rintro e w' ⟨rfl,rfl⟩
 rw[hn]
 go_wp2_with fail
 go_ret
 exact⟨rfl,rfl⟩
theorem adJ (w:World) :
  Calls Tryz.prog 45 #[.float .f64 0] w fun e w'=>e=.returned (.string ⟨#[48]⟩)/\w=w':=by
 have o1:(FloatKind.f64.format.order 0 9218868437227405311==some .gt)=false:=by decide +kernel
 have o2:(FloatKind.f64.format.order 0 18442240474082181119==some .lt)=false:=by decide +kernel
 have o3:(FloatKind.f64.format.order 0 0 != some .eq)=false:=by decide +kernel
 have aa:=ch
 have hn:Wm.nan 0=false:=by decide +kernel
 go_enter Tryz.func45,Tryz.ntmps45
 go_wp2_with fail
 refine (cJ 0 (by decide) _).mono ?_
 rintro e w' ⟨rfl,rfl⟩
 rw[hn]
 go_wp2_with fail
 go_ret
 exact⟨rfl,rfl⟩
theorem adK (w:World) :
  Calls Tryz.prog 45 #[.float .f64 9223372036854775808] w fun e w'=>e=.returned (.string ⟨#[45,48]⟩)/\w=w':=by
 have o1:(FloatKind.f64.format.order 9223372036854775808 9218868437227405311==some .gt)=false:=by decide +kernel
 have o2:(FloatKind.f64.format.order 9223372036854775808 18442240474082181119==some .lt)=false:=by decide +kernel
 have o3:(FloatKind.f64.format.order 9223372036854775808 0 != some .eq)=false:=by decide +kernel
 have aa:=ch
 have hn:Wm.nan 9223372036854775808=false:=by decide +kernel
 go_enter Tryz.func45,Tryz.ntmps45
 go_wp2_with fail
 refine (cJ 9223372036854775808 (by decide) _).mono ?_
 rintro e w' ⟨rfl,rfl⟩
 rw[hn]
 go_wp2_with fail
 go_ret
 exact⟨rfl,rfl⟩
theorem aeA (b:Nat)(hb:b<Wm.W)(w:World)(hk:KOk w) :
  Calls Tryz.prog 45 #[.float .f64 b] w fun e w'=>e=.returned (.string ⟨(Wm.textW b).toArray⟩)/\Below w.heap.size w w':=by
 have o1:=Wm.ox b 9218868437227405311 hb (by decide)
 have o2:=Wm.ow b 18442240474082181119 hb (by decide)
 have o3:=Wm.tF b 0 hb (by decide)
 have aa:=ch
 rw[show Wm.nan 9218868437227405311=false from rfl,show Wm.sk 9218868437227405311=9218868437227405311 from rfl] at o1
 rw[show Wm.nan 18442240474082181119=false from rfl,show Wm.sk 18442240474082181119 = -9218868437227405311 from rfl] at o2
 rw[jL,lW] at o3
 rcases kinds b hb with hn | ⟨n,rfl⟩ | ⟨n,r,hf,rfl⟩ | ⟨n,rfl⟩
 ·have HV:Hid (Wm.textW b=[110,97,110]):=by show _=_;rw[Wm.textW,hn];rfl
  clear o1 o2 o3
  go_enter Tryz.func45,Tryz.ntmps45
  go_wp2_with fail
  refine (cJ b hb _).mono ?_
  rintro e w' ⟨rfl,rfl⟩
  rw[hn]
  go_wp2_with fail
  go_ret
  exact⟨by rw[HV.out];rfl,Below.refl _ _⟩
 ·cases n
  ·refine (aaf w).mono ?_
   rintro e w' ⟨rfl,rfl⟩
   exact⟨rfl,Below.refl _ _⟩
  ·refine (aag w).mono ?_
   rintro e w' ⟨rfl,rfl⟩
   exact⟨rfl,Below.refl _ _⟩
 ·have HV:=zh (ic n hf)
  obtain⟨g1,g2,g3,g4,g5⟩:=bF hf n
  rw[decide_eq_false (by omega)] at o1 o2
  rw[decide_eq_true g3] at o3
  simp only[Bool.and_false,Bool.or_true] at o1 o2 o3
  clear g3 g4 g5
  go_enter Tryz.func45,Tryz.ntmps45
  go_wp2_with fail
  refine (cJ _ hb _).mono ?_
  rintro e w' ⟨rfl,rfl⟩
  rw[g2]
  go_wp2_with fail
  refine (vE n r hf _ hk).mono ?_
  rintro e w' ⟨g1,g2⟩;subst g1
  go_wp2_with fail
  go_ret
  exact⟨by rw[HV.out];rfl,g2⟩
 ·cases n
  ·refine (adJ w).mono ?_
   rintro e w' ⟨rfl,rfl⟩
   exact⟨rfl,Below.refl _ _⟩
  ·refine (adK w).mono ?_
   rintro e w' ⟨rfl,rfl⟩
   exact⟨rfl,Below.refl _ _⟩
def lastOdd (l:List UInt8):Bool:=(((l.getLast?.getD 0).toNat:Int)-48) % 2==1
theorem aah (l:List UInt8)(h:l≠[])(hl:l.length<=1000)(w:World) :
  Calls Tryz.prog 271 #[.string ⟨l.toArray⟩] w fun e w'=>e=.returned (.bool (lastOdd l))/\w=w':=by
 have ab:0<l.length:=List.length_pos_iff.2 h
 obtain⟨c,hc,aa⟩:=byte_at l (l.length-1) (by omega)
 have HL:Hid (lastOdd l=(((c.toNat:Int)-48) % 2==1)):=by
  show _=_
  rw[lastOdd,List.getLast?_eq_some_getLast h,List.getLast_eq_getElem,aa];rfl
 clear aa
 go_enter Tryz.func271,Tryz.ntmps271
 go_wp2_with fail
 go_ret
 exact⟨by rw[HL.out];rfl,rfl⟩
theorem j9 (l:List UInt8)(_hl:l.length<=1000)(w:World) :
  Calls Tryz.prog 270 #[.string ⟨l.toArray⟩] w fun e w'=>e=.returned (.bool (Wm.decB l))/\Below w.heap.size w w':=by
 have HB:Hid (Wm.decB l=if (Wm.mgn l).isEmpty||(Wm.mgn l).head? == some 48 then l==[48] else (Vm.undigs (Wm.mgn l)).isEmpty):=rfl
 have hd:=Wm.aex l
 go_enter Tryz.func270,Tryz.ntmps270
 go_wp2_with fail
 refine (Tryz.strings_TrimPrefix _ _ _).mono ?_
 rintro e w' ⟨g1,g2⟩;subst g1 g2
 rw[show Lib.trimPrefix (ByteArray.data ⟨l.toArray⟩).toList (ByteArray.data ⟨#[45]⟩).toList=Wm.mgn l from Wm.aew l]
 generalize Wm.mgn l=d at *
 by_cases h0:d=[]
 ·subst h0
  have HV:Hid (Wm.decB l=(l==[48])):=by show _=_;rw[HB.out];rfl
  clear HB
  go_wp2_with fail
  go_ret
  exact⟨by rw[HV.out];rfl,Below.refl _ _⟩
 ·have aa:0<d.length:=List.length_pos_iff.2 h0
  have he:d.isEmpty=false:=by cases d <;> simp at *
  obtain⟨c,hc,ac⟩:=byte_at d 0 aa
  have hh:(d.head? == some 48)=((c.toNat:Int)==48):=by
   cases d with
   | nil=>exact absurd rfl h0
   | cons x t =>
    have:x=c:=ac
    subst this
    rw[Bool.eq_iff_iff]
    simp only[List.head?_cons,beq_iff_eq,Option.some.injEq]
    exact⟨fun h=>by rw[h];rfl,fun h=>UInt8.toNat.inj (show x.toNat=48 by omega)⟩
  rw[he,hh,Bool.false_or] at HB
  clear ac hh h0
  cases ab:((c.toNat:Int)==48)
  ·have HV:Hid (Wm.decB l=(Vm.undigs d).isEmpty):=by show _=_;rw[HB.out,ab];rfl
   clear HB
   go_wp2_with fail
   refine (iL d _).mono ?_
   rintro e w1 ⟨g1,g2⟩;subst g1
   obtain⟨u,hu⟩:=ex (Vm.undigs d)
   rw[hu] at HV
   rw[hu]
   have HD:=zh g2
   clear hu g2
   go_wp2_with fail
   go_ret
   exact⟨by rw[HV.out];rfl,HD.out⟩
  ·have HV:Hid (Wm.decB l=(l==[48])):=by show _=_;rw[HB.out,ab];rfl
   clear HB
   go_wp2_with fail
   go_ret
   exact⟨by rw[HV.out];rfl,Below.refl _ _⟩
theorem oG (l:List UInt8)(hl:l.length<=1000)(hp:Wm.plain (Wm.mgn l))(w:World)(hk:KOk w) :
  Calls Tryz.prog 272 #[.string ⟨l.toArray⟩] w fun e w'=>e=.returned (.int .i64 (Wm.nmb l))/\Below w.heap.size w w':=by
 obtain⟨tp,p,hv⟩:=hk.2.2.2
 have aa:=Wm.aad l hp
 generalize Wm.nmb l=v at *
 rcases aa with h1 | ⟨h1,h2⟩
 ·go_enter Tryz.func272,Tryz.ntmps272
  go_wp2_with fail
  refine (Tryz.strconv_ParseInt_10_at64_ok ⟨l.toArray⟩ (by show l.toArray.size<=_;simp;omega) v h1 _).mono ?_
  rintro e w1 ⟨g1,g2⟩;subst g1
  go_wp2_with fail
  go_ret
  refine⟨rfl,?_⟩
  rcases g2 with rfl | ⟨t,rfl⟩
  ·exact Below.refl _ _
  ·exact Lib.bytesWorld_below _ _ _
 ·go_enter Tryz.func272,Tryz.ntmps272
  go_wp2_with fail
  refine (Tryz.strconv_ParseInt_10_at64_range_var ⟨l.toArray⟩ (by show l.toArray.size<=_;simp;omega) h1 tp p _ hv).mono ?_
  rintro e w1 ⟨N,g1,g2,g3,g4⟩;subst g1
  rw[show Lib.intSat 64 (ByteArray.data ⟨l.toArray⟩).toList=v from h2]
  go_wp2_with fail
  go_ret
  exact⟨rfl,g4⟩
end
section
open Go.RowKit
namespace Wm
theorem ym {k:Nat}(h:0<k)(h2:k<2 ^ 53):Lib.bitLen k=k.log2+1:=by
 obtain⟨b1,b2,b3⟩:=Lib.bitLenAux_bounds 64 k (by omega) (by omega)
 unfold Lib.bitLen
 generalize Lib.bitLenAux 64 k=m at *
 have:=pI (l:=m-1) b2 (by rwa [show m-1+1=m from by omega])
 omega
def rangeOk (F P:Int):Bool:=decide (-9007199254740992<F)&&(decide (F<9007199254740992)&&(decide (-1074<=P)&&decide (P<=1024-((F.natAbs.log2+1:Nat):Int))))
theorem oH {F P:Int}(h:F<=-9007199254740992):rangeOk F P=false:=by
 have:¬ -9007199254740992<F:=by omega
 simp[rangeOk,this]
theorem oI {F P:Int}(h:9007199254740992<=F):rangeOk F P=false:=by
 have:¬ F<9007199254740992:=by omega
 simp[rangeOk,this]
theorem iB {F P:Int}(h:-9007199254740992<F)(h2:F<9007199254740992):rangeOk F P=(decide (-1074<=P)&&decide (P<=1024-((F.natAbs.log2+1:Nat):Int))):=by
 simp[rangeOk,h,h2]
def prodVal (F P:Int):Nat:=word (decide (F<0)) (rungOf F.natAbs P)
end Wm
def formOk (l:List UInt8):Bool:=Vm.has 112 l&&(Wm.decB (Vm.fst 112 l)&&(Wm.decB (Vm.snd 112 l)&&lastOdd (Vm.fst 112 l)))
def prodErr (l:List UInt8):Int:=if formOk l then (if Wm.rangeOk (Wm.nmb (Vm.fst 112 l)) (Wm.nmb (Vm.snd 112 l)) then 0 else 8) else 2
def prodOf (l:List UInt8):Nat:=if prodErr l=0 then Wm.prodVal (Wm.nmb (Vm.fst 112 l)) (Wm.nmb (Vm.snd 112 l)) else 0
def prodEnd (l:List UInt8):Ending:=if prodErr l=0 then .returned (.float .f64 (prodOf l)) else pan (prodErr l)
theorem aai (l:List UInt8)(hd:Wm.decB l=true)(ho:lastOdd l=true):Wm.nmb l % 2=1\/Wm.nmb l = -9223372036854775808:=by
 obtain⟨⟨h1,h2,_⟩,_⟩:=(Wm.jM l).1 hd
 have hm:Wm.mgn l=l\/Wm.mgn l=l.drop 1:=by unfold Wm.mgn;split <;> simp
 have aa:l.getLast? = (Wm.mgn l).getLast?:=by
  rcases hm with h | h
  ·rw[h]
  ·rw[h] at h1 ⊢
   cases l with
   | nil=>rfl
   | cons c t =>
    cases t with
    | nil=>exact absurd rfl h1
    | cons d t=>rfl
 have e:=Wm.tM (Wm.mgn l) h1
 unfold lastOdd at ho
 rw[aa,List.getLast?_eq_some_getLast h1] at ho
 have ab:Vm.dig ((Wm.mgn l).getLast h1)=true:=by rw[List.all_eq_true] at h2;exact h2 _ (List.getLast_mem h1)
 rw[Wm.fU] at ab
 have ac:((((Wm.mgn l).getLast h1).toNat:Int)-48) % 2=1:=by simpa using ho
 unfold Wm.nmb
 split <;> split <;> omega
theorem oJ (l:List UInt8):-9223372036854775808<=Wm.nmb l/\Wm.nmb l<=9223372036854775807:=by
 unfold Wm.nmb;split <;> split <;> omega
theorem lQ (l:List UInt8)(c:UInt8):(Vm.fst c l).length<=l.length/\(Vm.snd c l).length<=l.length:=⟨fb l c,iM c l⟩
theorem m7 (l:List UInt8)(hl:l.length<=1000)(w:World)(hk:KOk w) :
  Calls Tryz.prog 241 #[.string ⟨l.toArray⟩] w fun e w'=>e=prodEnd l/\Below w.heap.size w w':=by
 have HE:Hid (prodEnd l=if prodErr l=0 then .returned (.float .f64 (prodOf l)) else pan (prodErr l)):=rfl
 have HO:Hid (prodOf l=if prodErr l=0 then Wm.prodVal (Wm.nmb (Vm.fst 112 l)) (Wm.nmb (Vm.snd 112 l)) else 0):=rfl
 have HR:Hid (prodErr l=if formOk l then (if Wm.rangeOk (Wm.nmb (Vm.fst 112 l)) (Wm.nmb (Vm.snd 112 l)) then 0 else 8) else 2):=rfl
 have HF:Hid (formOk l=(Vm.has 112 l&&(Wm.decB (Vm.fst 112 l)&&(Wm.decB (Vm.snd 112 l)&&lastOdd (Vm.fst 112 l))))):=rfl
 have ad:formOk l=false->prodEnd l=pan 2:=fun h=>by rw[HE.out,HR.out,h];rfl
 have HB:=zh ad
 clear ad
 obtain⟨la,lb⟩:=lQ l 112
 cases hh:Vm.has 112 l
 ·have HV:Hid (prodEnd l=pan 2):=HB.out (by rw[HF.out,hh];rfl)
  go_enter Tryz.func241,Tryz.ntmps241
  go_wp2_with fail
  refine (nL l 112 _ hk.1 (by omega) hh).mono ?_
  rintro e w1 ⟨g1,g2⟩;subst g1
  have HD:Hid (Below w.heap.size w w1):=by obtain⟨n,rfl⟩:=g2;exact below_drewN (Below.refl _ _) n
  clear g2 hh
  go_wp2_with fail
  refine (ao _).mono ?_
  rintro e w2 ⟨g1,g2⟩;subst g2;subst g1
  go_wp2_with fail
  exact⟨rfl,HV.out.symm,HD.out⟩
 ·have hcut:=fun W h=>lN l 112 W h (by omega) hh
  rw[hh] at HF
  generalize Vm.fst 112 l=bf at *
  generalize Vm.snd 112 l=af at *
  clear hh
  go_enter Tryz.func241,Tryz.ntmps241
  go_wp2_with fail
  refine (hcut _ hk.1).mono ?_
  rintro e w1 ⟨g1,g2⟩;subst g1
  have HD:Hid (Below w.heap.size w w1):=by obtain⟨n,rfl⟩:=g2;exact below_drewN (Below.refl _ _) n
  have ar:=aX hk HD.out
  clear g2 hk hcut
  go_wp2_with fail
  refine (j9 bf (by omega) _).mono ?_
  rintro e w2 ⟨g1,g2⟩;subst g1
  have ak:=zh (bt HD.out g2)
  have au:=aX ar g2
  clear g2 ar HD
  cases ab:Wm.decB bf
  ·have HV:Hid (prodEnd l=pan 2):=HB.out (by rw[HF.out,ab];rfl)
   clear ab
   go_wp2_with fail
   refine (ao _).mono ?_
   rintro e w3 ⟨g1,g2⟩;subst g2;subst g1
   go_wp2_with fail
   exact⟨rfl,HV.out.symm,ak.out⟩
  ·go_wp2_with fail
   refine (j9 af (by omega) _).mono ?_
   rintro e w3 ⟨g1,g2⟩;subst g1
   have ah:=zh (bt ak.out g2)
   have al:=aX au g2
   clear g2 au ak
   cases ac:Wm.decB af
   ·have HV:Hid (prodEnd l=pan 2):=HB.out (by rw[HF.out,ab,ac];rfl)
    clear ab ac
    go_wp2_with fail
    refine (ao _).mono ?_
    rintro e w4 ⟨g1,g2⟩;subst g2;subst g1
    go_wp2_with fail
    exact⟨rfl,HV.out.symm,ah.out⟩
   ·have am:=((Wm.jM bf).1 ab).1
    have av:=((Wm.jM af).1 ac).1
    have aw:bf≠[]:=fun h=>am.1 (by rw[h];rfl)
    have ax:=zh am
    have ay:=zh av
    have az:=zh aw
    clear am av aw
    go_wp2_with fail
    refine (aah bf az.out (by omega) _).mono ?_
    rintro e w4 ⟨g1,g2⟩;subst g2;subst g1
    cases ho:lastOdd bf
    ·have HV:Hid (prodEnd l=pan 2):=HB.out (by rw[HF.out,ab,ac,ho];rfl)
     clear ab ac ho
     go_wp2_with fail
     refine (ao _).mono ?_
     rintro e w4 ⟨g1,g2⟩;subst g2;subst g1
     go_wp2_with fail
     exact⟨rfl,HV.out.symm,ah.out⟩
    ·have aE:Hid (formOk l=true):=by show _=_;rw[HF.out,ab,ac,ho];rfl
     rw[aE.out] at HR
     have aA:=zh (aai bf ab ho)
     clear ab ac ho HF HB
     go_wp2_with fail
     refine (aj _).mono ?_
     rintro e w4 ⟨g1,g2⟩;subst g2;subst g1
     go_wp2_with fail
     refine (oG bf (by omega) ax.out _ al).mono ?_
     rintro e w4 ⟨g1,g2⟩;subst g1
     have aB:=zh (bt ah.out g2)
     have aC:=aX al g2
     clear g2 al ah
     go_wp2_with fail
     refine (oG af (by omega) ay.out _ aC).mono ?_
     rintro e w5 ⟨g1,g2⟩;subst g1
     have ae:=zh (bt aB.out g2)
     clear g2 aC aB ax ay az
     have hF:=oJ bf
     have hP:=oJ af
     generalize Wm.nmb bf=F at *
     generalize Wm.nmb af=P at *
     have aD:Hid (prodErr l=if Wm.rangeOk F P then 0 else 8):=by show _=_;rw[HR.out];rfl
     have ai:Hid (Wm.rangeOk F P=false->prodEnd l=pan 8):=by
      show _->_
      intro h
      rw[HE.out,aD.out,h];rfl
     clear HR
     by_cases c1:F<=-9007199254740992
     ·have HV:Hid (prodEnd l=pan 8):=ai.out (Wm.oH c1)
      go_wp2_with fail
      refine (ao _).mono ?_
      rintro e w6 ⟨g1,g2⟩;subst g2;subst g1
      go_wp2_with fail
      exact⟨rfl,HV.out.symm,ae.out⟩
     by_cases c2:9007199254740992<=F
     ·have HV:Hid (prodEnd l=pan 8):=ai.out (Wm.oI c2)
      go_wp2_with fail
      rw[show decide (F<9007199254740992)=false from decide_eq_false (by omega)]
      refine (ao _).mono ?_
      rintro e w6 ⟨g1,g2⟩;subst g2;subst g1
      go_wp2_with fail
      exact⟨rfl,HV.out.symm,ae.out⟩
     have aF:F % 2=1:=by rcases aA.out with h | h <;> omega
     have ag:0<F.natAbs:=by omega
     have aa:F.natAbs<2 ^ 53:=by omega
     have aG:=zh (Wm.ym ag aa)
     have aK:=Wm.bZ ag aa
     have an:max F (-F)=((F.natAbs:Nat):Int):=by omega
     have ap:Hid (Wm.rangeOk F P=(decide (-1074<=P)&&decide (P<=1024-((F.natAbs.log2+1:Nat):Int)))):=Wm.iB (by omega) (by omega)
     clear aA
     have aL:-9007199254740992<F:=by omega
     have aM:F<9007199254740992:=by omega
     clear c1 c2
     go_wp2_with fail
     refine (aj _).mono ?_
     rintro e w6 ⟨g1,g2⟩;subst g2;subst g1
     go_wp2_with fail
     refine (Tryz.bits_Len64 _ _ (by omega) (by omega)).mono ?_
     rintro e w6 ⟨g1,g2⟩;subst g2;subst g1
     rw[show ((F.natAbs:Nat):Int).toNat=F.natAbs from rfl,aG.out]
     clear an
     by_cases p1:P < -1074
     ·have HV:Hid (prodEnd l=pan 8):=ai.out (by rw[ap.out,decide_eq_false (by omega)];rfl)
      go_wp2_with fail
      refine (ao _).mono ?_
      rintro e w7 ⟨g1,g2⟩;subst g2;subst g1
      go_wp2_with fail
      exact⟨rfl,HV.out.symm,ae.out⟩
     by_cases p2:1024-((F.natAbs.log2+1:Nat):Int)<P
     ·have HV:Hid (prodEnd l=pan 8):=ai.out (by rw[ap.out,decide_eq_false (show ¬ P<=1024-((F.natAbs.log2+1:Nat):Int) by omega),Bool.and_false])
      go_wp2_with fail
      rw[show decide (P<=1024-((F.natAbs.log2:Int)+1))=false from decide_eq_false (by omega)]
      refine (ao _).mono ?_
      rintro e w7 ⟨g1,g2⟩;subst g2;subst g1
      go_wp2_with fail
      exact⟨rfl,HV.out.symm,ae.out⟩
     have HZ:Hid (prodErr l=0):=by show _=_;rw[aD.out,ap.out,decide_eq_true (show -1074<=P by omega),decide_eq_true (show P<=1024-((F.natAbs.log2+1:Nat):Int) by omega)];rfl
     have HV:Hid (prodEnd l=.returned (.float .f64 (Wm.prodVal F P))):=by show _=_;rw[HE.out,HO.out,if_pos HZ.out,if_pos HZ.out]
     have aH:FloatKind.f64.nearest F=Wm.word (decide (F<0)) (Wm.rungOf F.natAbs 0):=Wm.ab8 F (by omega) aa
     have aI:=Wm.rung0 ag aa
     have aJ:=Wm.kX (e:=0) ag aa (by omega)
     have hx:=Wm.zW (decide (F<0)) ag aa (show -1074<=P by omega) (by omega)
     have aq:Fin (Wm.rungOf F.natAbs 0):=aJ
     go_wp2_with fail
     rw[show decide (P<=1024-((F.natAbs.log2:Int)+1))=true from decide_eq_true (by omega)]
     refine (aj _).mono ?_
     rintro e w7 ⟨g1,g2⟩;subst g2;subst g1
     go_wp2_with fail
     rw[show floatOfInt .f64 F=Wm.word (decide (F<0)) (Wm.rungOf F.natAbs 0) from aH]
     refine (qE (decide (F<0)) (Wm.rungOf F.natAbs 0) P aq aI.2.2 (by omega) _).mono ?_
     rintro e w8 ⟨g1,g2⟩;subst g2;subst g1
     rw[hx]
     go_wp2_with fail
     go_ret
     exact⟨by rw[HV.out];rfl,ae.out⟩
end
section
open Go.RowKit
def litW (l:List UInt8):Option Nat :=
 if l=[105,110,102] then some 9218868437227405312 else if l=[45,105,110,102] then some 18442240474082181120
 else if l=[110,97,110] then some 9221120237041090561 else if l=[48] then some 0 else if l=[45,48] then some 9223372036854775808 else none
def errW (l:List UInt8):Int:=if (litW l).isSome then 0 else prodErr l
def valW (l:List UInt8):Nat:=(litW l).getD (prodOf l)
theorem lg (l:List UInt8):l=[105,110,102]\/l=[45,105,110,102]\/l=[110,97,110]\/l=[48]\/l=[45,48] \/
  ((l==[105,110,102])=false/\(l==[45,105,110,102])=false/\(l==[110,97,110])=false/\(l==[48])=false/\(l==[45,48])=false/\errW l=prodErr l/\valW l=prodOf l):=by
 by_cases h1:l=[105,110,102]
 ·exact Or.inl h1
 by_cases h2:l=[45,105,110,102]
 ·exact Or.inr (Or.inl h2)
 by_cases h3:l=[110,97,110]
 ·exact Or.inr (Or.inr (Or.inl h3))
 by_cases h4:l=[48]
 ·exact Or.inr (Or.inr (Or.inr (Or.inl h4)))
 by_cases h5:l=[45,48]
 ·exact Or.inr (Or.inr (Or.inr (Or.inr (Or.inl h5))))
 have hl:litW l=none:=by unfold litW;rw[if_neg h1,if_neg h2,if_neg h3,if_neg h4,if_neg h5]
 refine Or.inr (Or.inr (Or.inr (Or.inr (Or.inr ⟨?_,?_,?_,?_,?_,?_,?_⟩))))
 ·exact beq_eq_false_iff_ne.2 h1
 ·exact beq_eq_false_iff_ne.2 h2
 ·exact beq_eq_false_iff_ne.2 h3
 ·exact beq_eq_false_iff_ne.2 h4
 ·exact beq_eq_false_iff_ne.2 h5
 ·unfold errW;rw[hl];rfl
 ·unfold valW;rw[hl];rfl
def parseEnd (l:List UInt8):Ending:=if errW l=0 then .returned (.float .f64 (valW l)) else pan (errW l)
theorem oK (l:List UInt8)(hl:l.length<=1000)(w:World)(hk:KOk w) :
  Calls Tryz.prog 211 #[.string ⟨l.toArray⟩] w fun e w'=>e=parseEnd l/\Below w.heap.size w w':=by
 rcases lg l with rfl | rfl | rfl | rfl | rfl | ⟨h1,h2,h3,h4,h5,he,hv⟩
 ·go_enter Tryz.func211,Tryz.ntmps211
  go_wp2_with fail
  refine (pJ _ _).mono ?_
  rintro e w1 ⟨g1,g2⟩;subst g2;subst g1
  go_wp2_with fail
  go_ret
  exact⟨rfl,Below.refl _ _⟩
 ·go_enter Tryz.func211,Tryz.ntmps211
  go_wp2_with fail
  refine (pJ _ _).mono ?_
  rintro e w1 ⟨g1,g2⟩;subst g2;subst g1
  go_wp2_with fail
  go_ret
  exact⟨rfl,Below.refl _ _⟩
 ·go_enter Tryz.func211,Tryz.ntmps211
  go_wp2_with fail
  refine (adx _).mono ?_
  rintro e w1 ⟨g1,g2⟩;subst g2;subst g1
  go_wp2_with fail
  go_ret
  exact⟨rfl,Below.refl _ _⟩
 ·go_enter Tryz.func211,Tryz.ntmps211
  go_wp2_with fail
  go_ret
  exact⟨rfl,Below.refl _ _⟩
 ·go_enter Tryz.func211,Tryz.ntmps211
  go_wp2_with fail
  refine (k9 _ _ (by decide) (by decide) _).mono ?_
  rintro e w1 ⟨g1,g2⟩;subst g2;subst g1
  go_wp2_with fail
  go_ret
  exact⟨rfl,Below.refl _ _⟩
 ·have HV:Hid (parseEnd l=prodEnd l):=by show _=_;unfold parseEnd prodEnd;rw[he,hv]
  clear he hv
  go_enter Tryz.func211,Tryz.ntmps211
  go_wp2_with fail
  refine (m7 l hl _ hk).mono ?_
  rintro e w1 ⟨g1,g2⟩;subst g1
  by_cases h0:prodErr l=0
  ·have e1:prodEnd l=.returned (.float .f64 (prodOf l)):=if_pos h0
   rw[e1] at HV
   rw[e1]
   clear e1 h0
   go_wp2_with fail
   go_ret
   exact⟨HV.out.symm,g2⟩
  ·have e1:prodEnd l=pan (prodErr l):=if_neg h0
   rw[e1] at HV
   rw[e1]
   clear e1 h0
   go_wp2_with fail
   exact⟨rfl,HV.out.symm,g2⟩
theorem yn (l:List UInt8)(hl:l.length<=1000)(w:World)(hk:KOk w)(h:errW l=0) :
  Calls Tryz.prog 211 #[.string ⟨l.toArray⟩] w fun e w'=>e=.returned (.float .f64 (valW l))/\Below w.heap.size w w':=by
 have:=oK l hl w hk
 unfold parseEnd at this
 rwa [if_pos h] at this
theorem aaj (l:List UInt8)(hl:l.length<=1000)(w:World)(hk:KOk w)(h:errW l≠0) :
  Calls Tryz.prog 211 #[.string ⟨l.toArray⟩] w fun e w'=>e=pan (errW l)/\Below w.heap.size w w':=by
 have:=oK l hl w hk
 unfold parseEnd at this
 rwa [if_neg h] at this
theorem tO (p:Addr)(x:Int)(n:Int)(w:World)(hc:w.cell? p=some (.int .i64 x))(hz:w.frozen? p=false) :
  CallsD Tryz.prog 210 #[.pointer (some p)] (.panicking [{ v:=.iface 36 (.int .i64 n),recovered:=false }]) w fun e u' w' =>
   e=.returned (.tuple #[])/\u'=.panicking [{ v:=.iface 36 (.int .i64 n),recovered:=true }]/\w'=w.setCell p (.int .i64 n):=by
 refine callsD_of_wpS Tryz.func210 rfl fun c₀ cs hu=>?_
 apply wpS_region
 simp[wpOpsS,go_sem,recoverD,hu,Tryz.ntmps210]
 refine (cO n _).mono ?_
 rintro e w' ⟨rfl,rfl⟩
 simp[go_sem,hc,hz,bodyPostS,results,Tryz.results210]
theorem vF (p:Addr)(x:Int)(w:World)(hc:w.cell? p=some (.int .i64 x))(hz:w.frozen? p=false) :
  CallsD Tryz.prog 210 #[.pointer (some p)] .returning w fun e u' w'=>e=.returned (.tuple #[])/\u'=.returning/\w'=w.setCell p (.int .i64 0):=by
 refine callsD_of_wpS Tryz.func210 rfl fun c₀ cs hu=>?_
 apply wpS_region
 simp[wpOpsS,go_sem,recoverD,hu,Tryz.ntmps210]
 refine (cN _).mono ?_
 rintro e w' ⟨rfl,rfl⟩
 cases c₀
 simp_all [go_sem,bodyPostS,results,Tryz.results210]
def outW (l:List UInt8):Nat:=if errW l=0 then valW l else 0
theorem adL (l:List UInt8)(hl:l.length<=1000)(w:World)(hw:KOk w) :
  Calls Tryz.prog 178 #[.string ⟨l.toArray⟩] w fun e w'=>e=.returned (.tuple #[.float .f64 (outW l),.int .i64 (errW l)])/\Below w.heap.size w w':=by
 have af:∀ (fn:Fn) (first cap:Array Value) (w:World),(Instr.makeFunc fn first cap).run Tryz.prog w=.ok (.func fn first cap) w:=fun _ _ _ _=>rfl
 have hM:KOk (w.alloc (.cells #[.int .i64 0] 36)):=aX hw ((Below.refl _ _).alloc (Nat.le_refl _) _)
 have HM:=zh hM
 clear hw hM
 by_cases h:errW l=0
 ·have H:=zh h
  have HC:Hid (outW l=valW l):=by show _=_;rw[outW,if_pos h]
  clear h
  go_enter_defers Tryz.func178,Tryz.ntmps178
  go_wp2_with fail
  refine (yn l hl _ HM.out H.out).mono ?_
  rintro e w2 ⟨rfl,hb⟩
  have ac:Below (w.heap.size+1) (w.alloc (.cells #[.int .i64 0] 36)) w2:=by simpa using hb
  obtain⟨aa,ab⟩:=bw w w2 _ _ ac
  have ae:=zh ac
  clear hb ac
  go_wp2_with fail
  refine leaves_cons (f:=210) (args:=#[.pointer (some ⟨w.heap.size,0,none⟩)]) (by simp) (by simp[go_sem]) ?_
  refine (vF ⟨w.heap.size,0,none⟩ 0 _ ?_ ?_).mono ?_
  ·simp[go_sem,aa]
  ·simp[go_sem,ab]
  rintro e u' w3 ⟨rfl,rfl,rfl⟩
  simp[Leaves,settle,results,Tryz.results178,go_sem,aa]
  exact⟨⟨by rw[HC.out],H.out.symm⟩,((bo ae.out).setCell (Nat.le_refl _) _).setCell (Nat.le_refl _) _⟩
 ·have H:=zh h
  have HC:Hid (outW l=0):=by show _=_;rw[outW,if_neg h]
  clear h
  go_enter_defers Tryz.func178,Tryz.ntmps178
  go_wp2_with fail
  refine (aaj l hl _ HM.out H.out).mono ?_
  rintro e w1 ⟨rfl,hb⟩
  have ad:Below (w.heap.size+1) (w.alloc (.cells #[.int .i64 0] 36)) w1:=by simpa using hb
  obtain⟨aa,ab⟩:=bw w w1 _ _ ad
  have HB:=zh ad
  clear hb ad
  go_wp2_with fail
  refine leaves_cons (f:=210) (args:=#[.pointer (some ⟨w.heap.size,0,none⟩)]) (by simp) (by simp[go_sem]) ?_
  refine (tO ⟨w.heap.size,0,none⟩ 0 _ _ ?_ ?_).mono ?_
  ·simp[go_sem,aa]
  ·simp[go_sem,ab]
  rintro e u' w2 ⟨rfl,rfl,rfl⟩
  simp[Leaves,settle,results,Tryz.results178,go_sem,aa]
  exact⟨by rw[HC.out],(bo HB.out).setCell (Nat.le_refl _) _⟩
end
end Go.Proofs.YtpfkphmldalmmaaGreatDoor
