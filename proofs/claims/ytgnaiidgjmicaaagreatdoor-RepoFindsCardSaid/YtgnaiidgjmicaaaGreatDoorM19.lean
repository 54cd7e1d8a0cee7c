/- Part 19 of what the laws lean on. -/
import Derived.Test.YtgnaiidgjmicaaaGreatDoorM18
import Derived.Lib.AppendIntMem
import Derived.Lib.ItoaLen
set_option maxRecDepth 100000
set_option maxHeartbeats 4000000
namespace Go.Proofs.YtgnaiidgjmicaaaGreatDoor
namespace Wm
open Go.Lib
theorem adb (l:List UInt8)(c:UInt8):Vm.num (l++[c])=10*Vm.num l+(c.toNat-48):=by
 unfold Vm.num;rw[List.foldl_append];rfl
theorem pG (c:UInt8):Vm.dig c=true↔48<=c.toNat/\c.toNat<=57:=by unfold Vm.dig;simp
def plain (l:List UInt8):Prop:=l≠[]/\l.all Vm.dig=true/\(l.head? = some 48->l=[48])
theorem ade (l:List UInt8)(h:l≠[]):Vm.num l % 2=((l.getLast h).toNat-48) % 2:=by
 obtain⟨m,c,rfl⟩:∃ m c,l=m++[c]:=⟨l.dropLast,l.getLast h,(List.dropLast_concat_getLast h).symm⟩
 rw[adb,List.getLast_concat];omega
theorem jh:∀ (l:List UInt8) (acc:Nat),l.all Vm.dig=true->acc<=18446744073709551615 ->
  parseUintM 18446744073709551615 acc l=if l.foldl (fun n c=>10*n+(c.toNat-48)) acc<=18446744073709551615 then .ok (l.foldl (fun n c=>10*n+(c.toNat-48)) acc) else .range
 | [],acc,_,h=>by simp[parseUintM,h]
 | c :: l,acc,h,ha=>by
  simp only[List.all_cons,Bool.and_eq_true] at h
  have hc:=(pG c).1 h.1
  have mono:∀ (l:List UInt8) (a:Nat),a<=l.foldl (fun n c=>10*n+(c.toNat-48)) a:=fun l=>by
   induction l with
   | nil=>intro a;exact Nat.le_refl _
   | cons c l ih=>intro a;rw[List.foldl_cons];exact Nat.le_trans (by omega) (ih _)
  have hm:=mono l (10*acc+(c.toNat-48))
  rw[List.foldl_cons]
  unfold parseUintM
  rw[if_pos hc,show acc*10+(c.toNat-48)=10*acc+(c.toNat-48) from by omega]
  by_cases c1:10*acc+(c.toNat-48)<=18446744073709551615
  ·rw[if_neg (by omega),if_neg (by omega)]
   exact jh l _ h.2 c1
  ·rw[if_neg (show ¬ l.foldl (fun n c=>10*n+(c.toNat-48)) (10*acc+(c.toNat-48))<=18446744073709551615 by omega)]
   split
   ·rfl
   ·rw[if_pos (by omega)]
def sgnd (l:List UInt8):Bool:=l.head? == some 45
def mgn (l:List UInt8):List UInt8:=if sgnd l then l.drop 1 else l
def decOk (l:List UInt8):Prop:=plain (mgn l)/\(mgn l=[48]->sgnd l=false)
def nmb (l:List UInt8):Int :=
 if sgnd l then (if Vm.num (mgn l)<=9223372036854775808 then -(Vm.num (mgn l):Int) else -9223372036854775808)
 else (if Vm.num (mgn l)<9223372036854775808 then (Vm.num (mgn l):Int) else 9223372036854775807)
theorem aa3 (l:List UInt8)(h:plain (mgn l)):parseIntB 64 l=.ok (nmb l)\/(parseIntB 64 l=.range/\intSat 64 l=nmb l):=by
 obtain⟨h1,h2,_⟩:=h
 have hu:=jh (mgn l) 0 h2 (by omega)
 have hB:parseUintB 64 (mgn l)=if Vm.num (mgn l)<=18446744073709551615 then .ok (Vm.num (mgn l)) else .range:=by
  unfold parseUintB;rw[if_neg h1];exact hu
 clear hu
 unfold nmb
 cases l with
 | nil=>exact absurd rfl h1
 | cons c r =>
  have aa:(45:UInt8).toNat=45:=rfl
  by_cases hc:c=45
  ·have hs:sgnd (c :: r)=true:=by unfold sgnd;rw[hc];rfl
   have hm:mgn (c :: r)=r:=by unfold mgn;rw[hs];rfl
   rw[hm] at hB ⊢
   rw[hs]
   unfold parseIntB intSat
   subst hc
   simp only[aa,or_true,if_true,hB]
   by_cases g1:Vm.num r<=18446744073709551615
   ·simp only[if_pos g1]
    by_cases g2:Vm.num r<=9223372036854775808
    ·left
     rw[if_neg (by simp),if_neg (by simp;omega)]
     simp[g2]
    ·right
     rw[if_neg (by simp),if_pos (by simp;omega)]
     simp[g2]
   ·right
    simp only[if_neg g1]
    simp;omega
  ·have hs:sgnd (c :: r)=false:=by unfold sgnd;simp[hc]
   have hm:mgn (c :: r)=c :: r:=by unfold mgn;rw[hs];rfl
   rw[hm] at hB h2 ⊢
   rw[hs]
   have hd:Vm.dig c=true:=by simp only[List.all_cons,Bool.and_eq_true] at h2;exact h2.1
   rw[pG] at hd
   unfold parseIntB intSat
   simp only[List.head?_cons,Option.map_some,Option.some.injEq]
   rw[if_neg (show ¬ (c.toNat=43\/c.toNat=45) by omega),hB,if_neg (show ¬ c.toNat=45 by omega)]
   by_cases g1:Vm.num (c :: r)<=18446744073709551615
   ·simp only[if_pos g1]
    by_cases g2:Vm.num (c :: r)<9223372036854775808
    ·left
     rw[if_neg (by simp;omega),if_neg (by simp;omega),if_neg (show ¬ c.toNat=45 by omega)]
     simp[g2]
    ·right
     rw[if_pos (by simp;omega)]
     simp[g2]
   ·right
    simp only[if_neg g1]
    simp;omega
theorem afK (l:List UInt8):Lib.trimPrefix l [45]=mgn l:=by
 unfold Lib.trimPrefix mgn sgnd Lib.hasPrefix
 cases l with
 | nil=>rfl
 | cons c t =>
  by_cases hc:c=45
  ·subst hc;rfl
  ·have h1:(List.isPrefixOf [45] (c :: t))=false:=by simp[List.isPrefixOf];exact fun h=>hc h.symm
   rw[h1];simp[hc]
theorem afL (l:List UInt8):(mgn l).length<=l.length:=by
 unfold mgn;split
 ·rw[List.length_drop];omega
 ·exact Nat.le_refl _
def decB (l:List UInt8):Bool:=if (mgn l).isEmpty||(mgn l).head? == some 48 then l==[48] else (Vm.undigs (mgn l)).isEmpty
theorem ou (l:List UInt8):(Vm.undigs l).isEmpty=true↔l.all Vm.dig=true:=by
 unfold Vm.undigs
 induction l with
 | nil=>simp
 | cons c t ih =>
  rw[List.dropWhile_cons,List.all_cons]
  cases hc:Vm.dig c
  ·simp
  ·simp only[if_true,Bool.true_and];exact ih
theorem mY (l:List UInt8):decB l=true↔decOk l:=by
 unfold decB decOk plain
 constructor
 ·intro h
  split at h
  ·have:l=[48]:=by simpa using h
   subst this
   refine⟨⟨by decide,by decide,fun _=>rfl⟩,fun _=>rfl⟩
  ·rename_i h2
   simp only[Bool.or_eq_true,List.isEmpty_iff,beq_iff_eq,not_or] at h2
   refine⟨⟨h2.1,(ou _).1 h,fun h3=>absurd h3 h2.2⟩,fun h3=>absurd (by rw[h3];rfl) h2.2⟩
 ·rintro⟨⟨h1,h2,h3⟩,h4⟩
  split
  ·rename_i h5
   simp only[Bool.or_eq_true,List.isEmpty_iff,beq_iff_eq] at h5
   rcases h5 with h5 | h5
   ·exact absurd h5 h1
   ·have h6:=h3 h5
    have h7:=h4 h6
    have:mgn l=l:=by unfold mgn;rw[h7];rfl
    rw[this] at h6
    rw[h6];rfl
  ·exact (ou _).2 h2
end Wm
section
open Go.RowKit
namespace Wm
theorem afM {x:Nat}(h0:0<x)(h:x<18446744073709551616):Lib.ctz 64 x=tz x:=by
 obtain⟨m,e,_⟩:=Lib.ctzFrom_spec 64 x h0 h
 have:Lib.ctz 64 x=Lib.ctzFrom 64 x:=by unfold Lib.ctz;rw[if_neg (by omega)]
 rw[this]
 generalize Lib.ctzFrom 64 x=t at *
 rw[e,Nat.mul_comm,je (by omega),kS (by omega)];omega
theorem ad6 {m i:Nat}(h0:0<m)(h:m<2 ^ i):tz m<i:=by
 have e:=(gp m m (Nat.le_refl _) h0).2
 have hp:=aaR h0
 rcases Nat.lt_or_ge (tz m) i with h1 | h1
 ·exact h1
 ·have:2 ^ i<=2 ^ tz m:=Nat.pow_le_pow_right (by decide) h1
  have:1*2 ^ tz m<=od m*2 ^ tz m:=Nat.mul_le_mul_right _ hp
  omega
theorem afN {m:Nat}(h0:0<m)(h:m<2 ^ 53):tz (18446744073709551616-m)=tz m:=by
 obtain⟨ho,e⟩:=gp m m (Nat.le_refl _) h0
 have ht:=ad6 h0 h
 have hle:=ad5 m
 generalize od m=k at *
 generalize tz m=t at *
 have e2:18446744073709551616-m=(2 ^ (64-t)-k)*2 ^ t:=by
  rw[Nat.sub_mul,<-Nat.pow_add,show 64-t+t=64 from by omega,<-e]
 have h2:2 ^ (64-t)=2*2 ^ (63-t):=by rw[show 64-t=(63-t)+1 from by omega,Nat.pow_succ];omega
 have h4:k<2 ^ (64-t):=by
  have h5:k*2 ^ t<2 ^ (64-t)*2 ^ t:=by
   rw[<-Nat.pow_add,show 64-t+t=64 from by omega,<-e];omega
  exact Nat.lt_of_mul_lt_mul_right h5
 rw[e2,je (by omega),kS (by omega)];omega
def sg (n:Bool) (k:Nat):Int:=(if n then -1 else 1)*(k:Int)
def textF (n:Bool) (r:Nat):List UInt8:=Lib.itoa (sg n (kOf r))++112 :: Lib.itoa (eOf r)
def signed (n:Bool) (l:List UInt8):List UInt8:=if n then 45 :: l else l
def textW (b:Nat):List UInt8 :=
 if nan b then [110,97,110] else if rung b=9218868437227405312 then signed (neg b) [105,110,102] else if rung b=0 then signed (neg b) [48] else textF (neg b) (rung b)
end Wm
def KOk (w:World):Prop := MaxOk w/\Lib.TabIs Tryz.prog w "internal/strconv.uint64pow10" .u64 Lib.pow10Tab/\Lib.TabIs Tryz.prog w "math/bits.deBruijn64tab" .u8 (Lib.deBruijn64tab.map Int.ofNat)/\∃ tp p, w.var? Tryz.prog "strconv.ErrRange" = some #[.iface tp p]
theorem ui {w:World}{n:String}{g:Nat}{cs:Array Value}(hg:Tryz.prog.globalNamed n=some g)(h:w.var? Tryz.prog n=some cs):g<w.heap.size:=by
 unfold World.var? at h
 simp only[hg,Option.bind_some] at h
 rcases Nat.lt_or_ge g w.heap.size with h1 | h1
 ·exact h1
 ·simp[Array.getElem?_eq_none h1] at h
theorem aH {w w':World}(h:KOk w)(hb:Below w.heap.size w w'):KOk w':=by
 obtain⟨h1,h2,h3,tp,p,h4⟩:=h
 have g2:Tryz.prog.globalNamed "internal/strconv.uint64pow10" = some 3 := by kernel_rfl
 have g3:Tryz.prog.globalNamed "math/bits.deBruijn64tab" = some 2 := by kernel_rfl
 have g4:Tryz.prog.globalNamed "strconv.ErrRange" = some 8 := by kernel_rfl
 exact⟨ag h1 hb,var?_below hb g2 (ui g2 h2) h2,var?_below hb g3 (ui g3 h3) h3,tp,p,var?_below hb g4 (ui g4 h4) h4⟩
theorem aeN {w:World}(h:KOk w):TabAt 2 Lib.deBruijn64tab w:=by
 intro j hj
 have := Lib.TabIs.cell h.2.2.1 (show Tryz.prog.globalNamed "math/bits.deBruijn64tab" = some 2 by kernel_rfl) j (by simpa using hj)
 rw[this]
 simp[List.getD,hj]
theorem wJ (n:Bool)(r:Nat)(h:Fin r)(w:World)(hk:KOk w) :
  Calls Tryz.prog 194 #[.float .f64 (Wm.word n r)] w fun e w'=>e=.returned (.string ⟨(Wm.textF n r).toArray⟩)/\Below w.heap.size w w':=by
 have hf:=Wm.afG r
 obtain⟨x1,x2⟩:=Wm.aeE h.1
 have ae:=Wm.afF n (Wm.fOf r) hf
 have ab:=Wm.zr n (Wm.fOf r) hf
 obtain⟨M,hM⟩:=ex (4503599627370496+Wm.fOf r)
 rw[hM] at x1 x2 ab
 obtain⟨F,hF⟩:∃ F:Int,(if n then -1 else 1)*(M:Int)=F:=⟨_,rfl⟩
 rw[hF] at ab
 have ah:∀ W:World,(convert 58 2 (.float .f64 (Wm.word n (4841369599423283200+Wm.fOf r)))).run Tryz.prog W=.ok (.int .i64 F) W :=
  fun W=>run_convert_float_int W 58 2 .f64 .i64 _ _ (by kernel_rfl) Tryz.underlying2 ab
 have ac:0<M:=by omega
 have af:M<2 ^ 53:=by omega
 have ao:-9007199254740992<=F/\F<=9007199254740992:=by rw[<-hF];cases n <;> simp <;> omega
 obtain⟨U,hU⟩:∃ U:Nat,IntKind.u64.wrap F=(U:Int)/\0<U/\U<18446744073709551616/\Wm.tz U=Wm.tz M:=by
  rw[<-hF]
  cases n
  ·refine⟨M,?_,ac,by omega,rfl⟩
   rw[IntKind.wrap_u64];simp;omega
  ·refine⟨18446744073709551616-M,?_,by omega,by omega,Wm.afN ac af⟩
   rw[IntKind.wrap_u64];simp;omega
 have aa:=Wm.afM hU.2.1 hU.2.2.1
 rw[hU.2.2.2] at aa
 have hz:=Wm.ad6 ac af
 have ai:=hU.1
 have ag:Fin (4602678819172646912+Wm.fOf r):=⟨by omega,by omega⟩
 clear ab
 go_enter Tryz.func194,Tryz.ntmps194
 go_wp2_with fail
 refine (aa2 n r h _).mono ?_
 rintro e' w' ⟨rfl,rfl⟩
 go_wp2_with fail
 refine (qN n (4602678819172646912+Wm.fOf r) 53 ag (by omega) (by omega) _).mono ?_
 rintro e' w' ⟨rfl,rfl⟩
 rw[ae]
 clear ae hf hM ag
 go_wp2_with fail
 refine (Tryz.bits_TrailingZeros64 U hU.2.2.1 _ (fun _=>aeN hk)).mono ?_
 rintro e' w' ⟨rfl,rfl⟩
 rw[aa]
 clear aa hU ah ai
 have HD:F / 2 ^ Wm.tz M=Wm.sg n (Wm.kOf r):=by
  have e:=(Wm.gp M M (Nat.le_refl _) ac).2
  rw[x1] at e
  rw[<-hF]
  have e3:(if n then -1 else 1)*(M:Int)=Wm.sg n (Wm.kOf r)*(2:Int) ^ Wm.tz M:=by
   unfold Wm.sg
   conv=>lhs;rw[e]
   rw[Int.natCast_mul,Int.mul_assoc,Int.natCast_pow];rfl
  rw[e3,Int.mul_ediv_cancel _ (Int.ne_of_gt (Int.pow_pos (by decide)))]
 have aj:=(Wm.ac1 h.1 h.2).2.1
 have ap:-9007199254740992<=Wm.sg n (Wm.kOf r)/\Wm.sg n (Wm.kOf r)<=9007199254740992:=by unfold Wm.sg;cases n <;> simp <;> omega
 have aq:-2000<=Wm.xOf r/\Wm.xOf r<=2000:=by
  have:=h.2
  have:=(Wm.aaU h.1 h.2).2
  unfold Wm.xOf;split <;> omega
 have HT:Hid (Wm.textF n r=Lib.itoa (Wm.sg n (Wm.kOf r))++112 :: Lib.itoa (Wm.eOf r)):=rfl
 have ar:Wm.xOf r+((Wm.tz M:Int)-53)=Wm.eOf r:=by omega
 clear x1 x2 hF aj
 generalize Wm.tz M=z at *
 go_wp2_with fail
 refine (Tryz.strconv_FormatInt_10 _ (by omega) (by omega) _ hk.2.1).mono ?_
 rintro e' w1 ⟨g1,k1,am,g2⟩;subst g1
 have ad:=zh (g2 ▸ Lib.below_grow _ _ (Nat.le_refl _) k1 am:Below w'.heap.size w' w1)
 have ak:=aH hk ad.out
 clear g2 hk
 have au:=Lib.itoa_length_le (Wm.sg n (Wm.kOf r)) (by omega) (by omega)
 have av:=Lib.itoa_length_le (Wm.eOf r) (by omega) (by omega)
 go_wp2_with fail
 refine (Tryz.strconv_Itoa _ (by omega) (by omega) _ ak.2.1).mono ?_
 rintro e' w2 ⟨g1,k2,an,g2⟩;subst g1
 have al:=zh (ad.out.trans ((g2 ▸ Lib.below_grow _ _ (Nat.le_refl _) k2 an:Below w1.heap.size w1 w2).mono ad.out.size))
 clear g2
 go_wp2_with fail
 go_ret
 refine⟨?_,al.out⟩
 rw[HT.out]
 show Ending.returned (.string ((ByteArray.mk _++ByteArray.mk #[112])++ByteArray.mk _))=_
 rw[show (#[112]:Array UInt8)=([112]:List UInt8).toArray from rfl,ByteArray.mk_append_mk,ByteArray.mk_append_mk,List.append_assoc]
 rfl
end
section
open Go.RowKit
theorem kinds (b:Nat)(hb:b<Wm.W):Wm.nan b=true\/(∃ n,b=Wm.word n 9218868437227405312)\/(∃ n r,Fin r/\b=Wm.word n r)\/(∃ n,b=Wm.word n 0):=by
 have e:=Wm.lN b hb
 cases hn:Wm.nan b
 ·right
  have hr:Wm.rung b<=9218868437227405312:=by unfold Wm.nan at hn;simpa using hn
  by_cases h1:Wm.rung b=9218868437227405312
  ·left;exact⟨Wm.neg b,by rw[<-h1];exact e⟩
  ·right
   by_cases h2:Wm.rung b=0
   ·right;exact⟨Wm.neg b,by rw[<-h2];exact e⟩
   ·left;exact⟨Wm.neg b,Wm.rung b,⟨by omega,by omega⟩,e⟩
 ·left;rfl
theorem aa4 (n:Bool){r:Nat}(h:Fin r):Wm.textW (Wm.word n r)=Wm.textF n r:=by
 obtain⟨_,g2,_⟩:=bI h n
 have h1:=h.1
 have h2:=h.2
 obtain⟨a1,a2,_⟩:=Wm.bA n (r:=r) (by omega)
 unfold Wm.textW
 rw[g2,a1,a2,if_neg Bool.false_ne_true,if_neg (by omega),if_neg (by omega)]
theorem aa5 (w:World) :
  Calls Tryz.prog 155 #[.float .f64 9218868437227405312] w fun e w'=>e=.returned (.string ⟨#[105,110,102]⟩)/\w=w':=by
 have o1:(FloatKind.f64.format.order 9218868437227405312 9218868437227405311==some .gt)=true:=by decide +kernel
 have o2:(FloatKind.f64.format.order 9218868437227405312 18442240474082181119==some .lt)=false:=by decide +kernel
 have o3:(FloatKind.f64.format.order 9218868437227405312 0 != some .eq)=true:=by decide +kernel
 have aa:=dS
 have hn:Wm.nan 9218868437227405312=false:=by decide +kernel
 go_enter Tryz.func155,Tryz.ntmps155
 go_wp2_with fail
 refine (cR 9218868437227405312 (by decide) _).mono ?_
 rintro e w' ⟨rfl,rfl⟩
 rw[hn]
 go_wp2_with fail
 go_ret
 exact⟨rfl,rfl⟩
theorem aa6 (w:World) :
  Calls Tryz.prog 155 #[.float .f64 18442240474082181120] w fun e w'=>e=.returned (.string ⟨#[45,105,110,102]⟩)/\w=w':=by
 have o1:(FloatKind.f64.format.order 18442240474082181120 9218868437227405311==some .gt)=false:=by decide +kernel
 have o2:(FloatKind.f64.format.order 18442240474082181120 18442240474082181119==some .lt)=true:=by decide +kernel
 have o3:(FloatKind.f64.format.order 18442240474082181120 0 != some .eq)=true:=by decide +kernel
 have aa:=dS
 have hn:Wm.nan 18442240474082181120=false:=by decide +kernel
 go_enter Tryz.func155,Tryz.ntmps155
 go_wp2_with fail
 refine (cR 18442240474082181120 (by decide) _).mono ?_
 rintro e w' ⟨rfl,rfl⟩
 rw[hn]
 go_wp2_with fail
 go_ret
 exact⟨rfl,rfl⟩
theorem aeO (w:World) :
  Calls Tryz.prog 155 #[.float .f64 0] w fun e w'=>e=.returned (.string ⟨#[48]⟩)/\w=w':=by
 have o1:(FloatKind.f64.format.order 0 9218868437227405311==some .gt)=false:=by decide +kernel
 have o2:(FloatKind.f64.format.order 0 18442240474082181119==some .lt)=false:=by decide +kernel
 have o3:(FloatKind.f64.format.order 0 0 != some .eq)=false:=by decide +kernel
 have aa:=dS
 have hn:Wm.nan 0=false:=by decide +kernel
 go_enter Tryz.func155,Tryz.ntmps155
 go_wp2_with fail
 refine (cR 0 (by decide) _).mono ?_
 rintro e w' ⟨rfl,rfl⟩
 rw[hn]
 go_wp2_with fail
 go_ret
 exact⟨rfl,rfl⟩
theorem aeP (w:World) :
  Calls Tryz.prog 155 #[.float .f64 9223372036854775808] w fun e w'=>e=.returned (.string ⟨#[45,48]⟩)/\w=w':=by
 have o1:(FloatKind.f64.format.order 9223372036854775808 9218868437227405311==some .gt)=false:=by decide +kernel
 have o2:(FloatKind.f64.format.order 9223372036854775808 18442240474082181119==some .lt)=false:=by decide +kernel
 have o3:(FloatKind.f64.format.order 9223372036854775808 0 != some .eq)=false:=by decide +kernel
 have aa:=dS
 have hn:Wm.nan 9223372036854775808=false:=by decide +kernel
 go_enter Tryz.func155,Tryz.ntmps155
 go_wp2_with fail
 refine (cR 9223372036854775808 (by decide) _).mono ?_
 rintro e w' ⟨rfl,rfl⟩
 rw[hn]
 go_wp2_with fail
 go_ret
 exact⟨rfl,rfl⟩
theorem afO (b:Nat)(hb:b<Wm.W)(w:World)(hk:KOk w) :
  Calls Tryz.prog 155 #[.float .f64 b] w fun e w'=>e=.returned (.string ⟨(Wm.textW b).toArray⟩)/\Below w.heap.size w w':=by
 have o1:=Wm.aaW b 9218868437227405311 hb (by decide)
 have o2:=Wm.tX b 18442240474082181119 hb (by decide)
 have o3:=Wm.tW b 0 hb (by decide)
 have aa:=dS
 rw[show Wm.nan 9218868437227405311=false from rfl,show Wm.sk 9218868437227405311=9218868437227405311 from rfl] at o1
 rw[show Wm.nan 18442240474082181119=false from rfl,show Wm.sk 18442240474082181119 = -9218868437227405311 from rfl] at o2
 rw[mW,pE] at o3
 rcases kinds b hb with hn | ⟨n,rfl⟩ | ⟨n,r,hf,rfl⟩ | ⟨n,rfl⟩
 ·have HV:Hid (Wm.textW b=[110,97,110]):=by show _=_;rw[Wm.textW,hn];rfl
  clear o1 o2 o3
  go_enter Tryz.func155,Tryz.ntmps155
  go_wp2_with fail
  refine (cR b hb _).mono ?_
  rintro e w' ⟨rfl,rfl⟩
  rw[hn]
  go_wp2_with fail
  go_ret
  exact⟨by rw[HV.out];rfl,Below.refl _ _⟩
 ·cases n
  ·refine (aa5 w).mono ?_
   rintro e w' ⟨rfl,rfl⟩
   exact⟨rfl,Below.refl _ _⟩
  ·refine (aa6 w).mono ?_
   rintro e w' ⟨rfl,rfl⟩
   exact⟨rfl,Below.refl _ _⟩
 ·have HV:=zh (aa4 n hf)
  obtain⟨g1,g2,g3,g4,g5⟩:=bI hf n
  rw[decide_eq_false (by omega)] at o1 o2
  rw[decide_eq_true g3] at o3
  simp only[Bool.and_false,Bool.or_true] at o1 o2 o3
  clear g3 g4 g5
  go_enter Tryz.func155,Tryz.ntmps155
  go_wp2_with fail
  refine (cR _ hb _).mono ?_
  rintro e w' ⟨rfl,rfl⟩
  rw[g2]
  go_wp2_with fail
  refine (wJ n r hf _ hk).mono ?_
  rintro e w' ⟨g1,g2⟩;subst g1
  go_wp2_with fail
  go_ret
  exact⟨by rw[HV.out];rfl,g2⟩
 ·cases n
  ·refine (aeO w).mono ?_
   rintro e w' ⟨rfl,rfl⟩
   exact⟨rfl,Below.refl _ _⟩
  ·refine (aeP w).mono ?_
   rintro e w' ⟨rfl,rfl⟩
   exact⟨rfl,Below.refl _ _⟩
def lastOdd (l:List UInt8):Bool:=(((l.getLast?.getD 0).toNat:Int)-48) % 2==1
theorem aa7 (l:List UInt8)(h:l≠[])(hl:l.length<=1000)(w:World) :
  Calls Tryz.prog 328 #[.string ⟨l.toArray⟩] w fun e w'=>e=.returned (.bool (lastOdd l))/\w=w':=by
 have ab:0<l.length:=List.length_pos_iff.2 h
 obtain⟨c,hc,aa⟩:=byte_at l (l.length-1) (by omega)
 have HL:Hid (lastOdd l=(((c.toNat:Int)-48) % 2==1)):=by
  show _=_
  rw[lastOdd,List.getLast?_eq_some_getLast h,List.getLast_eq_getElem,aa];rfl
 clear aa
 go_enter Tryz.func328,Tryz.ntmps328
 go_wp2_with fail
 go_ret
 exact⟨by rw[HL.out];rfl,rfl⟩
theorem j8 (l:List UInt8)(_hl:l.length<=1000)(w:World) :
  Calls Tryz.prog 327 #[.string ⟨l.toArray⟩] w fun e w'=>e=.returned (.bool (Wm.decB l))/\Below w.heap.size w w':=by
 have HB:Hid (Wm.decB l=if (Wm.mgn l).isEmpty||(Wm.mgn l).head? == some 48 then l==[48] else (Vm.undigs (Wm.mgn l)).isEmpty):=rfl
 have hd:=Wm.afL l
 go_enter Tryz.func327,Tryz.ntmps327
 go_wp2_with fail
 refine (Tryz.strings_TrimPrefix _ _ _).mono ?_
 rintro e w' ⟨g1,g2⟩;subst g1 g2
 rw[show Lib.trimPrefix (ByteArray.data ⟨l.toArray⟩).toList (ByteArray.data ⟨#[45]⟩).toList=Wm.mgn l from Wm.afK l]
 generalize Wm.mgn l=d at *
 by_cases h0:d=[]
 ·subst h0
  have HV:Hid (Wm.decB l=(l==[48])):=by show _=_;rw[HB.out];rfl
  clear HB
  go_wp2_with fail
  go_ret
  exact⟨by rw[HV.out];rfl,Below.refl _ _⟩
 ·have aa:0<d.length:=List.length_pos_iff.2 h0
  have he:d.isEmpty=false:=by cases d <;> simp at *
  obtain⟨c,hc,ac⟩:=byte_at d 0 aa
  have hh:(d.head? == some 48)=((c.toNat:Int)==48):=by
   cases d with
   | nil=>exact absurd rfl h0
   | cons x t =>
    have:x=c:=ac
    subst this
    rw[Bool.eq_iff_iff]
    simp only[List.head?_cons,beq_iff_eq,Option.some.injEq]
    exact⟨fun h=>by rw[h];rfl,fun h=>UInt8.toNat.inj (show x.toNat=48 by omega)⟩
  rw[he,hh,Bool.false_or] at HB
  clear ac hh h0
  cases ab:((c.toNat:Int)==48)
  ·have HV:Hid (Wm.decB l=(Vm.undigs d).isEmpty):=by show _=_;rw[HB.out,ab];rfl
   clear HB
   go_wp2_with fail
   refine (i6 d _).mono ?_
   rintro e w1 ⟨g1,g2⟩;subst g1
   obtain⟨u,hu⟩:=ex (Vm.undigs d)
   rw[hu] at HV
   rw[hu]
   have HD:=zh g2
   clear hu g2
   go_wp2_with fail
   go_ret
   exact⟨by rw[HV.out];rfl,HD.out⟩
  ·have HV:Hid (Wm.decB l=(l==[48])):=by show _=_;rw[HB.out,ab];rfl
   clear HB
   go_wp2_with fail
   go_ret
   exact⟨by rw[HV.out];rfl,Below.refl _ _⟩
theorem ov (l:List UInt8)(hl:l.length<=1000)(hp:Wm.plain (Wm.mgn l))(w:World)(hk:KOk w) :
  Calls Tryz.prog 329 #[.string ⟨l.toArray⟩] w fun e w'=>e=.returned (.int .i64 (Wm.nmb l))/\Below w.heap.size w w':=by
 obtain⟨tp,p,hv⟩:=hk.2.2.2
 have aa:=Wm.aa3 l hp
 generalize Wm.nmb l=v at *
 rcases aa with h1 | ⟨h1,h2⟩
 ·go_enter Tryz.func329,Tryz.ntmps329
  go_wp2_with fail
  refine (Tryz.strconv_ParseInt_10_at64_ok ⟨l.toArray⟩ (by show l.toArray.size<=_;simp;omega) v h1 _).mono ?_
  rintro e w1 ⟨g1,g2⟩;subst g1
  go_wp2_with fail
  go_ret
  refine⟨rfl,?_⟩
  rcases g2 with rfl | ⟨t,rfl⟩
  ·exact Below.refl _ _
  ·exact Lib.bytesWorld_below _ _ _
 ·go_enter Tryz.func329,Tryz.ntmps329
  go_wp2_with fail
  refine (Tryz.strconv_ParseInt_10_at64_range_var ⟨l.toArray⟩ (by show l.toArray.size<=_;simp;omega) h1 tp p _ hv).mono ?_
  rintro e w1 ⟨N,g1,g2,g3,g4⟩;subst g1
  rw[show Lib.intSat 64 (ByteArray.data ⟨l.toArray⟩).toList=v from h2]
  go_wp2_with fail
  go_ret
  exact⟨rfl,g4⟩
end
section
open Go.RowKit
namespace Wm
theorem zx {k:Nat}(h:0<k)(h2:k<2 ^ 53):Lib.bitLen k=k.log2+1:=by
 obtain⟨b1,b2,b3⟩:=Lib.bitLenAux_bounds 64 k (by omega) (by omega)
 unfold Lib.bitLen
 generalize Lib.bitLenAux 64 k=m at *
 have:=pA (l:=m-1) b2 (by rwa [show m-1+1=m from by omega])
 omega
def rangeOk (F P:Int):Bool:=decide (-9007199254740992<F)&&(decide (F<9007199254740992)&&(decide (-1074<=P)&&decide (P<=1024-((F.natAbs.log2+1:Nat):Int))))
theorem ow {F P:Int}(h:F<=-9007199254740992):rangeOk F P=false:=by
 have:¬ -9007199254740992<F:=by omega
 simp[rangeOk,this]
theorem ox {F P:Int}(h:9007199254740992<=F):rangeOk F P=false:=by
 have:¬ F<9007199254740992:=by omega
 simp[rangeOk,this]
theorem mo {F P:Int}(h:-9007199254740992<F)(h2:F<9007199254740992):rangeOk F P=(decide (-1074<=P)&&decide (P<=1024-((F.natAbs.log2+1:Nat):Int))):=by
 simp[rangeOk,h,h2]
def prodVal (F P:Int):Nat:=word (decide (F<0)) (rungOf F.natAbs P)
end Wm
def formOk (l:List UInt8):Bool:=Vm.has 112 l&&(Wm.decB (Vm.fst 112 l)&&(Wm.decB (Vm.snd 112 l)&&lastOdd (Vm.fst 112 l)))
def prodErr (l:List UInt8):Int:=if formOk l then (if Wm.rangeOk (Wm.nmb (Vm.fst 112 l)) (Wm.nmb (Vm.snd 112 l)) then 0 else 8) else 2
def prodOf (l:List UInt8):Nat:=if prodErr l=0 then Wm.prodVal (Wm.nmb (Vm.fst 112 l)) (Wm.nmb (Vm.snd 112 l)) else 0
def prodEnd (l:List UInt8):Ending:=if prodErr l=0 then .returned (.float .f64 (prodOf l)) else pan (prodErr l)
theorem aa8 (l:List UInt8)(hd:Wm.decB l=true)(ho:lastOdd l=true):Wm.nmb l % 2=1\/Wm.nmb l = -9223372036854775808:=by
 obtain⟨⟨h1,h2,_⟩,_⟩:=(Wm.mY l).1 hd
 have hm:Wm.mgn l=l\/Wm.mgn l=l.drop 1:=by unfold Wm.mgn;split <;> simp
 have aa:l.getLast? = (Wm.mgn l).getLast?:=by
  rcases hm with h | h
  ·rw[h]
  ·rw[h] at h1 ⊢
   cases l with
   | nil=>rfl
   | cons c t =>
    cases t with
    | nil=>exact absurd rfl h1
    | cons d t=>rfl
 have e:=Wm.ade (Wm.mgn l) h1
 unfold lastOdd at ho
 rw[aa,List.getLast?_eq_some_getLast h1] at ho
 have ab:Vm.dig ((Wm.mgn l).getLast h1)=true:=by rw[List.all_eq_true] at h2;exact h2 _ (List.getLast_mem h1)
 rw[Wm.pG] at ab
 have ac:((((Wm.mgn l).getLast h1).toNat:Int)-48) % 2=1:=by simpa using ho
 unfold Wm.nmb
 split <;> split <;> omega
theorem oy (l:List UInt8):-9223372036854775808<=Wm.nmb l/\Wm.nmb l<=9223372036854775807:=by
 unfold Wm.nmb;split <;> split <;> omega
theorem aeQ (l:List UInt8)(c:UInt8):(Vm.fst c l).length<=l.length/\(Vm.snd c l).length<=l.length:=⟨fp l c,i7 c l⟩
theorem mZ (l:List UInt8)(hl:l.length<=1000)(w:World)(hk:KOk w) :
  Calls Tryz.prog 314 #[.string ⟨l.toArray⟩] w fun e w'=>e=prodEnd l/\Below w.heap.size w w':=by
 have HE:Hid (prodEnd l=if prodErr l=0 then .returned (.float .f64 (prodOf l)) else pan (prodErr l)):=rfl
 have HO:Hid (prodOf l=if prodErr l=0 then Wm.prodVal (Wm.nmb (Vm.fst 112 l)) (Wm.nmb (Vm.snd 112 l)) else 0):=rfl
 have HR:Hid (prodErr l=if formOk l then (if Wm.rangeOk (Wm.nmb (Vm.fst 112 l)) (Wm.nmb (Vm.snd 112 l)) then 0 else 8) else 2):=rfl
 have HF:Hid (formOk l=(Vm.has 112 l&&(Wm.decB (Vm.fst 112 l)&&(Wm.decB (Vm.snd 112 l)&&lastOdd (Vm.fst 112 l))))):=rfl
 have ad:formOk l=false->prodEnd l=pan 2:=fun h=>by rw[HE.out,HR.out,h];rfl
 have HB:=zh ad
 clear ad
 obtain⟨la,lb⟩:=aeQ l 112
 cases hh:Vm.has 112 l
 ·have HV:Hid (prodEnd l=pan 2):=HB.out (by rw[HF.out,hh];rfl)
  go_enter Tryz.func314,Tryz.ntmps314
  go_wp2_with fail
  refine (nI l 112 _ hk.1 (by omega) hh).mono ?_
  rintro e w1 ⟨g1,g2⟩;subst g1
  have HD:Hid (Below w.heap.size w w1):=by obtain⟨n,rfl⟩:=g2;exact below_drewN (Below.refl _ _) n
  clear g2 hh
  go_wp2_with fail
  refine (au _).mono ?_
  rintro e w2 ⟨g1,g2⟩;subst g2;subst g1
  go_wp2_with fail
  exact⟨rfl,HV.out.symm,HD.out⟩
 ·have hcut:=fun W h=>lG l 112 W h (by omega) hh
  rw[hh] at HF
  generalize Vm.fst 112 l=bf at *
  generalize Vm.snd 112 l=af at *
  clear hh
  go_enter Tryz.func314,Tryz.ntmps314
  go_wp2_with fail
  refine (hcut _ hk.1).mono ?_
  rintro e w1 ⟨g1,g2⟩;subst g1
  have HD:Hid (Below w.heap.size w w1):=by obtain⟨n,rfl⟩:=g2;exact below_drewN (Below.refl _ _) n
  have aq:=aH hk HD.out
  clear g2 hk hcut
  go_wp2_with fail
  refine (j8 bf (by omega) _).mono ?_
  rintro e w2 ⟨g1,g2⟩;subst g1
  have aj:=zh (bt HD.out g2)
  have ar:=aH aq g2
  clear g2 aq HD
  cases ab:Wm.decB bf
  ·have HV:Hid (prodEnd l=pan 2):=HB.out (by rw[HF.out,ab];rfl)
   clear ab
   go_wp2_with fail
   refine (au _).mono ?_
   rintro e w3 ⟨g1,g2⟩;subst g2;subst g1
   go_wp2_with fail
   exact⟨rfl,HV.out.symm,aj.out⟩
  ·go_wp2_with fail
   refine (j8 af (by omega) _).mono ?_
   rintro e w3 ⟨g1,g2⟩;subst g1
   have ah:=zh (bt aj.out g2)
   have al:=aH ar g2
   clear g2 ar aj
   cases ac:Wm.decB af
   ·have HV:Hid (prodEnd l=pan 2):=HB.out (by rw[HF.out,ab,ac];rfl)
    clear ab ac
    go_wp2_with fail
    refine (au _).mono ?_
    rintro e w4 ⟨g1,g2⟩;subst g2;subst g1
    go_wp2_with fail
    exact⟨rfl,HV.out.symm,ah.out⟩
   ·have am:=((Wm.mY bf).1 ab).1
    have av:=((Wm.mY af).1 ac).1
    have aw:bf≠[]:=fun h=>am.1 (by rw[h];rfl)
    have ax:=zh am
    have ay:=zh av
    have az:=zh aw
    clear am av aw
    go_wp2_with fail
    refine (aa7 bf az.out (by omega) _).mono ?_
    rintro e w4 ⟨g1,g2⟩;subst g2;subst g1
    cases ho:lastOdd bf
    ·have HV:Hid (prodEnd l=pan 2):=HB.out (by rw[HF.out,ab,ac,ho];rfl)
     clear ab ac ho
     go_wp2_with fail
     refine (au _).mono ?_
     rintro e w4 ⟨g1,g2⟩;subst g2;subst g1
     go_wp2_with fail
     exact⟨rfl,HV.out.symm,ah.out⟩
    ·have aE:Hid (formOk l=true):=by show _=_;rw[HF.out,ab,ac,ho];rfl
     rw[aE.out] at HR
     have aA:=zh (aa8 bf ab ho)
     clear ab ac ho HF HB
     go_wp2_with fail
     refine (ak _).mono ?_
     rintro e w4 ⟨g1,g2⟩;subst g2;subst g1
     go_wp2_with fail
     refine (ov bf (by omega) ax.out _ al).mono ?_
     rintro e w4 ⟨g1,g2⟩;subst g1
     have aB:=zh (bt ah.out g2)
     have aC:=aH al g2
     clear g2 al ah
     go_wp2_with fail
     refine (ov af (by omega) ay.out _ aC).mono ?_
     rintro e w5 ⟨g1,g2⟩;subst g1
     have ae:=zh (bt aB.out g2)
     clear g2 aC aB ax ay az
     have hF:=oy bf
     have hP:=oy af
     generalize Wm.nmb bf=F at *
     generalize Wm.nmb af=P at *
     have aD:Hid (prodErr l=if Wm.rangeOk F P then 0 else 8):=by show _=_;rw[HR.out];rfl
     have ai:Hid (Wm.rangeOk F P=false->prodEnd l=pan 8):=by
      show _->_
      intro h
      rw[HE.out,aD.out,h];rfl
     clear HR
     by_cases c1:F<=-9007199254740992
     ·have HV:Hid (prodEnd l=pan 8):=ai.out (Wm.ow c1)
      go_wp2_with fail
      refine (au _).mono ?_
      rintro e w6 ⟨g1,g2⟩;subst g2;subst g1
      go_wp2_with fail
      exact⟨rfl,HV.out.symm,ae.out⟩
     by_cases c2:9007199254740992<=F
     ·have HV:Hid (prodEnd l=pan 8):=ai.out (Wm.ox c2)
      go_wp2_with fail
      rw[show decide (F<9007199254740992)=false from decide_eq_false (by omega)]
      refine (au _).mono ?_
      rintro e w6 ⟨g1,g2⟩;subst g2;subst g1
      go_wp2_with fail
      exact⟨rfl,HV.out.symm,ae.out⟩
     have aF:F % 2=1:=by rcases aA.out with h | h <;> omega
     have ag:0<F.natAbs:=by omega
     have aa:F.natAbs<2 ^ 53:=by omega
     have aG:=zh (Wm.zx ag aa)
     have aL:=Wm.bZ ag aa
     have an:max F (-F)=((F.natAbs:Nat):Int):=by omega
     have ao:Hid (Wm.rangeOk F P=(decide (-1074<=P)&&decide (P<=1024-((F.natAbs.log2+1:Nat):Int)))):=Wm.mo (by omega) (by omega)
     clear aA
     have aM:-9007199254740992<F:=by omega
     have aN:F<9007199254740992:=by omega
     clear c1 c2
     go_wp2_with fail
     refine (ak _).mono ?_
     rintro e w6 ⟨g1,g2⟩;subst g2;subst g1
     go_wp2_with fail
     refine (Tryz.bits_Len64 _ _ (by omega) (by omega)).mono ?_
     rintro e w6 ⟨g1,g2⟩;subst g2;subst g1
     rw[show ((F.natAbs:Nat):Int).toNat=F.natAbs from rfl,aG.out]
     clear an
     by_cases p1:P < -1074
     ·have HV:Hid (prodEnd l=pan 8):=ai.out (by rw[ao.out,decide_eq_false (by omega)];rfl)
      go_wp2_with fail
      refine (au _).mono ?_
      rintro e w7 ⟨g1,g2⟩;subst g2;subst g1
      go_wp2_with fail
      exact⟨rfl,HV.out.symm,ae.out⟩
     by_cases p2:1024-((F.natAbs.log2+1:Nat):Int)<P
     ·have HV:Hid (prodEnd l=pan 8):=ai.out (by rw[ao.out,decide_eq_false (show ¬ P<=1024-((F.natAbs.log2+1:Nat):Int) by omega),Bool.and_false])
      go_wp2_with fail
      rw[show decide (P<=1024-((F.natAbs.log2:Int)+1))=false from decide_eq_false (by omega)]
      refine (au _).mono ?_
      rintro e w7 ⟨g1,g2⟩;subst g2;subst g1
      go_wp2_with fail
      exact⟨rfl,HV.out.symm,ae.out⟩
     have HZ:Hid (prodErr l=0):=by show _=_;rw[aD.out,ao.out,decide_eq_true (show -1074<=P by omega),decide_eq_true (show P<=1024-((F.natAbs.log2+1:Nat):Int) by omega)];rfl
     have HV:Hid (prodEnd l=.returned (.float .f64 (Wm.prodVal F P))):=by show _=_;rw[HE.out,HO.out,if_pos HZ.out,if_pos HZ.out]
     have aI:FloatKind.f64.nearest F=Wm.word (decide (F<0)) (Wm.rungOf F.natAbs 0):=Wm.ac0 F (by omega) aa
     have aJ:=Wm.rung0 ag aa
     have aK:=Wm.kR (e:=0) ag aa (by omega)
     have hx:=Wm.aaV (decide (F<0)) ag aa (show -1074<=P by omega) (by omega)
     have ap:Fin (Wm.rungOf F.natAbs 0):=aK
     go_wp2_with fail
     rw[show decide (P<=1024-((F.natAbs.log2:Int)+1))=true from decide_eq_true (by omega)]
     refine (ak _).mono ?_
     rintro e w7 ⟨g1,g2⟩;subst g2;subst g1
     go_wp2_with fail
     rw[show floatOfInt .f64 F=Wm.word (decide (F<0)) (Wm.rungOf F.natAbs 0) from aI]
     refine (qN (decide (F<0)) (Wm.rungOf F.natAbs 0) P ap aJ.2.2 (by omega) _).mono ?_
     rintro e w8 ⟨g1,g2⟩;subst g2;subst g1
     rw[hx]
     go_wp2_with fail
     go_ret
     exact⟨by rw[HV.out];rfl,ae.out⟩
end
section
open Go.RowKit
def litW (l:List UInt8):Option Nat :=
 if l=[105,110,102] then some 9218868437227405312 else if l=[45,105,110,102] then some 18442240474082181120
 else if l=[110,97,110] then some 9221120237041090561 else if l=[48] then some 0 else if l=[45,48] then some 9223372036854775808 else none
def errW (l:List UInt8):Int:=if (litW l).isSome then 0 else prodErr l
def valW (l:List UInt8):Nat:=(litW l).getD (prodOf l)
theorem qO (l:List UInt8):l=[105,110,102]\/l=[45,105,110,102]\/l=[110,97,110]\/l=[48]\/l=[45,48] \/
  ((l==[105,110,102])=false/\(l==[45,105,110,102])=false/\(l==[110,97,110])=false/\(l==[48])=false/\(l==[45,48])=false/\errW l=prodErr l/\valW l=prodOf l):=by
 by_cases h1:l=[105,110,102]
 ·exact Or.inl h1
 by_cases h2:l=[45,105,110,102]
 ·exact Or.inr (Or.inl h2)
 by_cases h3:l=[110,97,110]
 ·exact Or.inr (Or.inr (Or.inl h3))
 by_cases h4:l=[48]
 ·exact Or.inr (Or.inr (Or.inr (Or.inl h4)))
 by_cases h5:l=[45,48]
 ·exact Or.inr (Or.inr (Or.inr (Or.inr (Or.inl h5))))
 have hl:litW l=none:=by unfold litW;rw[if_neg h1,if_neg h2,if_neg h3,if_neg h4,if_neg h5]
 refine Or.inr (Or.inr (Or.inr (Or.inr (Or.inr ⟨?_,?_,?_,?_,?_,?_,?_⟩))))
 ·exact beq_eq_false_iff_ne.2 h1
 ·exact beq_eq_false_iff_ne.2 h2
 ·exact beq_eq_false_iff_ne.2 h3
 ·exact beq_eq_false_iff_ne.2 h4
 ·exact beq_eq_false_iff_ne.2 h5
 ·unfold errW;rw[hl];rfl
 ·unfold valW;rw[hl];rfl
def parseEnd (l:List UInt8):Ending:=if errW l=0 then .returned (.float .f64 (valW l)) else pan (errW l)
theorem oz (l:List UInt8)(hl:l.length<=1000)(w:World)(hk:KOk w) :
  Calls Tryz.prog 298 #[.string ⟨l.toArray⟩] w fun e w'=>e=parseEnd l/\Below w.heap.size w w':=by
 rcases qO l with rfl | rfl | rfl | rfl | rfl | ⟨h1,h2,h3,h4,h5,he,hv⟩
 ·go_enter Tryz.func298,Tryz.ntmps298
  go_wp2_with fail
  refine (pB _ _).mono ?_
  rintro e w1 ⟨g1,g2⟩;subst g2;subst g1
  go_wp2_with fail
  go_ret
  exact⟨rfl,Below.refl _ _⟩
 ·go_enter Tryz.func298,Tryz.ntmps298
  go_wp2_with fail
  refine (pB _ _).mono ?_
  rintro e w1 ⟨g1,g2⟩;subst g2;subst g1
  go_wp2_with fail
  go_ret
  exact⟨rfl,Below.refl _ _⟩
 ·go_enter Tryz.func298,Tryz.ntmps298
  go_wp2_with fail
  refine (aeF _).mono ?_
  rintro e w1 ⟨g1,g2⟩;subst g2;subst g1
  go_wp2_with fail
  go_ret
  exact⟨rfl,Below.refl _ _⟩
 ·go_enter Tryz.func298,Tryz.ntmps298
  go_wp2_with fail
  go_ret
  exact⟨rfl,Below.refl _ _⟩
 ·go_enter Tryz.func298,Tryz.ntmps298
  go_wp2_with fail
  refine (kW _ _ (by decide) (by decide) _).mono ?_
  rintro e w1 ⟨g1,g2⟩;subst g2;subst g1
  go_wp2_with fail
  go_ret
  exact⟨rfl,Below.refl _ _⟩
 ·have HV:Hid (parseEnd l=prodEnd l):=by show _=_;unfold parseEnd prodEnd;rw[he,hv]
  clear he hv
  go_enter Tryz.func298,Tryz.ntmps298
  go_wp2_with fail
  refine (mZ l hl _ hk).mono ?_
  rintro e w1 ⟨g1,g2⟩;subst g1
  by_cases h0:prodErr l=0
  ·have e1:prodEnd l=.returned (.float .f64 (prodOf l)):=if_pos h0
   rw[e1] at HV
   rw[e1]
   clear e1 h0
   go_wp2_with fail
   go_ret
   exact⟨HV.out.symm,g2⟩
  ·have e1:prodEnd l=pan (prodErr l):=if_neg h0
   rw[e1] at HV
   rw[e1]
   clear e1 h0
   go_wp2_with fail
   exact⟨rfl,HV.out.symm,g2⟩
theorem zy (l:List UInt8)(hl:l.length<=1000)(w:World)(hk:KOk w)(h:errW l=0) :
  Calls Tryz.prog 298 #[.string ⟨l.toArray⟩] w fun e w'=>e=.returned (.float .f64 (valW l))/\Below w.heap.size w w':=by
 have:=oz l hl w hk
 unfold parseEnd at this
 rwa [if_pos h] at this
theorem aa9 (l:List UInt8)(hl:l.length<=1000)(w:World)(hk:KOk w)(h:errW l≠0) :
  Calls Tryz.prog 298 #[.string ⟨l.toArray⟩] w fun e w'=>e=pan (errW l)/\Below w.heap.size w w':=by
 have:=oz l hl w hk
 unfold parseEnd at this
 rwa [if_neg h] at this
theorem uj (p:Addr)(x:Int)(n:Int)(w:World)(hc:w.cell? p=some (.int .i64 x))(hz:w.frozen? p=false) :
  CallsD Tryz.prog 297 #[.pointer (some p)] (.panicking [{ v:=.iface 77 (.int .i64 n),recovered:=false }]) w fun e u' w' =>
   e=.returned (.tuple #[])/\u'=.panicking [{ v:=.iface 77 (.int .i64 n),recovered:=true }]/\w'=w.setCell p (.int .i64 n):=by
 refine callsD_of_wpS Tryz.func297 rfl fun c₀ cs hu=>?_
 apply wpS_region
 simp[wpOpsS,go_sem,recoverD,hu,Tryz.ntmps297]
 refine (bU n _).mono ?_
 rintro e w' ⟨rfl,rfl⟩
 simp[go_sem,hc,hz,bodyPostS,results,Tryz.results297]
theorem wK (p:Addr)(x:Int)(w:World)(hc:w.cell? p=some (.int .i64 x))(hz:w.frozen? p=false) :
  CallsD Tryz.prog 297 #[.pointer (some p)] .returning w fun e u' w'=>e=.returned (.tuple #[])/\u'=.returning/\w'=w.setCell p (.int .i64 0):=by
 refine callsD_of_wpS Tryz.func297 rfl fun c₀ cs hu=>?_
 apply wpS_region
 simp[wpOpsS,go_sem,recoverD,hu,Tryz.ntmps297]
 refine (bT _).mono ?_
 rintro e w' ⟨rfl,rfl⟩
 cases c₀
 simp_all [go_sem,bodyPostS,results,Tryz.results297]
def outW (l:List UInt8):Nat:=if errW l=0 then valW l else 0
theorem aeR (l:List UInt8)(hl:l.length<=1000)(w:World)(hw:KOk w) :
  Calls Tryz.prog 276 #[.string ⟨l.toArray⟩] w fun e w'=>e=.returned (.tuple #[.float .f64 (outW l),.int .i64 (errW l)])/\Below w.heap.size w w':=by
 have af:∀ (fn:Fn) (first cap:Array Value) (w:World),(Instr.makeFunc fn first cap).run Tryz.prog w=.ok (.func fn first cap) w:=fun _ _ _ _=>rfl
 have hM:KOk (w.alloc (.cells #[.int .i64 0] 77)):=aH hw ((Below.refl _ _).alloc (Nat.le_refl _) _)
 have HM:=zh hM
 clear hw hM
 by_cases h:errW l=0
 ·have H:=zh h
  have HC:Hid (outW l=valW l):=by show _=_;rw[outW,if_pos h]
  clear h
  go_enter_defers Tryz.func276,Tryz.ntmps276
  go_wp2_with fail
  refine (zy l hl _ HM.out H.out).mono ?_
  rintro e w2 ⟨rfl,hb⟩
  have ac:Below (w.heap.size+1) (w.alloc (.cells #[.int .i64 0] 77)) w2:=by simpa using hb
  obtain⟨aa,ab⟩:=bj w w2 _ _ ac
  have ae:=zh ac
  clear hb ac
  go_wp2_with fail
  refine leaves_cons (f:=297) (args:=#[.pointer (some ⟨w.heap.size,0,none⟩)]) (by simp) (by simp[go_sem]) ?_
  refine (wK ⟨w.heap.size,0,none⟩ 0 _ ?_ ?_).mono ?_
  ·simp[go_sem,aa]
  ·simp[go_sem,ab]
  rintro e u' w3 ⟨rfl,rfl,rfl⟩
  simp[Leaves,settle,results,Tryz.results276,go_sem,aa]
  exact⟨⟨by rw[HC.out],H.out.symm⟩,((bl ae.out).setCell (Nat.le_refl _) _).setCell (Nat.le_refl _) _⟩
 ·have H:=zh h
  have HC:Hid (outW l=0):=by show _=_;rw[outW,if_neg h]
  clear h
  go_enter_defers Tryz.func276,Tryz.ntmps276
  go_wp2_with fail
  refine (aa9 l hl _ HM.out H.out).mono ?_
  rintro e w1 ⟨rfl,hb⟩
  have ad:Below (w.heap.size+1) (w.alloc (.cells #[.int .i64 0] 77)) w1:=by simpa using hb
  obtain⟨aa,ab⟩:=bj w w1 _ _ ad
  have HB:=zh ad
  clear hb ad
  go_wp2_with fail
  refine leaves_cons (f:=297) (args:=#[.pointer (some ⟨w.heap.size,0,none⟩)]) (by simp) (by simp[go_sem]) ?_
  refine (uj ⟨w.heap.size,0,none⟩ 0 _ _ ?_ ?_).mono ?_
  ·simp[go_sem,aa]
  ·simp[go_sem,ab]
  rintro e u' w2 ⟨rfl,rfl,rfl⟩
  simp[Leaves,settle,results,Tryz.results276,go_sem,aa]
  exact⟨by rw[HC.out],(bl HB.out).setCell (Nat.le_refl _) _⟩
end
section
open Go.RowKit Rs At Pg
def Pg.okAt (i e:Int):Ending:=if e=0 then .returned (.tuple #[]) else panAt i e
theorem Pg.fB (i:Int):okAt i 0=.returned (.tuple #[]):=rfl
theorem Pg.ji {i e:Int}(h:e≠0):okAt i e=panAt i e:=if_neg h
attribute [local go_sem ↓] Go.wp_at_zero Go.wp_at_succ
theorem aW (t:List UInt8)(i:Int)(b:Bool)(e:Int)(w:World) :
  Calls Tryz.prog 272 #[.agg #[.string ⟨t.toArray⟩,.int .i64 i],.bool b,.int .i64 e] w fun r w'=>r=(if b then .returned (.tuple #[]) else panAt i e)/\Below w.heap.size w w':=by
 obtain⟨V,hV⟩:=ex (w.alloc (.cells #[.string ⟨t.toArray⟩,.int .i64 i] 256))
 have HB:Hid (Below w.heap.size w V):=ai hV
 obtain⟨c0,c1⟩:=aD hV (Below.refl _ _)
 cases b
 ·go_enter Tryz.func272,Tryz.ntmps272
  go_wp2_with fail
  refine (aE _).mono ?_
  rintro _ u ⟨rfl,rfl⟩
  go_wp2_with fail
  exact⟨rfl,rfl,HB.out⟩
 ·go_enter Tryz.func272,Tryz.ntmps272
  go_wp2_with fail
  refine (aG _).mono ?_
  rintro _ u ⟨rfl,rfl⟩
  go_wp2_with fail
  go_end0
  exact⟨rfl,HB.out⟩
theorem dU (t:List UInt8)(i e:Int)(w:World) :
  Calls Tryz.prog 273 #[.agg #[.string ⟨t.toArray⟩,.int .i64 i],.int .i64 e] w fun r w'=>r=okAt i e/\Below w.heap.size w w':=by
 obtain⟨V,hV⟩:=ex (w.alloc (.cells #[.string ⟨t.toArray⟩,.int .i64 i] 256))
 have HB:Hid (Below w.heap.size w V):=ai hV
 obtain⟨c0,c1⟩:=aD hV (Below.refl _ _)
 by_cases h0:e=0
 ·subst h0
  rw[fB]
  go_enter Tryz.func273,Tryz.ntmps273
  go_wp2_with fail
  refine (aW t i true 0 _).mono ?_
  rintro _ u ⟨rfl,hb⟩
  have HU:Hid (Below w.heap.size w u):=bt HB.out hb
  clear hb
  go_wp2_with fail
  go_end0
  exact⟨rfl,HU.out⟩
 ·have d:(e==0)=false:=beq_eq_false_iff_ne.2 h0
  rw[ji h0]
  clear h0
  go_enter Tryz.func273,Tryz.ntmps273
  go_wp2_with fail
  refine (aW t i false e _).mono ?_
  rintro _ u ⟨rfl,hb⟩
  have HU:Hid (Below w.heap.size w u):=bt HB.out hb
  clear hb
  go_wp2_with fail
  exact⟨rfl,rfl,HU.out⟩
theorem gP (t:List UInt8)(i:Int)(w:World)(hw:MaxOk w) :
  Calls Tryz.prog 242 #[.agg #[.string ⟨t.toArray⟩,.int .i64 i]] w fun r w'=>r=(if Vm.check t=0 then .returned (.string ⟨(canonOf t).toArray⟩) else panAt i (Vm.check t))/\Below w.heap.size w w':=by
 obtain⟨V,hV⟩:=ex (w.alloc (.cells #[.string ⟨t.toArray⟩,.int .i64 i] 256))
 have HB:Hid (Below w.heap.size w V):=ai hV
 obtain⟨c0,c1⟩:=aD hV (Below.refl _ _)
 have HC:=zh (cQ t V (ag hw HB.out))
 obtain⟨x,hx⟩:=ex (canonOf t)
 obtain⟨k,hk⟩:=ex (Vm.check t)
 rw[hx,hk] at HC
 rw[hx,hk]
 have HV:=zh hV
 clear hx hk hw
 go_enter Tryz.func242,Tryz.ntmps242
 go_wp2_with fail
 clear hV
 refine HC.out.mono ?_
 rintro _ u ⟨rfl,hb⟩
 have HU:Hid (Below w.heap.size w u):=bt HB.out hb
 clear c0 c1
 obtain⟨c0,c1⟩:=aD HV.out hb
 clear hb HC
 go_wp2_with fail
 refine (dU t i k _).mono ?_
 rintro _ u2 ⟨rfl,hb⟩
 have aa:Hid (Below w.heap.size w u2):=bt HU.out hb
 clear hb c0 c1
 by_cases h0:k=0
 ·subst h0
  rw[fB]
  go_wp2_with fail
  go_ret
  exact⟨rfl,aa.out⟩
 ·rw[ji h0]
  have H0:=zh h0
  clear h0
  go_wp2_with fail
  exact⟨rfl,by first | exact (if_neg H0.out).symm | rfl | rw[if_neg H0.out],aa.out⟩
theorem j9 (t:List UInt8)(i:Int)(w:World)(ht:t.length<=281474976710656) :
  Calls Tryz.prog 241 #[.agg #[.string ⟨t.toArray⟩,.int .i64 i]] w fun r w'=>r=(if nameB t=true then .returned (.string ⟨t.toArray⟩) else panAt i 3)/\Below w.heap.size w w':=by
 obtain⟨b,hb⟩:=ex w.heap.size
 obtain⟨V,hV⟩:=ex (w.alloc (.cells #[.string ⟨t.toArray⟩,.int .i64 i] 256))
 have HB:Hid (Below w.heap.size w V):=ai hV
 have HP:=zh (fun W (h:Below V.heap.size V W)=>aD hV h)
 rw[hb] at HP
 obtain⟨c0,c1⟩:=HP.out _ (Below.refl _ _)
 have HN:=zh (fun W=>ft t W (Nat.le_trans ht (by decide)))
 obtain⟨x,hx⟩:=ex (nameB t)
 rw[hx] at HN
 rw[hx]
 have HL:Hid (t.length<=281474976710656):=ht
 clear hx ht
 go_enter Tryz.func241,Tryz.ntmps241
 go_wp2_with fail
 have aa:Hid (Below V.heap.size V V.drew):=(Below.refl _ _).drew
 clear hb hV
 cases x
 ·clear c0 c1
  obtain⟨c0,c1⟩:=HP.out _ aa.out
  go_region_with (first
    | (go_at_call 183;refine (HN.out _).mono ?_;rintro _ u2 ⟨rfl,rfl⟩)
    | (go_at_call 272;refine (aW t i false 3 _).mono ?_;rintro _ u3 ⟨rfl,hs⟩;have ab:=zh hs;clear hs;refine eg (P:=Tryz.prog) (a:={ tmps:=#[],defers:=[] }) (w:=w) ?_))
  all_goals exact⟨rfl,rfl,HB.out.trans ((bt aa.out ab.out).mono HB.out.size)⟩
 ·go_region_held3 (fun w'=>w'.cell? ⟨b,0,none⟩=some (.string ⟨t.toArray⟩)/\w'.cell? ⟨b,1,none⟩=some (.int .i64 i))
   (first
    | exact HP.out _ aa.out
    | exact HP.out _ (bt aa.out ab.out))
   (first
    | (go_at_call 183;refine (HN.out _).mono ?_;rintro _ u2 ⟨rfl,rfl⟩)
    | (go_at_call 272;refine (aW t i true 3 _).mono ?_;rintro _ u3 ⟨rfl,hs⟩;have ab:=zh hs;clear hs))
  have ac:Hid (Below V.heap.size V u3):=bt aa.out ab.out
  clear c0 c1 ab
  obtain⟨c0,c1⟩:=HP.out _ ac.out
  go_wp2_with fail
  refine (a6 t _ HL.out).mono ?_
  rintro _ u5 ⟨rfl,ad⟩
  have ae:Hid (Below w.heap.size w u5):=HB.out.trans ((bt ac.out ad).mono HB.out.size)
  clear ad
  go_wp2_with fail
  go_ret
  exact⟨rfl,ae.out⟩
end
section
open Go.RowKit
attribute [local go_sem ↓] Go.wp_at_zero Go.wp_at_succ
theorem dL {w W1 u:World}{a b c:Value}{T:TypeId}(h1:w.alloc (.cells #[a,b,c] T)=W1)(hb:Below W1.heap.size W1 u) :
  u.cell? ⟨w.heap.size,0,none⟩=some a/\u.cell? ⟨w.heap.size,1,none⟩=some b/\u.cell? ⟨w.heap.size,2,none⟩=some c/\u.frozen? ⟨w.heap.size,0,none⟩=false/\u.frozen? ⟨w.heap.size,1,none⟩=false/\u.frozen? ⟨w.heap.size,2,none⟩=false:=by
 subst h1
 have h:u.heap[w.heap.size]?=some (.cells #[a,b,c] T (0,0)):=(hb.block _ (by simp)).trans (heap_alloc_new w _)
 refine⟨?_,?_,?_,?_,?_,?_⟩ <;> simp[World.cell?,World.frozen?,h]
def FC (b:Nat) (key val:List UInt8) (line:Int) (u:World):Prop :=
 u.cell? ⟨b,0,none⟩=some (.string ⟨key.toArray⟩)/\u.cell? ⟨b,1,none⟩=some (.string ⟨val.toArray⟩)/\u.cell? ⟨b,2,none⟩=some (.int .i64 line) /\
 u.cell? ⟨b+1,0,none⟩=some (.string ⟨#[]⟩)/\u.cell? ⟨b+1,1,none⟩=some (.string ⟨#[]⟩)/\u.cell? ⟨b+1,2,none⟩=some (.int .i64 0)/\u.frozen? ⟨b+1,0,none⟩=false/\u.frozen? ⟨b+1,1,none⟩=false/\u.frozen? ⟨b+1,2,none⟩=false
theorem af7 {w W1 W2 u:World}{key val:List UInt8}{line:Int}(h1:w.alloc (.cells #[.string ⟨key.toArray⟩,.string ⟨val.toArray⟩,.int .i64 line] 168)=W1)(h2:W1.alloc (.cells #[.string ⟨#[]⟩,.string ⟨#[]⟩,.int .i64 0] 168)=W2)(hb:Below W2.heap.size W2 u):FC w.heap.size key val line u:=by
 have aa:W1.heap.size=w.heap.size+1:=by rw[<-h1];simp
 have ab:Below W1.heap.size W1 u:=(ai h2).trans (hb.mono (ai h2).size)
 obtain⟨a0,a1,a2,_⟩:=dL h1 ab
 have h:=dL h2 hb
 rw[aa] at h
 exact⟨a0,a1,a2,h⟩
theorem fc3 {b:Nat}{key val:List UInt8}{line:Int}{u:World}(h:FC b key val line u):u.cell? ⟨b,0,none⟩=some (.string ⟨key.toArray⟩)/\u.cell? ⟨b,1,none⟩=some (.string ⟨val.toArray⟩)/\u.cell? ⟨b,2,none⟩=some (.int .i64 line):=⟨h.1,h.2.1,h.2.2.1⟩
theorem afP {b:Nat}{key val:List UInt8}{line:Int}{u:World}(h:FC b key val line u)(x y z:Value) :
  (((u.setCell ⟨b+1,0,none⟩ x).setCell ⟨b+1,1,none⟩ y).setCell ⟨b+1,2,none⟩ z).cell? ⟨b,0,none⟩=some (.string ⟨key.toArray⟩)/\(((u.setCell ⟨b+1,0,none⟩ x).setCell ⟨b+1,1,none⟩ y).setCell ⟨b+1,2,none⟩ z).cell? ⟨b,1,none⟩=some (.string ⟨val.toArray⟩)/\(((u.setCell ⟨b+1,0,none⟩ x).setCell ⟨b+1,1,none⟩ y).setCell ⟨b+1,2,none⟩ z).cell? ⟨b,2,none⟩=some (.int .i64 line):=by
 have far:∀ j,(((u.setCell ⟨b+1,0,none⟩ x).setCell ⟨b+1,1,none⟩ y).setCell ⟨b+1,2,none⟩ z).cell? ⟨b,j,none⟩=u.cell? ⟨b,j,none⟩:=fun j=>by
  rw[World.cell?_setCell_far _ _ _ _ (by show b+1≠b;omega),World.cell?_setCell_far _ _ _ _ (by show b+1≠b;omega),World.cell?_setCell_far _ _ _ _ (by show b+1≠b;omega)]
 exact⟨(far 0).trans h.1,(far 1).trans h.2.1,(far 2).trans h.2.2.1⟩
theorem afQ {b:Nat}{key val:List UInt8}{line:Int}{u:World}(h:FC b key val line u)(x y z:Value) :
  (((u.setCell ⟨b+1,0,none⟩ x).setCell ⟨b+1,1,none⟩ y).setCell ⟨b+1,2,none⟩ z).cell? ⟨b+1,0,none⟩=some x/\(((u.setCell ⟨b+1,0,none⟩ x).setCell ⟨b+1,1,none⟩ y).setCell ⟨b+1,2,none⟩ z).cell? ⟨b+1,1,none⟩=some y/\(((u.setCell ⟨b+1,0,none⟩ x).setCell ⟨b+1,1,none⟩ y).setCell ⟨b+1,2,none⟩ z).cell? ⟨b+1,2,none⟩=some z:=by
 obtain⟨_,_,_,b0,b1,b2,_⟩:=h
 refine⟨?_,?_,?_⟩ <;> simp[go_sem,b0,b1,b2]
theorem oA (key val:List UInt8)(line:Int)(w:World)(hk:key.length<=140737488355328)(hv:val.length<=140737488355328) :
  Calls Tryz.prog 207 #[.agg #[.string ⟨key.toArray⟩,.string ⟨val.toArray⟩,.int .i64 line]] w fun e w'=>e=.returned (.agg #[.string ⟨key.toArray⟩,.string ⟨val.toArray⟩,.int .i64 line])/\Below w.heap.size w w':=by
 obtain⟨W1,ac⟩:=ex (w.alloc (.cells #[.string ⟨key.toArray⟩,.string ⟨val.toArray⟩,.int .i64 line] 168))
 obtain⟨W2,ae⟩:=ex (W1.alloc (.cells #[.string ⟨#[]⟩,.string ⟨#[]⟩,.int .i64 0] 168))
 have aa:Hid (∀ u,Below W2.heap.size W2 u->FC w.heap.size key val line u):=fun u hb=>af7 ac ae hb
 have al:W1.heap.size=w.heap.size+1:=by rw[<-ac];simp
 have aj:Hid (Below w.heap.size w W2):=(ai ac).trans ((ai ae).mono (ai ac).size)
 have HK:=zh hk
 have HV:=zh hv
 clear hk hv
 go_enter Tryz.func207,Tryz.ntmps207
 go_wp2_with fail
 have ad:Hid (Below W2.heap.size W2 W2.drew):=(Below.refl _ _).drew
 obtain⟨a0,a1,a2,b0,b1,b2,f0,f1,f2⟩:=aa.out _ ad.out
 clear ac ae
 clear b0 b1 b2 f0 f1 f2
 go_region_held3 (fun w'=>w'.cell? ⟨w.heap.size,0,none⟩=some (.string ⟨key.toArray⟩)/\w'.cell? ⟨w.heap.size,1,none⟩=some (.string ⟨val.toArray⟩)/\w'.cell? ⟨w.heap.size,2,none⟩=some (.int .i64 line))
  (first
   | exact fc3 (aa.out _ ad.out)
   | exact fc3 (aa.out _ af.out)
   | exact fc3 (aa.out _ ab.out)
   | exact afP (aa.out _ ab.out) _ _ _)
  (first
   | (go_at_call 49;refine (a6 val _ (by have:=HV.out;omega)).mono ?_;rintro _ u3 ⟨rfl,ag⟩;have ab:=zh (bt af.out ag);clear ag;obtain⟨_,_,_,b0,b1,b2,f0,f1,f2⟩:=aa.out _ ab.out)
   | (go_at_call 49;refine (a6 key _ (by have:=HK.out;omega)).mono ?_;rintro _ u2 ⟨rfl,ah⟩;have af:=zh (bt ad.out ah);clear ah))
 have ak:Hid (Below w.heap.size w (((u3.setCell ⟨w.heap.size+1,0,none⟩ (.string ⟨key.toArray⟩)).setCell ⟨w.heap.size+1,1,none⟩ (.string ⟨val.toArray⟩)).setCell ⟨w.heap.size+1,2,none⟩ (.int .i64 line))) :=
  (((bt aj.out ab.out).setCell (Nat.le_succ _) _).setCell (Nat.le_succ _) _).setCell (Nat.le_succ _) _
 have g:=afQ (aa.out _ ab.out) (.string ⟨key.toArray⟩) (.string ⟨val.toArray⟩) (.int .i64 line)
 go_wp2_with fail
 generalize ((u3.setCell ⟨w.heap.size+1,0,none⟩ (.string ⟨key.toArray⟩)).setCell ⟨w.heap.size+1,1,none⟩ (.string ⟨val.toArray⟩)).setCell ⟨w.heap.size+1,2,none⟩ (.int .i64 line)=V at *
 obtain⟨g0,g1,g2⟩:=g
 refine bodyPost_ret (v:=.agg #[.string ⟨key.toArray⟩,.string ⟨val.toArray⟩,.int .i64 line]) ?_ rfl ⟨rfl,ak.out⟩
 simp[results,Tryz.results207,go_sem,g0,g1,g2]
end
end Go.Proofs.YtgnaiidgjmicaaaGreatDoor
