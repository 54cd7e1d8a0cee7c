/- Part 16 of what the laws lean on. -/
import Derived.Test.YtgnaiidgjmicaaaGreatDoorM15
set_option maxRecDepth 100000
set_option maxHeartbeats 1600000
namespace Go.Proofs.YtgnaiidgjmicaaaGreatDoor
section
open Go.RowKit Rs At
attribute [local go_sem ↓] Go.wp_at_zero Go.wp_at_succ
def AC (b:Nat) (name:List UInt8) (A:Option Addr) (n c:Nat) (u:World):Prop :=
 u.cell? ⟨b,0,none⟩=some (.string ⟨name.toArray⟩)/\u.cell? ⟨b,1,none⟩=some (.slice A n c)/\u.cell? ⟨b+1,0,none⟩=some (.string ⟨#[]⟩)/\u.cell? ⟨b+1,1,none⟩=some (.slice none 0 0)/\u.frozen? ⟨b+1,0,none⟩=false/\u.frozen? ⟨b+1,1,none⟩=false/\∀ j,2<=j->u.cell? ⟨b+1,j,none⟩=none
theorem af6 {w W1 W2 u:World}{T1 T2:TypeId}{name:List UInt8}{A:Option Addr}{n c:Nat}(h1:w.alloc (.cells #[.string ⟨name.toArray⟩,.slice A n c] T1)=W1)(h2:W1.alloc (.cells #[.string ⟨#[]⟩,.slice none 0 0] T2)=W2)(hb:Below W2.heap.size W2 u):AC w.heap.size name A n c u:=by
 have aa:W1.heap.size=w.heap.size+1:=by rw[<-h1];simp
 have ab:Below W1.heap.size W1 u:=(ai h2).trans (hb.mono (ai h2).size)
 obtain⟨a0,a1,_⟩:=cY h1 ab
 obtain⟨b0,b1,b2,b3⟩:=cY h2 hb
 have e1:u.heap[W1.heap.size]?=some (.cells #[.string ⟨#[]⟩,.slice none 0 0] T2 (0,0)):=(hb.block _ (by rw[<-h2];simp)).trans (by rw[<-h2];exact heap_alloc_new W1 _)
 rw[aa] at b0 b1 b2 b3 e1
 exact⟨a0,a1,b0,b1,b2,b3,fun j hj=>by simp[World.cell?,e1];omega⟩
theorem ac2 {b:Nat}{name:List UInt8}{A:Option Addr}{n c:Nat}{u:World}(h:AC b name A n c u):u.cell? ⟨b,0,none⟩=some (.string ⟨name.toArray⟩)/\u.cell? ⟨b,1,none⟩=some (.slice A n c):=⟨h.1,h.2.1⟩
theorem afB {b:Nat}{name:List UInt8}{A:Option Addr}{n c:Nat}{u:World}(h:AC b name A n c u)(x y:Value) :
  ((u.setCell ⟨b+1,0,none⟩ x).setCell ⟨b+1,1,none⟩ y).cell? ⟨b,0,none⟩=some (.string ⟨name.toArray⟩)/\((u.setCell ⟨b+1,0,none⟩ x).setCell ⟨b+1,1,none⟩ y).cell? ⟨b,1,none⟩=some (.slice A n c):=by
 have far:∀ j,((u.setCell ⟨b+1,0,none⟩ x).setCell ⟨b+1,1,none⟩ y).cell? ⟨b,j,none⟩=u.cell? ⟨b,j,none⟩:=fun j=>by
  rw[World.cell?_setCell_far _ _ _ _ (by show b+1≠b;omega),World.cell?_setCell_far _ _ _ _ (by show b+1≠b;omega)]
 exact⟨(far 0).trans h.1,(far 1).trans h.2.1⟩
theorem afC {b:Nat}{name:List UInt8}{A:Option Addr}{n c:Nat}{u:World}(h:AC b name A n c u)(x y:Value) :
  ((u.setCell ⟨b+1,0,none⟩ x).setCell ⟨b+1,1,none⟩ y).cell? ⟨b+1,0,none⟩=some x/\((u.setCell ⟨b+1,0,none⟩ x).setCell ⟨b+1,1,none⟩ y).cell? ⟨b+1,1,none⟩=some y:=by
 obtain⟨_,_,b0,b1,_⟩:=h
 constructor <;> simp[go_sem,b0,b1]
theorem xJ (name:List UInt8)(A:Option Addr)(n c:Nat)(l:List Sp)(w:World)(hn:l.length=n)(hr:SRow w A l)(hl:n<=1000) :
  Calls Tryz.prog 23 #[.agg #[.string ⟨name.toArray⟩,.slice A n c]] w fun e w'=>∃ C d,e=.returned (.agg #[.string ⟨name.toArray⟩,.slice C n d])/\SRow w' C l/\Below w.heap.size w w':=by
 obtain⟨W1,ac⟩:=ex (w.alloc (.cells #[.string ⟨name.toArray⟩,.slice A n c] 25))
 obtain⟨W2,af⟩:=ex (W1.alloc (.cells #[.string ⟨#[]⟩,.slice none 0 0] 51))
 have aa:Hid (∀ u,Below W2.heap.size W2 u->AC w.heap.size name A n c u):=fun u hb=>af6 ac af hb
 have ap:W1.heap.size=w.heap.size+1:=by rw[<-ac];simp
 have ag:Hid (Below w.heap.size w W2):=(ai ac).trans ((ai af).mono (ai ac).size)
 have al:Hid (SRow W2 A l):=ao hr ag.out
 subst hn
 clear hr
 go_enter Tryz.func23,Tryz.ntmps23
 go_wp2_with fail
 have ad:Hid (Below W2.heap.size W2 W2.drew):=(Below.refl _ _).drew
 obtain⟨a0,a1,_⟩:=aa.out _ ad.out
 clear ac af
 go_region_held3 (fun w'=>w'.cell? ⟨w.heap.size,0,none⟩=some (.string ⟨name.toArray⟩)/\w'.cell? ⟨w.heap.size,1,none⟩=some (.slice A l.length c))
  (first
   | exact ac2 (aa.out _ ad.out)
   | exact ac2 (aa.out _ ab.out)
   | exact afB (aa.out _ ab.out) _ _)
  (first
   | (go_at_call 55;refine (aet A c l _ (ao al.out ad.out) hl).mono ?_;rintro _ u3 ⟨⟨C,d,rfl,aj,_,_⟩,ak⟩;have ab:=zh (bt ad.out ak);have ah:=zh aj;clear ak aj;obtain⟨_,_,b0,b1,f0,f1,_⟩:=aa.out _ ab.out))
 have am:Hid (Below w.heap.size w ((u3.setCell ⟨w.heap.size+1,0,none⟩ (.string ⟨name.toArray⟩)).setCell ⟨w.heap.size+1,1,none⟩ (.slice C l.length d))) :=
  ((bt ag.out ab.out).setCell (Nat.le_succ _) _).setCell (Nat.le_succ _) _
 have ae:=fA ah.out (aa.out _ ab.out).2.2.2.2.2.2
 have an:Hid (SRow ((u3.setCell ⟨w.heap.size+1,0,none⟩ (.string ⟨name.toArray⟩)).setCell ⟨w.heap.size+1,1,none⟩ (.slice C l.length d)) C l):=dA (dA ah.out ae) ae
 have g:=afC (aa.out _ ab.out) (.string ⟨name.toArray⟩) (.slice C l.length d)
 clear ae
 go_wp2_with fail
 generalize (u3.setCell ⟨w.heap.size+1,0,none⟩ (.string ⟨name.toArray⟩)).setCell ⟨w.heap.size+1,1,none⟩ (.slice C l.length d)=V at *
 obtain⟨g0,g1⟩:=g
 refine bodyPost_ret (v:=.agg #[.string ⟨name.toArray⟩,.slice C l.length d]) ?_ rfl ⟨C,d,rfl,an.out,am.out⟩
 simp[results,Tryz.results23,go_sem,g0,g1]
def fewA (a:Atm):Bool:=decide (a.name.length<=100)&&fewL a.rng
theorem tR {w0 w:World}{L:List Ent}(hS:St w0 w L)(name:List UInt8)(A:Option Addr)(n c:Nat)(l:List Sp)(i:Nat)(hi:L[i]?=some ⟨A,n,l⟩)(hm:name.length<=maxLen)(hn:n<=maxLen)(hs:Wide l) :
  Calls Tryz.prog 11 #[.agg #[.string ⟨name.toArray⟩,.slice A n c]] w (BoolRet w0 L (fewA ⟨name,l⟩)):=by
 obtain⟨R,hR⟩:=ex (fewA ⟨name,l⟩)
 rw[hR]
 obtain⟨fl,ab⟩:=ex (fewL l)
 have aa:(decide (name.length<=100)&&fl)=R:=by rw[<-ab];exact hR
 have ad:=zh ab
 have HS:=zh hS
 have HW:=zh hs
 have ae:=dk w name A n c 25
 obtain⟨k0,k1⟩:=ae
 have ac:Hid (St w0 (w.alloc (.cells #[.string ⟨name.toArray⟩,.slice A n c] 25)) L):=tC hS _
 clear hS hR ab hs
 unfold maxLen at hm
 by_cases h1:name.length<=100
 ·have HR:Hid (fl=R):=by rw[decide_eq_true h1] at aa;exact aa
  have d0:decide ((name.length:Int)<=100)=true:=decide_eq_true (by omega)
  clear aa
  go_enter Tryz.func11,Tryz.ntmps11
  go_wp2_with fail
  refine (af3 ac.out i hi hn HW.out _ fl ad.out).mono ?_
  rintro _ u ⟨rfl,hs⟩
  have af:=zh hs
  clear hs
  go_wp2_with fail
  go_ret
  exact⟨by rw[HR.out];rfl,af.out⟩
 ·have HR:Hid (false=R):=by rw[decide_eq_false h1] at aa;exact aa
  have d0:decide ((name.length:Int)<=100)=false:=decide_eq_false (by omega)
  clear aa
  go_enter Tryz.func11,Tryz.ntmps11
  go_wp2_with fail
  go_ret
  exact⟨by rw[<-HR.out];rfl,ac.out⟩
end
section
open Go.RowKit Rs At
variable {w0 u:World} {L:List Ent} {A B:Option Addr} {n m:Nat}
theorem oc {l:List Sp}(h:checkR l=0):l.length<=64:=by
 have:=(cX h).1.2.2
 rwa [List.length_map] at this
end
section
open Go.RowKit Rs At
theorem aaN {w0 u:World}{L:List Ent}{A:Option Addr}{n:Nat}(h:St w0 u L)(i:Nat){l:List Sp}(hi:L[i]?=some ⟨A,n,l⟩)(hk:checkR l=0)(c:Nat)(v:List UInt8)(hv:Vm.check v=0)(b:Bool)(hb:hasR (l.map Sp.piece) v=b) :
  Calls Tryz.prog 91 #[.slice A n c,.string ⟨v.toArray⟩] u (BoolRet w0 L b) :=
 af2 h i (a:=l.map Sp.piece) (by rw[(cX hk).2];exact hi) (cX hk).1 c v hv b hb
end
section
open Go.RowKit Rs At
theorem wz {s:List UInt8}{a:Atm}(h:parseA s=(0,a)):checkA a=0:=by
 have key:∀ (name:List UInt8) (t:List (List Cond)),readA name t=(0,a)->checkA a=0:=fun name t h=>by
  unfold readA at h
  split at h
  ·split at h
   ·split at h
    ·split at h
     ·rename_i h4
      injection h with _ h2
      rw[<-h2];exact h4
     ·rename_i h4
      injection h with h1 _
      exact absurd h1 h4
    ·rename_i h3
     injection h with h1 _
     exact absurd h1 h3
   ·injection h with h1 _;cases h1
  ·injection h with h1 _;cases h1
 rw[qF] at h
 cases hp:parseT s with
 | none=>rw[hp] at h;injection h with h1 _;cases h1
 | some t=>rw[hp] at h;exact key _ t h
theorem fh {a:Atm}(h:checkA a=0):nameB a.name=true/\checkR a.rng=0/\vers (At.termOf a.rng)<=16:=by
 unfold checkA at h
 split at h
 ·rename_i h1
  split at h
  ·rename_i h2
   split at h
   ·cases h
   ·rename_i h3;exact⟨h1,h2,by omega⟩
  ·rename_i h2;exact absurd h h2
 ·cases h
theorem eV {l:List UInt8}(h:nameB l=true):l.length<=24:=by
 rcases Nat.lt_or_ge 24 l.length with h1 | h1
 ·rw[kK h1] at h;cases h
 ·exact h1
theorem afD {l:List Cond}(h:∀ c∈l,(condT c).length<=43):(altT l).length<=l.length*46:=by
 have:=gL [32,38,32] (l.map condT) 43 (fun t ht=>by
  obtain⟨c,hc,rfl⟩:=List.mem_map.1 ht
  exact h c hc)
 rw[List.length_map] at this
 exact this
theorem qI:∀ {t:List (List Cond)},(∀ l∈t,∀ c∈l,(condT c).length<=43)->Lib.lens (t.map altT)<=vers t*46
 | [],_=>by simp[Lib.lens]
 | l :: t,h=>by
  have h1:=afD (h l (by simp))
  have h2:=qI (t:=t) (fun x hx=>h x (by simp[hx]))
  have e1:Lib.lens ((l :: t).map altT)=(altT l).length+Lib.lens (t.map altT):=by simp[Lib.lens]
  have e2:vers (l :: t)=l.length+vers t:=rfl
  rw[e1,e2,Nat.add_mul];omega
theorem acZ {t:List (List Cond)}(h:∀ l∈t,∀ c∈l,(condT c).length<=43)(hl:t.length<=64)(hv:vers t<=16):(termT t).length<=928:=by
 unfold termT
 split
 ·decide
 ·cases t with
  | nil=>contradiction
  | cons l t =>
   rw[List.map_cons,Lib.join_length,<-List.map_cons (f:=altT)]
   have:=qI h
   simp only[List.length_map,List.length_cons] at hl ⊢
   show 3*t.length+_<=_
   omega
theorem aeB {a:Atm}(h:checkA a=0):(textA a).length<=1000:=by
 obtain⟨h1,h2,h3⟩:=fh h
 have hn:=eV h1
 unfold textA
 split
 ·omega
 ·have hl:(At.termOf a.rng).length<=64:=by show (a.rng.map conds).length<=64;rw[List.length_map];exact oc h2
  have ht:=acZ (t:=At.termOf a.rng) (fun l hl c hc=>by
   obtain⟨s,hs,rfl⟩:=List.mem_map.1 hl
   obtain⟨i,hi,he,ho⟩:=tG ((mh h2).2.2 s hs) c hc
   have aa:=xB ho
   have ab:(sgnT i).length<=2:=by
    match i,hi with
    | 0,_ | 1,_ | 2,_ | 3,_ | 4,_ | 5,_=>decide
   unfold condT
   rw[he]
   simp only[List.length_append,List.length_cons]
   omega) hl h3
  rw[List.length_append]
  simp only[List.length_cons,List.length_append,List.length_nil]
  omega
end
namespace Wm
open Ieee
def rung (b:Nat):Nat:=b % 9223372036854775808
def neg (b:Nat):Bool:=decide (9223372036854775808<=b)
def nan (b:Nat):Bool:=decide (9218868437227405312<rung b)
def sk (b:Nat):Int:=if neg b then -(rung b:Int) else (rung b:Int)
def W:Nat:=18446744073709551616
def val (r:Nat):Nat:=if r<4503599627370496 then r else (4503599627370496+r % 4503599627370496)*2 ^ (r / 4503599627370496-1)
def magOf (r:Nat):Nat:=if r<4503599627370496 then r else 4503599627370496+r % 4503599627370496
def upOf (r:Nat):Nat:=if r<4503599627370496 then 0 else r / 4503599627370496-1
theorem aaO (r:Nat):val r=magOf r*2 ^ upOf r:=by
 unfold val magOf upOf;split <;> simp
theorem zp {a b i j:Nat}(h:a<2 ^ 53)(hb:2 ^ 52<=b)(hij:i<j):a*2 ^ i<b*2 ^ j:=by
 have h1:2 ^ (i+1)<=2 ^ j:=Nat.pow_le_pow_right (by omega) hij
 have h2:2 ^ (i+1)=2*2 ^ i:=by rw[Nat.pow_succ];omega
 have h3:0<2 ^ i:=Nat.two_pow_pos i
 calc a*2 ^ i<2 ^ 53*2 ^ i:=Nat.mul_lt_mul_of_pos_right h h3
  _=2 ^ 52*2 ^ (i+1):=by rw[h2];omega
  _<=b*2 ^ j:=Nat.mul_le_mul hb h1
theorem tS {r s:Nat}(h:r<s):val r<val s:=by
 unfold val
 split
 ·rename_i h1
  split
  ·exact h
  ·have:0<2 ^ (s / 4503599627370496-1):=Nat.two_pow_pos _
   calc r<4503599627370496:=h1
    _<=4503599627370496+s % 4503599627370496:=by omega
    _=(4503599627370496+s % 4503599627370496)*1:=by omega
    _<=_:=Nat.mul_le_mul_left _ this
 ·rename_i h1
  rw[if_neg (by omega)]
  by_cases hq:r / 4503599627370496=s / 4503599627370496
  ·rw[hq]
   exact Nat.mul_lt_mul_of_pos_right (by omega) (Nat.two_pow_pos _)
  ·exact zp (by omega) (by omega) (by omega)
theorem afE {r s:Nat}(h:r<=s):val r<=val s:=by
 rcases Nat.lt_or_eq_of_le h with h | rfl
 ·exact Nat.le_of_lt (tS h)
 ·exact Nat.le_refl _
theorem bY (b:Nat)(hb:b<W)(h:rung b<9218868437227405312):double.read b=.number (neg b) (magOf (rung b)) (-1074+(upOf (rung b):Int)):=by
 have hn:(b / 9223372036854775808 % 2==1)=neg b:=by
  unfold neg;unfold W at hb
  rw[Bool.eq_iff_iff];simp;omega
 unfold Format.read
 simp only[show double.signWeight=9223372036854775808 from rfl,show double.binade=4503599627370496 from rfl,show double.infRung=9218868437227405312 from rfl,show double.leastPlace = -1074 from rfl,hn,show b % 9223372036854775808=rung b from rfl]
 unfold magOf upOf
 split
 ·rfl
 ·first | rfl | rw[if_pos h]
theorem mR (b:Nat)(hb:b<W)(h:rung b=9218868437227405312):double.read b=.infinity (neg b):=by
 have hn:(b / 9223372036854775808 % 2==1)=neg b:=by
  unfold neg;unfold W at hb
  rw[Bool.eq_iff_iff];simp;omega
 unfold Format.read
 simp only[show double.signWeight=9223372036854775808 from rfl,show double.binade=4503599627370496 from rfl,show double.infRung=9218868437227405312 from rfl,show double.leastPlace = -1074 from rfl,hn,show b % 9223372036854775808=rung b from rfl,h]
 rfl
theorem tT (b:Nat)(h:nan b=true):∃ s t,double.read b=.nan s t:=by
 unfold nan at h
 have h':=of_decide_eq_true h
 refine⟨b / 9223372036854775808 % 2==1,rung b-9218868437227405312,?_⟩
 unfold Format.read
 simp only[show double.signWeight=9223372036854775808 from rfl,show double.binade=4503599627370496 from rfl,show double.infRung=9218868437227405312 from rfl,show double.leastPlace = -1074 from rfl,show b % 9223372036854775808=rung b from rfl]
 rw[if_neg (by omega),if_neg (by omega),if_neg (by omega)]
def sv (b:Nat):Int:=if neg b then -(val (rung b):Int) else (val (rung b):Int)
theorem zq (x y:Nat):compare (sv x) (sv y)=compare (sk x) (sk y):=by
 have aa:∀ {r s:Nat},r<s↔val r<val s:=fun {r s}=>⟨tS,fun h=>Nat.lt_of_not_le fun h2=>absurd (afE h2) (Nat.not_le_of_gt h)⟩
 have h1:=@aa (rung x) (rung y)
 have h2:=@aa (rung y) (rung x)
 have h0:∀ r,val r=0↔r=0:=fun r=>⟨fun h=>by
  rcases Nat.eq_zero_or_pos r with h3 | h3
  ·exact h3
  ·have:=tS h3;rw[h] at this;simp at this,fun h=>by subst h;rfl⟩
 have h3:=h0 (rung x)
 have h4:=h0 (rung y)
 simp only[compare,compareOfLessAndEq]
 unfold sv sk
 cases neg x <;> cases neg y <;> simp only[Bool.false_eq_true,if_false,if_true] <;> (congr 1 <;> first | (apply propext;omega) | (congr 1;apply propext;omega) | skip)
theorem kQ (n:Bool)(m up:Nat):signed n m up=(if n then -1 else 1)*((m*2 ^ up:Nat):Int):=by
 unfold signed;rw[Nat.shiftLeft_eq];cases n <;> simp
theorem rL (k:Nat)(a b:Int):compare (a*(2 ^ k:Nat)) (b*(2 ^ k:Nat))=compare a b:=by
 have hp:(0:Int)<((2 ^ k:Nat):Int):=by exact_mod_cast Nat.two_pow_pos k
 have h1:a*(2 ^ k:Nat)<b*(2 ^ k:Nat)↔a<b:=⟨fun h=>Int.lt_of_mul_lt_mul_right h (Int.le_of_lt hp),fun h=>Int.mul_lt_mul_of_pos_right h hp⟩
 have h2:a*(2 ^ k:Nat)=b*(2 ^ k:Nat)↔a=b:=⟨fun h=>Int.eq_of_mul_eq_mul_right (by omega) h,fun h=>by rw[h]⟩
 simp only[compare,compareOfLessAndEq,h1,h2]
theorem rM (s t:Bool)(m n a c:Nat) :
  (Datum.number s m (-1074+(a:Int))).order (.number t n (-1074+(c:Int)))=some (compare ((if s then -1 else 1)*((m*2 ^ a:Nat):Int)) ((if t then -1 else 1)*((n*2 ^ c:Nat):Int))):=by
 unfold Datum.order
 simp only[kQ]
 congr 1
 have e1:a=(-1074+(a:Int)-min (-1074+(a:Int)) (-1074+(c:Int))).toNat+min a c:=by omega
 have e2:c=(-1074+(c:Int)-min (-1074+(a:Int)) (-1074+(c:Int))).toNat+min a c:=by omega
 generalize (-1074+(a:Int)-min (-1074+(a:Int)) (-1074+(c:Int))).toNat=p at *
 generalize (-1074+(c:Int)-min (-1074+(a:Int)) (-1074+(c:Int))).toNat=q at *
 generalize min a c=k at *
 subst e1 e2
 have hx:∀ (x:Int) (u:Nat),x*((u*2 ^ k:Nat):Int)=x*(u:Int)*((2 ^ k:Nat):Int):=fun x u=>by rw[Int.natCast_mul,Int.mul_assoc]
 rw[Nat.pow_add,Nat.pow_add,<-Nat.mul_assoc,<-Nat.mul_assoc,hx _ (m*2 ^ p),hx _ (n*2 ^ q),rL]
theorem ad4 (b:Nat):(if neg b then -1 else 1)*((magOf (rung b)*2 ^ upOf (rung b):Nat):Int)=sv b:=by
 rw[<-aaO];unfold sv;cases neg b <;> simp
theorem tU {a b:Int}(h:a<b):compare a b=.lt:=by simp only[compare,compareOfLessAndEq,if_pos h]
theorem tV {a b:Int}(h:b<a):compare a b=.gt:=by simp only[compare,compareOfLessAndEq];rw[if_neg (by omega),if_neg (by omega)]
theorem jc (b:Nat):rung b<9223372036854775808:=Nat.mod_lt _ (by decide)
theorem mS (x y:Nat)(hx:x<W)(hy:y<W):double.order x y=if nan x||nan y then none else some (compare (sk x) (sk y)):=by
 unfold Format.order
 cases aa:nan x
 ·cases ab:nan y
  ·have h1:rung x<=9218868437227405312:=by unfold nan at aa;simpa using aa
   have h2:rung y<=9218868437227405312:=by unfold nan at ab;simpa using ab
   simp only[Bool.or_self,Bool.false_eq_true,if_false]
   rcases Nat.lt_or_eq_of_le h1 with h1 | h1
   ·rw[bY x hx h1]
    rcases Nat.lt_or_eq_of_le h2 with h2 | h2
    ·rw[bY y hy h2,rM,ad4,ad4,zq]
    ·rw[mR y hy h2]
     have e:compare (sk x) (sk y)=if neg y then .gt else .lt:=by
      unfold sk
      cases neg y <;> cases neg x <;> simp only[Bool.false_eq_true,if_false,if_true] <;> first | exact tU (by omega) | exact tV (by omega)
     rw[e];rfl
   ·rw[mR x hx h1]
    rcases Nat.lt_or_eq_of_le h2 with h2 | h2
    ·rw[bY y hy h2]
     have e:compare (sk x) (sk y)=if neg x then .lt else .gt:=by
      unfold sk
      cases neg y <;> cases neg x <;> simp only[Bool.false_eq_true,if_false,if_true] <;> first | exact tU (by omega) | exact tV (by omega)
     rw[e];rfl
    ·rw[mR y hy h2]
     have e:compare (sk x) (sk y)=compare (neg y).toNat (neg x).toNat:=by
      unfold sk;rw[h1,h2]
      cases neg y <;> cases neg x <;> decide
     rw[e];rfl
  ·obtain⟨s,t,h⟩:=tT y ab
   rw[h]
   cases double.read x <;> rfl
 ·obtain⟨s,t,h⟩:=tT x aa
  rw[h]
  cases double.read y <;> rfl
theorem pA {k l:Nat}(h1:2 ^ l<=k)(h2:k<2 ^ (l+1)):k.log2=l:=by
 have h0:k≠0:=by have:=Nat.two_pow_pos l;omega
 have a:=(Nat.le_log2 h0).2 h1
 have b:=(Nat.log2_lt h0).2 h2
 omega
theorem xK {k:Nat}(h:0<k):2 ^ k.log2<=k:=(Nat.le_log2 (by omega)).1 (Nat.le_refl _)
theorem lL (k:Nat):k<2 ^ (k.log2+1):=Nat.lt_log2_self
theorem mT (k t:Nat)(h:0<k):(k*2 ^ t).log2=k.log2+t:=by
 refine pA ?_ ?_
 ·rw[Nat.pow_add];exact Nat.mul_le_mul_right _ (xK h)
 ·rw[show k.log2+t+1=(k.log2+1)+t from by omega,Nat.pow_add];exact Nat.mul_lt_mul_of_pos_right (lL k) (Nat.two_pow_pos t)
theorem bZ {k:Nat}(h:0<k)(h2:k<2 ^ 53):k.log2<=52:=by
 have:=(Nat.log2_lt (by omega:k≠0)).2 h2;omega
theorem qJ (neg:Bool)(n:Nat):Toward.even.cut neg n 0=n:=by
 have h1:n % 1=0:=Nat.mod_one n
 unfold Toward.cut
 simp[Nat.shiftLeft_eq,h1]
theorem qK (neg:Bool)(k d:Nat)(h:0<k):Toward.even.cut neg (k*2 ^ d) d=k:=by
 have hp:=Nat.two_pow_pos d
 have h1:min d ((k*2 ^ d).log2+2)=d:=by rw[mT k d h];omega
 have h2:(k*2 ^ d) / 2 ^ d=k:=Nat.mul_div_cancel _ hp
 have h3:(k*2 ^ d) % 2 ^ d=0:=Nat.mul_mod_left _ _
 unfold Toward.cut
 simp only[h1,Nat.shiftLeft_eq,Nat.one_mul,h2,h3]
 simp
def rungOf (k:Nat) (e:Int):Nat :=
 if (k.log2:Int)+e<=-1022 then k*2 ^ (e+1074).toNat else ((k.log2:Int)+e+1022).toNat*4503599627370496+k*2 ^ (52-k.log2)
def word (n:Bool) (r:Nat):Nat:=if n then 9223372036854775808+r else r
theorem aeC (n:Bool)(r:Nat):double.word n r=word n r:=rfl
theorem jd {k:Nat}(h:0<k)(h2:k<2 ^ 53):4503599627370496<=k*2 ^ (52-k.log2)/\k*2 ^ (52-k.log2)<9007199254740992:=by
 have hl:=bZ h h2
 have hp:=Nat.two_pow_pos (52-k.log2)
 constructor
 ·calc 4503599627370496=2 ^ k.log2*2 ^ (52-k.log2):=by rw[<-Nat.pow_add,show k.log2+(52-k.log2)=52 from by omega]
   _<=_:=Nat.mul_le_mul_right _ (xK h)
 ·calc k*2 ^ (52-k.log2)<2 ^ (k.log2+1)*2 ^ (52-k.log2):=Nat.mul_lt_mul_of_pos_right (lL k) hp
   _=9007199254740992:=by rw[<-Nat.pow_add,show k.log2+1+(52-k.log2)=53 from by omega]
theorem kR {k:Nat}{e:Int}(h:0<k)(h2:k<2 ^ 53)(hi:(k.log2:Int)+e<=1023):0<rungOf k e/\rungOf k e<9218868437227405312:=by
 have hl:=bZ h h2
 have hn:=jd h h2
 unfold rungOf
 split
 ·have hp:=Nat.two_pow_pos (e+1074).toNat
  refine⟨Nat.mul_pos h hp,?_⟩
  have:k*2 ^ (e+1074).toNat<2 ^ (k.log2+1)*2 ^ (e+1074).toNat:=Nat.mul_lt_mul_of_pos_right (lL k) hp
  rw[<-Nat.pow_add] at this
  have h3:2 ^ (k.log2+1+(e+1074).toNat)<=2 ^ 53:=Nat.pow_le_pow_right (by omega) (by omega)
  omega
 ·omega
theorem dW (n:Bool)(k t:Nat)(p:Int)(h:0<k)(h2:k<2 ^ 53)(lo:-1074<=p+t)(hi:(k.log2:Int)+(p+t)<=1023) :
  double.nearest n (k*2 ^ t) p=word n (rungOf k (p+t)):=by
 have hl:=bZ h h2
 have hr:=(kR h h2 hi).2
 have h0:k*2 ^ t≠0:=by have:=Nat.mul_pos h (Nat.two_pow_pos t);omega
 unfold Format.nearest
 rw[if_neg h0]
 simp only[show double.fractionBits=52 from rfl,show double.leastPlace = -1074 from rfl,show double.binade=4503599627370496 from rfl,show double.infRung=9218868437227405312 from rfl,mT k t h,aeC]
 congr 1
 unfold rungOf at hr ⊢
 by_cases c:(k.log2:Int)+(p+t)<=-1022
 ·rw[if_pos c] at hr ⊢
  have hm:max (p+((k.log2+t:Nat):Int)-(52:Nat)) (-1074) = -1074:=by omega
  rw[hm]
  have e:Toward.even.cut n ((k*2 ^ t) <<< (p - -1074).toNat) (-1074-p).toNat=k*2 ^ (p+t+1074).toNat:=by
   rw[Nat.shiftLeft_eq]
   by_cases hp:-1074<=p
   ·rw[show (-1074-p).toNat=0 from by omega,qJ,Nat.mul_assoc,<-Nat.pow_add,show t+(p - -1074).toNat=(p+t+1074).toNat from by omega]
   ·rw[show (p - -1074).toNat=0 from by omega,Nat.pow_zero,Nat.mul_one,show t=(p+t+1074).toNat+(-1074-p).toNat from by omega,Nat.pow_add,<-Nat.mul_assoc,qK _ _ _ (Nat.mul_pos h (Nat.two_pow_pos _))]
    congr 2;omega
  rw[e]
  have:((-1074:Int) - -1074).toNat*4503599627370496+k*2 ^ (p+t+1074).toNat=k*2 ^ (p+t+1074).toNat:=by simp
  rw[this];omega
 ·rw[if_neg c] at hr ⊢
  have hm:max (p+((k.log2+t:Nat):Int)-(52:Nat)) (-1074)=p+((k.log2+t:Nat):Int)-52:=by omega
  rw[hm]
  have e:Toward.even.cut n ((k*2 ^ t) <<< (p-(p+((k.log2+t:Nat):Int)-52)).toNat) (p+((k.log2+t:Nat):Int)-52-p).toNat=k*2 ^ (52-k.log2):=by
   rw[Nat.shiftLeft_eq]
   by_cases hp:k.log2+t<=52
   ·rw[show (p+((k.log2+t:Nat):Int)-52-p).toNat=0 from by omega,qJ,Nat.mul_assoc,<-Nat.pow_add,show t+(p-(p+((k.log2+t:Nat):Int)-52)).toNat=52-k.log2 from by omega]
   ·rw[show (p-(p+((k.log2+t:Nat):Int)-52)).toNat=0 from by omega,Nat.pow_zero,Nat.mul_one]
    have ed:(p+((k.log2+t:Nat):Int)-52-p).toNat=k.log2+t-52:=by omega
    rw[ed]
    have et:k*2 ^ t=k*2 ^ (52-k.log2)*2 ^ (k.log2+t-52):=by rw[Nat.mul_assoc,<-Nat.pow_add];congr 2;omega
    rw[et,qK _ _ _ (Nat.mul_pos h (Nat.two_pow_pos _))]
  rw[e,show (p+((k.log2+t:Nat):Int)-52 - -1074).toNat=((k.log2:Int)+(p+t)+1022).toNat from by omega]
  omega
theorem ac0 (n:Int)(h:n≠0)(h2:n.natAbs<2 ^ 53):FloatKind.f64.nearest n=word (decide (n<0)) (rungOf n.natAbs 0):=by
 have hk:0<n.natAbs:=by omega
 have hl:=bZ hk h2
 have:=dW (decide (n<0)) n.natAbs 0 0 hk h2 (by simp) (by simp;omega)
 simp at this
 exact this
theorem bA (n:Bool){r:Nat}(h:r<9223372036854775808):rung (word n r)=r/\neg (word n r)=n/\word n r<W:=by
 unfold rung neg word W
 cases n <;> simp <;> omega
theorem gN {r:Nat}(h:4503599627370496<=r):magOf r=4503599627370496+r % 4503599627370496/\upOf r=r / 4503599627370496-1:=by
 unfold magOf upOf;rw[if_neg (by omega),if_neg (by omega)];exact⟨rfl,rfl⟩
theorem mU (n m:Bool)(r s:Nat)(hr:r<9218868437227405312)(hs:s<9218868437227405312) :
  double.mul (word n r) (word m s)=some (double.nearest (n ^^ m) (magOf r*magOf s) (-1074+(upOf r:Int)+(-1074+(upOf s:Int)))):=by
 obtain⟨a1,a2,a3⟩:=bA n (r:=r) (by omega)
 obtain⟨b1,b2,b3⟩:=bA m (r:=s) (by omega)
 unfold Format.mul
 rw[bY _ a3 (by rw[a1];exact hr),bY _ b3 (by rw[b1];exact hs),a1,a2,b1,b2]
 rfl
def tz (m:Nat):Nat:=if h:m=0\/m % 2=1 then 0 else tz (m / 2)+1
termination_by m
decreasing_by omega
def od (m:Nat):Nat:=m / 2 ^ tz m
theorem kS {k:Nat}(h:k % 2=1):tz k=0:=by rw[tz,dif_pos (Or.inr h)]
theorem aaP {k:Nat}(h:0<k):tz (2*k)=tz k+1:=by
 rw[tz,dif_neg (by omega),show 2*k / 2=k from by omega]
theorem je {k:Nat}(h:0<k)(t:Nat):tz (k*2 ^ t)=tz k+t:=by
 induction t with
 | zero=>simp
 | succ t ih=>rw[Nat.pow_succ,Nat.mul_comm (2 ^ t) 2,<-Nat.mul_assoc,Nat.mul_comm k 2,Nat.mul_assoc,aaP (Nat.mul_pos h (Nat.two_pow_pos t)),ih];omega
theorem oe {k:Nat}(h:0<k)(t:Nat):od (k*2 ^ t)=od k:=by
 unfold od;rw[je h,Nat.pow_add,Nat.mul_div_mul_right _ _ (Nat.two_pow_pos t)]
theorem aaQ {k:Nat}(h:k % 2=1):od k=k:=by unfold od;rw[kS h];simp
theorem gp:∀ (n m:Nat),m<=n->0<m->od m % 2=1/\m=od m*2 ^ tz m
 | 0,m,h,h0=>by omega
 | n+1,m,h,h0=>by
  by_cases ho:m % 2=1
  ·rw[aaQ ho,kS ho];simp[ho]
  ·obtain⟨k,rfl⟩:∃ k,m=2*k:=⟨m / 2,by omega⟩
   have hk:0<k:=by omega
   obtain⟨i1,i2⟩:=gp n k (by omega) hk
   have e1:=oe hk 1
   rw[show k*2 ^ 1=2*k from by omega] at e1
   rw[e1,aaP hk,Nat.pow_succ]
   refine⟨i1,?_⟩
   rw[<-Nat.mul_assoc,<-i2];omega
theorem aaR {m:Nat}(h:0<m):0<od m:=by have:=(gp m m (Nat.le_refl _) h).1;omega
theorem ad5 (m:Nat):od m<=m:=Nat.div_le_self _ _
def kOf (r:Nat):Nat:=od (val r)
def eOf (r:Nat):Int := -1074+(tz (val r):Int)
theorem eW (r:Nat):magOf r<2 ^ 53:=by unfold magOf;split <;> omega
theorem en {r:Nat}(h:0<r):0<magOf r:=by unfold magOf;split <;> omega
theorem iR {r:Nat}(h:0<r):rungOf (magOf r) (-1074+(upOf r:Int))=r:=by
 unfold rungOf magOf upOf
 by_cases c:r<4503599627370496
 ·have hl:r.log2<52:=(Nat.log2_lt (by omega)).2 (by omega)
  simp only[if_pos c]
  rw[if_pos (by omega)];simp
 ·simp only[if_neg c]
  have hl:(4503599627370496+r % 4503599627370496).log2=52:=pA (by omega) (by omega)
  rw[hl]
  split
  ·rename_i c2
   rw[show (-1074+((r / 4503599627370496-1:Nat):Int)+1074).toNat=r / 4503599627370496-1 from by omega]
   rw[show r / 4503599627370496-1=0 from by omega];omega
  ·simp only[Nat.sub_self,Nat.pow_zero,Nat.mul_one]
   omega
theorem aaS {r:Nat}(h:0<r):kOf r=od (magOf r)/\eOf r = -1074+(upOf r:Int)+(tz (magOf r):Int):=by
 have hm:=en h
 unfold kOf eOf
 rw[aaO,oe hm,je hm]
 omega
theorem ac1 {r:Nat}(h:0<r)(hi:r<9218868437227405312):kOf r % 2=1/\kOf r<2 ^ 53/\-1074<=eOf r/\((kOf r).log2:Int)+eOf r<=1023/\rungOf (kOf r) (eOf r)=r:=by
 have hm:=en h
 have aa:=eW r
 obtain⟨e1,e2⟩:=aaS h
 obtain⟨s1,s2⟩:=gp (magOf r) (magOf r) (Nat.le_refl _) hm
 have hle:=ad5 (magOf r)
 have hp:=aaR hm
 have hL:(magOf r).log2=(od (magOf r)).log2+tz (magOf r):=by rw[s2,oe hp,aaQ s1,je hp,kS s1,mT _ _ hp];omega
 have hl:=bZ hm aa
 have self:=iR h
 have hu:upOf r<=2045:=by unfold upOf;split <;> omega
 rw[e1,e2]
 refine⟨s1,by omega,by omega,?_,?_⟩
 ·by_cases c:r<4503599627370496
  ·have:upOf r=0:=by unfold upOf;rw[if_pos c]
   omega
  ·omega
 ·refine Eq.trans ?_ self
  clear self
  generalize magOf r=m at *
  generalize upOf r=u at *
  unfold rungOf
  have c:((od m).log2:Int)+(-1074+(u:Int)+(tz m:Int))=(m.log2:Int)+(-1074+(u:Int)):=by omega
  rw[c]
  split
  ·conv=>rhs;rw[s2]
   rw[Nat.mul_assoc,<-Nat.pow_add];congr 2;omega
  ·congr 1
   conv=>rhs;rw[s2]
   rw[Nat.mul_assoc,<-Nat.pow_add];congr 2
   rw[<-s2];omega
theorem aaT (q:Nat)(h:1<=q):magOf (q*4503599627370496)=4503599627370496/\upOf (q*4503599627370496)=q-1:=by
 unfold magOf upOf;rw[if_neg (by omega),if_neg (by omega)];omega
theorem mul_pow (n:Bool)(q r:Nat)(h1:1<=q)(h2:q<=2046)(h0:0<r)(hr:r<9218868437227405312)
  (lo:-1074<=-1074+(upOf r:Int)+(q-1023)) (hi:((magOf r).log2:Int)+(-1074+(upOf r:Int)+(q-1023))<=1023) :
  double.mul (word n r) (q*4503599627370496)=some (word n (rungOf (magOf r) (-1074+(upOf r:Int)+(q-1023)))) /\
  double.mul (q*4503599627370496) (word n r)=some (word n (rungOf (magOf r) (-1074+(upOf r:Int)+(q-1023)))):=by
 obtain⟨p1,p2⟩:=aaT q h1
 have hs:q*4503599627370496<9218868437227405312:=by omega
 have e:=dW n (magOf r) 52 (-1074+(upOf r:Int)+(q-1075)) (en h0) (eW r) (by omega) (by omega)
 rw[show -1074+(upOf r:Int)+(q-1075)+((52:Nat):Int) = -1074+(upOf r:Int)+(q-1023) from by omega] at e
 have w0:q*4503599627370496=word false (q*4503599627370496):=rfl
 constructor
 ·rw[w0,mU n false r _ hr hs,p1,p2,Bool.xor_false,<-e,show (4503599627370496:Nat)=2 ^ 52 from rfl]
  congr 2;omega
 ·rw[w0,mU false n _ r hs hr,p1,p2,Bool.false_xor,<-e,show (4503599627370496:Nat)=2 ^ 52 from rfl,Nat.mul_comm]
  congr 2;omega
def nrm (r:Nat):Nat:=if r<4503599627370496 then r.log2*4503599627370496+r*2 ^ (52-r.log2) else r
theorem aaU {r:Nat}(h:0<r)(hi:r<9218868437227405312):4503599627370496<=nrm r/\nrm r<9218868437227405312:=by
 unfold nrm
 split
 ·have:=jd h (by omega)
  have hl:r.log2<52:=(Nat.log2_lt (by omega)).2 (by omega)
  omega
 ·omega
theorem aeD (n:Bool){r:Nat}(h:0<r)(c:r<4503599627370496):double.mul (word n r) 4841369599423283200=some (word n (nrm r)):=by
 have e:=(mul_pow n 1075 r (by omega) (by omega) h (by omega) (by omega) (by
  have:(magOf r).log2<=52:=bZ (en h) (eW r)
  have:upOf r=0:=by unfold upOf;rw[if_pos c]
  omega)).1
 have hu:upOf r=0:=by unfold upOf;rw[if_pos c]
 have hm:magOf r=r:=by unfold magOf;rw[if_pos c]
 have hl:r.log2<52:=(Nat.log2_lt (by omega)).2 (by omega)
 rw[hu,hm] at e
 rw[show (1075:Nat)*4503599627370496=4841369599423283200 from rfl] at e
 rw[e]
 congr 2
 unfold rungOf nrm
 rw[if_pos c]
 split
 ·rename_i c2
  have h1:r=1:=by
   have:=lL r
   rw[show r.log2=0 from by omega] at this;omega
  subst h1;decide
 ·congr 2;omega
theorem mul_one (n:Bool){r:Nat}(h:4503599627370496<=r)(hi:r<9218868437227405312):double.mul 4607182418800017408 (word n r)=some (word n r):=by
 have hu:upOf r<=2045:=by unfold upOf;split <;> omega
 have e:=(mul_pow n 1023 r (by omega) (by omega) (by omega) hi (by omega) (by
  have:(magOf r).log2<=52:=bZ (en (by omega)) (eW r)
  omega)).2
 rw[show (1023:Nat)*4503599627370496=4607182418800017408 from rfl] at e
 rw[e,show -1074+(upOf r:Int)+(((1023:Nat):Int)-1023) = -1074+(upOf r:Int) from by omega,iR (by omega)]
def deno (n:Bool) (r:Nat):Nat:=double.nearest n (4503599627370496*magOf r) (-105+(-1074+(upOf r:Int)))
theorem ac3 (n:Bool){r:Nat}(hi:r<9218868437227405312):double.mul 4368491638549381120 (word n r)=some (deno n r)/\deno n r<W:=by
 have w0:(4368491638549381120:Nat)=word false 4368491638549381120:=rfl
 constructor
 ·rw[w0,mU false n _ r (by decide) hi,Bool.false_xor]
  rfl
 ·exact double.nearest_lt n _ _
def ldE (r:Nat) (e:Int):Int:=(r / 4503599627370496:Nat)-1023+e
def ldx (n:Bool) (r:Nat) (e:Int):Nat :=
 if ldE r e < -1075 then word n 0 else if 1023<ldE r e then word n 9218868437227405312
 else if ldE r e < -1022 then deno n ((ldE r e+1076).toNat*4503599627370496+r % 4503599627370496)
 else word n ((ldE r e+1023).toNat*4503599627370496+r % 4503599627370496)
theorem rung0 {k:Nat}(h:0<k)(h2:k<2 ^ 53):rungOf k 0 / 4503599627370496=k.log2+1023/\rungOf k 0 % 4503599627370496=k*2 ^ (52-k.log2)-4503599627370496/\4503599627370496<=rungOf k 0:=by
 have hn:=jd h h2
 unfold rungOf
 rw[if_neg (by omega)]
 omega
theorem aaV (n:Bool){k:Nat}{e:Int}(h:0<k)(h2:k<2 ^ 53)(lo:-1074<=e)(hi:(k.log2:Int)+e<=1023):ldx n (rungOf k 0) e=word n (rungOf k e):=by
 obtain⟨r1,r2,r3⟩:=rung0 h h2
 have hl:=bZ h h2
 have hn:=jd h h2
 unfold ldx ldE
 rw[r1,r2]
 rw[if_neg (by omega),if_neg (by omega)]
 split
 ·rename_i c
  have e1:(((k.log2+1023:Nat):Int)-1023+e+1076).toNat*4503599627370496+(k*2 ^ (52-k.log2)-4503599627370496) ≥ 4503599627370496:=by omega
  unfold deno
  rw[(gN e1).1,(gN e1).2]
  have e2:4503599627370496+((((k.log2+1023:Nat):Int)-1023+e+1076).toNat*4503599627370496+(k*2 ^ (52-k.log2)-4503599627370496)) % 4503599627370496=k*2 ^ (52-k.log2):=by omega
  have e3:((((k.log2+1023:Nat):Int)-1023+e+1076).toNat*4503599627370496+(k*2 ^ (52-k.log2)-4503599627370496)) / 4503599627370496-1=((k.log2:Int)+e+1075).toNat:=by omega
  rw[e2,e3]
  have e4:4503599627370496*(k*2 ^ (52-k.log2))=k*2 ^ (104-k.log2):=by
   rw[show (4503599627370496:Nat)=2 ^ 52 from rfl,Nat.mul_comm,Nat.mul_assoc,<-Nat.pow_add,show 52-k.log2+52=104-k.log2 from by omega]
  rw[e4,dW n k (104-k.log2) _ h h2 (by omega) (by omega)]
  exact congrArg (fun x=>word n (rungOf k x)) (by omega)
 ·rename_i c
  refine congrArg (word n) ?_
  unfold rungOf
  split
  ·rename_i c2
   rw[show (e+1074).toNat=52-k.log2 from by omega];omega
  ·omega
theorem afF (n:Bool)(f:Nat)(hf:f<4503599627370496):ldx n (4602678819172646912+f) 53=word n (4841369599423283200+f):=by
 unfold ldx ldE
 rw[show (4602678819172646912+f) / 4503599627370496=1022 from by omega,show (4602678819172646912+f) % 4503599627370496=f from by omega]
 simp
theorem zr (n:Bool)(f:Nat)(hf:f<4503599627370496):floatToIntVal .f64 (word n (4841369599423283200+f)) .i64=some ((if n then -1 else 1)*((4503599627370496+f:Nat):Int)):=by
 obtain⟨a1,a2,a3⟩:=bA n (r:=4841369599423283200+f) (by omega)
 unfold floatToIntVal
 have e:FloatKind.f64.decode (word n (4841369599423283200+f))=.number n (4503599627370496+f) 0:=by
  show double.read _=_
  rw[bY _ a3 (by rw[a1];omega),a1,a2,(gN (by omega)).1,(gN (by omega)).2]
  rw[show (4841369599423283200+f) % 4503599627370496=f from by omega,show (4841369599423283200+f) / 4503599627370496-1=1074 from by omega]
  rfl
 rw[e]
 have e2:(Datum.number n (4503599627370496+f) 0).toInt .zero=some ((if n then -1 else 1)*((4503599627370496+f:Nat):Int)):=by
  unfold Datum.toInt Datum.integral
  have:Toward.zero.cut n ((4503599627370496+f) <<< (0:Int).toNat) (-(0:Int)).toNat=4503599627370496+f:=by
   unfold Toward.cut
   simp[Nat.shiftLeft_eq]
  simp only[this,kQ]
  simp
 rw[e2]
 simp only
 rw[if_pos]
 cases n <;> simp[IntKind.min,IntKind.max,IntKind.signed,IntKind.bits] <;> omega
def fOf (r:Nat):Nat:=nrm r % 4503599627370496
def xOf (r:Nat):Int:=(nrm r / 4503599627370496:Nat)-1022-(if r<4503599627370496 then 52 else 0)
theorem afG (r:Nat):fOf r<4503599627370496:=Nat.mod_lt _ (by decide)
theorem aeE {r:Nat}(h:0<r):od (4503599627370496+fOf r)=kOf r/\xOf r-53+(tz (4503599627370496+fOf r):Int)=eOf r:=by
 obtain⟨e1,e2⟩:=aaS h
 rw[e1,e2]
 unfold fOf xOf nrm
 by_cases c:r<4503599627370496
 ·have hn:=jd h (by omega)
  have hl:r.log2<52:=(Nat.log2_lt (by omega)).2 (by omega)
  have hu:upOf r=0:=by unfold upOf;rw[if_pos c]
  have hm:magOf r=r:=by unfold magOf;rw[if_pos c]
  simp only[if_pos c]
  rw[hu,hm]
  have e3:4503599627370496+(r.log2*4503599627370496+r*2 ^ (52-r.log2)) % 4503599627370496=r*2 ^ (52-r.log2):=by omega
  rw[e3,oe h,je h]
  refine⟨rfl,?_⟩
  omega
 ·simp only[if_neg c]
  obtain⟨m1,m2⟩:=gN (r:=r) (by omega)
  rw[m1,m2]
  refine⟨rfl,?_⟩
  omega
theorem fJ (a b:Int):compare a b=if a<b then .lt else if b<a then .gt else .eq:=by
 by_cases h:a<b
 ·rw[if_pos h];exact tU h
 ·rw[if_neg h]
  by_cases h2:b<a
  ·rw[if_pos h2];exact tV h2
  ·rw[if_neg h2]
   obtain rfl:a=b:=by omega
   simp[compare,compareOfLessAndEq]
theorem tW (x y:Nat)(hx:x<W)(hy:y<W):(FloatKind.f64.format.order x y != some .eq)=(nan x||nan y||decide (sk x≠sk y)):=by
 show (double.order x y != some .eq)=_
 rw[mS x y hx hy,fJ]
 cases nan x <;> cases nan y <;> simp only[Bool.or_true,Bool.or_false,Bool.true_or,Bool.false_or,if_true,Bool.false_eq_true,if_false]
 ·by_cases h:sk x<sk y
  ·rw[if_pos h,decide_eq_true (by omega)];rfl
  ·rw[if_neg h]
   by_cases h2:sk y<sk x
   ·rw[if_pos h2,decide_eq_true (by omega)];rfl
   ·rw[if_neg h2,decide_eq_false (by omega)];rfl
 all_goals rfl
theorem afH (x y:Nat)(hx:x<W)(hy:y<W):(FloatKind.f64.format.order x y==some .eq)=(!nan x&&!nan y&&decide (sk x=sk y)):=by
 have h:=tW x y hx hy
 rw[bne] at h
 rw[<-Bool.not_not (FloatKind.f64.format.order x y==some .eq),h]
 cases nan x <;> cases nan y <;> simp
theorem tX (x y:Nat)(hx:x<W)(hy:y<W):(FloatKind.f64.format.order x y==some .lt)=(!nan x&&!nan y&&decide (sk x<sk y)):=by
 show (double.order x y==some .lt)=_
 rw[mS x y hx hy,fJ]
 cases nan x <;> cases nan y <;> simp only[Bool.or_true,Bool.or_false,if_true,Bool.false_eq_true,if_false,Bool.not_false,Bool.not_true,Bool.true_and,Bool.false_and]
 ·by_cases h:sk x<sk y
  ·rw[if_pos h,decide_eq_true h];rfl
  ·rw[if_neg h,decide_eq_false h]
   split <;> rfl
 all_goals rfl
theorem aaW (x y:Nat)(hx:x<W)(hy:y<W):(FloatKind.f64.format.order x y==some .gt)=(!nan x&&!nan y&&decide (sk y<sk x)):=by
 show (double.order x y==some .gt)=_
 rw[mS x y hx hy,fJ]
 cases nan x <;> cases nan y <;> simp only[Bool.or_true,Bool.or_false,if_true,Bool.false_eq_true,if_false,Bool.not_false,Bool.not_true,Bool.true_and,Bool.false_and]
 ·by_cases h:sk x<sk y
  ·rw[if_pos h,decide_eq_false (by omega)];rfl
  ·rw[if_neg h]
   by_cases h2:sk y<sk x
   ·rw[if_pos h2,decide_eq_true h2];rfl
   ·rw[if_neg h2,decide_eq_false h2];rfl
 all_goals rfl
theorem mV (x:Nat)(hx:x<W):(FloatKind.f64.format.order x x != some .eq)=nan x:=by
 rw[tW x x hx hx];cases nan x <;> simp
end Wm
section
open Go.RowKit
theorem jf (n:Int)(w:World):(callFunc 284 #[.int .u64 n]).run Tryz.prog w=.ok (.value (.float .f64 n.toNat)) w:=by kernel_rfl
theorem dS (b:Nat)(w:World):(callFunc 195 #[.float .f64 b]).run Tryz.prog w=.ok (.value (.int .u64 b)) w:=by kernel_rfl
def chkW (b:Nat):Int:=if Wm.nan b then 8 else 0
theorem cR (b:Nat)(hb:b<Wm.W)(w:World) :
  Calls Tryz.prog 193 #[.float .f64 b] w fun e w'=>e=.returned (.bool (Wm.nan b))/\w=w':=by
 have H:=zh (Wm.mV b hb)
 go_enter Tryz.func193,Tryz.ntmps193
 go_wp2_with fail
 go_ret
 exact⟨by first | rfl | (rw[H.out];rfl),rfl⟩
theorem xL (b:Nat)(hb:b<Wm.W)(w:World) :
  Calls Tryz.prog 188 #[.float .f64 b] w fun e w'=>e=.returned (.int .i64 (chkW b))/\w=w':=by
 go_enter Tryz.func188,Tryz.ntmps188
 go_wp2_with fail
 refine (cR b hb _).mono ?_
 rintro e w' ⟨rfl,rfl⟩
 cases hn:Wm.nan b
 all_goals
  go_wp2_with fail
  go_ret
  exact⟨by rw[chkW,hn];rfl,rfl⟩
theorem rN (b:Nat)(hb:b<Wm.W)(w:World) :
  Calls Tryz.prog 76 #[.float .f64 b] w fun e w'=>e=.returned (.int .i64 (chkW b))/\w=w':=by
 have H:=Wm.mV b hb
 go_enter Tryz.func76,Tryz.ntmps76
 cases hn:Wm.nan b
 all_goals
  rw[hn] at H
  go_wp2_with fail
  go_ret
  exact⟨by rw[chkW,hn];rfl,rfl⟩
theorem pB (s:Int)(w:World) :
  Calls Tryz.prog 286 #[.int .i64 s] w fun e w'=>e=.returned (.float .f64 (Wm.word (decide (s<0)) 9218868437227405312))/\w=w':=by
 have aa:=jf
 go_enter Tryz.func286,Tryz.ntmps286
 by_cases h:0<=s
 ·go_wp2_with fail
  go_ret
  exact⟨by first | rfl | (rw[decide_eq_false (by omega)];rfl),rfl⟩
 ·go_wp2_with fail
  go_ret
  exact⟨by first | rfl | (rw[decide_eq_true (by omega)];rfl),rfl⟩
theorem aeF (w:World) :
  Calls Tryz.prog 313 #[] w fun e w'=>e=.returned (.float .f64 9221120237041090561)/\w=w':=by
 have aa:=jf
 go_enter Tryz.func313,Tryz.ntmps313
 go_wp2_with fail
 go_ret
 exact⟨rfl,rfl⟩
end
namespace Pg
open Go.RowKit Rs At
structure Gv where
 name:List UInt8
 ver:List UInt8
 deriving DecidableEq
structure Pk where
 name:List UInt8
 ver:List UInt8
 deps:List (List Atm)
 confl:List Atm
 prov:List Gv
 wt:Nat
 deriving DecidableEq
def verE (v:List UInt8):Int:=if Vm.check v=0 then (if Vm.canon v=v then 0 else 5) else Vm.check v
def atomsE:List Atm->Int
 | []=>0
 | a :: l=>if checkA a=0 then atomsE l else checkA a
def giveE (g:Gv):Int:=if nameB g.name then (if g.ver=[] then 0 else verE g.ver) else 3
def givesE:List Gv->Int
 | []=>0
 | g :: l=>if giveE g=0 then givesE l else giveE g
def depsE:List (List Atm)->Int
 | []=>0
 | d :: l=>if 1<=d.length/\d.length<=8 then (if atomsE d=0 then depsE l else atomsE d) else 4
def checkP (p:Pk):Int :=
 if nameB p.name=false then 3
 else if verE p.ver≠0 then verE p.ver
 else if 16<p.deps.length then 4
 else if depsE p.deps≠0 then depsE p.deps
 else if 16<p.confl.length then 4
 else if atomsE p.confl≠0 then atomsE p.confl
 else if 16<p.prov.length then 4
 else if givesE p.prov≠0 then givesE p.prov
 else chkW p.wt
abbrev AtD:=List UInt8 × Desc
def encA (d:AtD):List Value:=[.string ⟨d.1.toArray⟩,.slice d.2.1 d.2.2.1 d.2.2.2]
def encG (g:Gv):List Value:=[.string ⟨g.name.toArray⟩,.string ⟨g.ver.toArray⟩]
theorem fitsA:Rg.Fits encA 2:=⟨fun _=>rfl,fun x u hu=>by
 simp only[encA,List.mem_cons,List.not_mem_nil,or_false] at hu
 rcases hu with rfl | rfl <;> rfl⟩
theorem fitsG:Rg.Fits encG 2:=⟨fun _=>rfl,fun x u hu=>by
 simp only[encG,List.mem_cons,List.not_mem_nil,or_false] at hu
 rcases hu with rfl | rfl <;> rfl⟩
def AIn (w:World) (ds:List AtD) (l:List Atm):Prop:=ds.length=l.length/\∀ (i:Nat) (d:AtD) (a:Atm),ds[i]?=some d->l[i]?=some a->d.1=a.name/\d.2.2.1=a.rng.length/\SRow w d.2.1 a.rng
def ARow (w:World) (A:Option Addr) (l:List Atm):Prop:=∃ ds,Rg.Row encA 2 w A ds/\AIn w ds l
def DIn (w:World) (ds:List Desc) (t:List (List Atm)):Prop:=ds.length=t.length/\∀ (i:Nat) (d:Desc) (l:List Atm),ds[i]?=some d->t[i]?=some l->d.2.1=l.length/\ARow w d.1 l
def DRow (w:World) (A:Option Addr) (t:List (List Atm)):Prop:=∃ ds,Rg.Row encO 1 w A ds/\DIn w ds t
abbrev GRow (w:World) (A:Option Addr) (l:List Gv):Prop:=Rg.Row encG 2 w A l
theorem qL {w w':World}{ds:List AtD}{l:List Atm}(h:AIn w ds l)(hb:Below w.heap.size w w'):AIn w' ds l :=
 ⟨h.1,fun i d a h1 h2=>⟨(h.2 i d a h1 h2).1,(h.2 i d a h1 h2).2.1,ao (h.2 i d a h1 h2).2.2 hb⟩⟩
theorem ay {w w':World}{A:Option Addr}{l:List Atm}(h:ARow w A l)(hb:Below w.heap.size w w'):ARow w' A l:=by
 obtain⟨ds,h1,h2⟩:=h;exact⟨ds,Rg.aj h1 hb,qL h2 hb⟩
theorem ix {w w':World}{ds:List Desc}{t:List (List Atm)}(h:DIn w ds t)(hb:Below w.heap.size w w'):DIn w' ds t :=
 ⟨h.1,fun i d l h1 h2=>⟨(h.2 i d l h1 h2).1,ay (h.2 i d l h1 h2).2 hb⟩⟩
theorem aJ {w w':World}{A:Option Addr}{t:List (List Atm)}(h:DRow w A t)(hb:Below w.heap.size w w'):DRow w' A t:=by
 obtain⟨ds,h1,h2⟩:=h;exact⟨ds,Rg.aj h1 hb,ix h2 hb⟩
theorem dm {w:World}{A:Option Addr}{l:List Atm}(h:ARow w A l)(k:Nat)(hk:k<l.length):∃ ad C n c,A=some ad/\l[k].rng.length=n/\SRow w C l[k].rng/\∀ u,Below w.heap.size w u->u.cell? (ad.add (k*2))=some (.string ⟨l[k].name.toArray⟩)/\u.cell? ⟨(ad.add (k*2)).block,(ad.add (k*2)).off+1,none⟩=some (.slice C n c):=by
 obtain⟨ds,h1,h2,h3⟩:=h
 have aa:k<ds.length:=by omega
 obtain⟨ad,e,_,_⟩:=h1 (by omega)
 obtain⟨q0,q1,q2⟩:=h3 k ds[k] l[k] (List.getElem?_eq_getElem aa) (List.getElem?_eq_getElem hk)
 refine⟨ad,ds[k].2.1,ds[k].2.2.1,ds[k].2.2.2,e,q1.symm,q2,fun u hb=>?_⟩
 obtain⟨ab,x,e',hx,_,hc⟩:=Rg.cK (Rg.aj h1 hb) k aa
 rw[e] at e';cases e'
 subst hx
 exact⟨by rw[<-q0];exact hc 0 _ rfl,hc 1 _ rfl⟩
theorem dB {w:World}{A:Option Addr}{t:List (List Atm)}(h:DRow w A t)(k:Nat)(hk:k<t.length):∃ ad C n c,A=some ad/\t[k].length=n/\ARow w C t[k]/\∀ u,Below w.heap.size w u->u.cell? (ad.add k)=some (.slice C n c):=by
 obtain⟨ds,h1,h2,h3⟩:=h
 have aa:k<ds.length:=by omega
 obtain⟨ad,e,_,_⟩:=h1 (by omega)
 obtain⟨q1,q2⟩:=h3 k ds[k] t[k] (List.getElem?_eq_getElem aa) (List.getElem?_eq_getElem hk)
 refine⟨ad,ds[k].1,ds[k].2.1,ds[k].2.2,e,q1.symm,q2,fun u hb=>?_⟩
 obtain⟨ab,x,e',hx,_,hc⟩:=Rg.cK (Rg.aj h1 hb) k aa
 rw[e] at e';cases e'
 have:=hc 0 _ rfl
 rw[if_pos rfl,Nat.mul_one] at this
 rw[hx];exact this
theorem dJ {w:World}{A:Option Addr}{l:List Gv}(h:GRow w A l)(k:Nat)(hk:k<l.length):∃ ad,A=some ad/\∀ u,Below w.heap.size w u->u.cell? (ad.add (k*2))=some (.string ⟨l[k].name.toArray⟩)/\u.cell? ⟨(ad.add (k*2)).block,(ad.add (k*2)).off+1,none⟩=some (.string ⟨l[k].ver.toArray⟩):=by
 obtain⟨ad,e,_,_⟩:=h (by omega)
 refine⟨ad,e,fun u hb=>?_⟩
 obtain⟨aa,x,e',hx,_,hc⟩:=Rg.cK (Rg.aj h hb) k hk
 rw[e] at e';cases e'
 subst hx
 exact⟨hc 0 _ rfl,hc 1 _ rfl⟩
def AFew (l:List Atm):Prop:=∀ a∈l,a.name.length<=maxLen/\a.rng.length<=1000
def GFew (l:List Gv):Prop:=∀ g∈l,g.name.length<=maxLen/\g.ver.length<=maxLen
theorem jg {l:List Atm}(h:AFew l)(k:Nat)(hk:k<l.length):l[k].name.length<=maxLen/\l[k].rng.length<=1000:=h _ (List.getElem_mem hk)
theorem xM {l:List Gv}(h:GFew l)(k:Nat)(hk:k<l.length):l[k].name.length<=maxLen/\l[k].ver.length<=maxLen:=h _ (List.getElem_mem hk)
end Pg
end Go.Proofs.YtgnaiidgjmicaaaGreatDoor
