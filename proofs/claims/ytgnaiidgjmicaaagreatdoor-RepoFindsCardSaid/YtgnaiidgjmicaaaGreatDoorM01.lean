/- Part 1 of what the laws lean on. -/
import Derived.Lib.IndexAny
import Derived.Lib.SlTrimSet
namespace Go.Proofs.YtgnaiidgjmicaaaGreatDoor
namespace Vm
def dig (c:UInt8):Bool:=decide (48<=c.toNat)&&decide (c.toNat<=57)
def ltr (c:UInt8):Bool:=(decide (97<=c.toNat)&&decide (c.toNat<=122))||(decide (65<=c.toNat)&&decide (c.toNat<=90))
def oth (c:UInt8):Bool:=ltr c||(c.toNat==46||(c.toNat==43||c.toNat==126))
def ok1 (c:UInt8):Bool:=dig c||oth c
def partOk (l:List UInt8):Bool := !l.isEmpty&&(dig (l.getD 0 0)&&(dig (l.getD (l.length-1) 0)&&l.all ok1))
def epOk (l:List UInt8):Bool := !l.isEmpty&&(decide (l.length<=6)&&l.all dig)
def fst (c:UInt8) (l:List UInt8):List UInt8:=l.takeWhile (. != c)
def snd (c:UInt8) (l:List UInt8):List UInt8:=(l.dropWhile (. != c)).drop 1
def has (c:UInt8) (l:List UInt8):Bool:=l.contains c
def ep (l:List UInt8):List UInt8:=if has 58 l then fst 58 l else [48]
def rest (l:List UInt8):List UInt8:=if has 58 l then snd 58 l else l
def pt (l:List UInt8):List UInt8:=fst 45 (rest l)
def rv (l:List UInt8):List UInt8:=if has 45 (rest l) then snd 45 (rest l) else [48]
def verOk (l:List UInt8):Bool:=epOk (ep l)&&(partOk (pt l)&&partOk (rv l))
def check (l:List UInt8):Int:=if 40<l.length then 4 else if verOk l then 0 else 5
def bare (l:List UInt8):List UInt8:=if (l.dropWhile (. == 48)).isEmpty then [48] else l.dropWhile (. == 48)
def digs (l:List UInt8):List UInt8:=l.takeWhile dig
def undigs (l:List UInt8):List UInt8:=l.dropWhile dig
def oths (l:List UInt8):List UInt8:=l.takeWhile (fun c => !dig c)
def unoths (l:List UInt8):List UInt8:=l.dropWhile (fun c => !dig c)
def tail2 (l:List UInt8):List UInt8:=unoths (undigs l)
def canonP:Nat->List UInt8->List UInt8
 | 0,_=>[]
 | n+1,l=>if l.isEmpty then [] else bare (digs l)++oths (undigs l)++canonP n (tail2 l)
def canonE (l:List UInt8):List UInt8:=if bare (ep l)==[48] then [] else bare (ep l)++[58]
def canonR (l:List UInt8):List UInt8:=if canonP 41 (rv l)==[48] then [] else 45 :: canonP 41 (rv l)
def canon (l:List UInt8):List UInt8:=canonE l++canonP 41 (pt l)++canonR l
def sgn (a b:Int):Int:=if a<b then -1 else if b<a then 1 else 0
def both (a b:Int):Int:=if a==0 then b else a
def cmpD (a b:List UInt8):Int:=both (sgn (bare a).length (bare b).length) (Lib.compareBytes (bare a) (bare b))
def mark (l:List UInt8) (i:Nat):Int :=
 if l.length<=i then 0 else if (l.getD i 0).toNat==126 then -1 else if ltr (l.getD i 0) then ((l.getD i 0).toNat:Int) else 256+((l.getD i 0).toNat:Int)
def markB (c:UInt8):Int:=if c.toNat==126 then -1 else if ltr c then (c.toNat:Int) else 256+(c.toNat:Int)
def cmpOF (a b:List UInt8):Nat->Nat->Int
 | 0,_=>0
 | n+1,i=>both (sgn (mark a i) (mark b i)) (cmpOF a b n (i+1))
def cmpO (a b:List UInt8):Int:=cmpOF a b (max a.length b.length) 0
def cmpP:Nat->List UInt8->List UInt8->Int
 | 0,_,_=>0
 | n+1,a,b=>if a.isEmpty&&b.isEmpty then 0 else both (cmpD (digs a) (digs b)) (both (cmpO (oths (undigs a)) (oths (undigs b))) (cmpP n (tail2 a) (tail2 b)))
def cmpV (l m:List UInt8):Int:=both (cmpD (ep l) (ep m)) (both (cmpP 41 (pt l) (pt m)) (cmpP 41 (rv l) (rv m)))
def num (l:List UInt8):Nat:=l.foldl (fun n c=>10*n+(c.toNat-48)) 0
end Vm
namespace Vm
def Cmp3 {α:Type} (f:α->α->Int):Prop:=(∀ a b,f b a =-f a b)/\(∀ a b c,f a b<=0->f b c<=0->f a c<=0)
theorem gy (a b:Int):sgn a b<=0↔a<=b:=by unfold sgn;split <;> (try split) <;> omega
theorem b9 (a b:Int):sgn a b=0↔a=b:=by unfold sgn;split <;> (try split) <;> omega
theorem sq (a b:Int):sgn b a =-sgn a b:=by unfold sgn;by_cases h1:a<b <;> by_cases h2:b<a <;> simp[h1,h2] <;> omega
theorem xi:Cmp3 sgn:=⟨fun a b=>sq a b,fun a b c h1 h2=>by rw[gy] at *;omega⟩
theorem ec {x y:Int}:both x y=0↔x=0/\y=0:=by
 unfold both
 by_cases h:x=0
 ·simp[h]
 ·simp[h]
theorem Cmp3.both {α:Type}{f g:α->α->Int}(hf:Cmp3 f)(hg:Cmp3 g):Cmp3 (fun a b=>Vm.both (f a b) (g a b)):=by
 refine⟨fun a b=>?_,fun a b c h1 h2=>?_⟩
 ·simp only[Vm.both,hf.1 a b,hg.1 a b]
  by_cases h:f a b=0
  ·simp[h]
  ·simp[h]
 ·simp only[Vm.both,beq_iff_eq] at *
  have a1:=hf.1 a b;have a2:=hf.1 b c;have a3:=hf.1 a c
  have t1:=hf.2 a b c;have t2:=hf.2 c b a;have t3:=hf.2 b c a;have t4:=hf.2 c a b;have t5:=hg.2 a b c
  split at h1
  ·split at h2
   ·have:f a c=0:=by
     have:=t1 (by omega) (by omega)
     have:=t2 (by omega) (by omega)
     omega
    rw[if_pos this];exact t5 h1 h2
   ·have h4:=t1 (by omega) (by omega)
    split
    ·rename_i h5
     have:=t4 (by omega) (by omega)
     omega
    ·exact h4
  ·split at h2
   ·have h4:=t1 (by omega) (by omega)
    split
    ·rename_i h5
     have:=t3 (by omega) (by omega)
     omega
    ·exact h4
   ·have h4:=t1 h1 h2
    split
    ·rename_i h5
     have:=t3 h2 (by omega)
     omega
    ·exact h4
theorem Cmp3.pull {α β:Type}{f:α->α->Int}(hf:Cmp3 f)(h:β->α):Cmp3 (fun a b=>f (h a) (h b)):=⟨fun _ _=>hf.1 _ _,fun _ _ _ h1 h2=>hf.2 _ _ _ h1 h2⟩
theorem sr {α:Type}:Cmp3 (fun (_ _:α)=>(0:Int)):=⟨fun _ _=>rfl,fun _ _ _ _ _=>Int.le_refl _⟩
theorem gj (a b:UInt8)(r s:List UInt8):Lib.compareBytes (a :: r) (b :: s)=both (sgn a.toNat b.toNat) (Lib.compareBytes r s):=by
 rw[Lib.compareBytes]
 unfold both sgn
 simp only[UInt8.lt_iff_toNat_lt]
 by_cases h1:a.toNat<b.toNat
 ·have:(a.toNat:Int)<b.toNat:=by omega
  simp[h1]
 ·by_cases h2:b.toNat<a.toNat
  ·simp[h1,h2]
  ·simp[h1,h2]
theorem xj:∀ a b:List UInt8,Lib.compareBytes b a =-Lib.compareBytes a b
 | [],[]=>rfl
 | [],_ :: _=>rfl
 | _ :: _,[]=>rfl
 | a :: r,b :: s=>by
  have ih:=xj r s
  rw[gj,gj]
  unfold both
  rw[sq,ih]
  by_cases h:sgn (a.toNat:Int) b.toNat=0
  ·simp[h]
  ·simp[h]
theorem ez:∀ a b:List UInt8,Lib.compareBytes a b=0↔a=b
 | [],[]=>by simp[Lib.compareBytes]
 | [],_ :: _=>by simp[Lib.compareBytes]
 | _ :: _,[]=>by simp[Lib.compareBytes]
 | a :: r,b :: s=>by
  rw[gj,ec,ez r s,b9]
  constructor
  ·rintro⟨h1,h2⟩
   rw[h2,UInt8.toNat.inj (show a.toNat=b.toNat by omega)]
  ·intro h;injection h with h1 h2;subst h1 h2;exact⟨rfl,rfl⟩
theorem ss:∀ a b c:List UInt8,Lib.compareBytes a b<=0->Lib.compareBytes b c<=0->Lib.compareBytes a c<=0
 | [],_,[],_,_=>by simp[Lib.compareBytes]
 | [],_,_ :: _,_,_=>by simp[Lib.compareBytes]
 | _ :: _,[],_,h,_=>by simp[Lib.compareBytes] at h
 | _ :: _,_ :: _,[],_,h=>by simp[Lib.compareBytes] at h
 | a :: r,b :: s,c :: t,h1,h2=>by
  have ih:=ss r s t
  rw[gj] at *
  unfold both at *
  simp only[beq_iff_eq,b9] at *
  split at h1
  ·split at h2
   ·rw[if_pos (by omega)];exact ih h1 h2
   ·rw[gy] at h2;rw[if_neg (by omega),gy];omega
  ·rw[gy] at h1
   split at h2
   ·rw[if_neg (by omega),gy];omega
   ·rw[gy] at h2;rw[if_neg (by omega),gy];omega
theorem kk:Cmp3 Lib.compareBytes:=⟨xj,ss⟩
theorem su:Cmp3 cmpD:=Cmp3.both ((xi.pull (fun n:Nat=>(n:Int))).pull (fun l=>(bare l).length)) (kk.pull bare)
theorem xk (a b:List UInt8):cmpD a b=0↔bare a=bare b:=by
 unfold cmpD
 rw[ec,b9,ez]
 exact⟨fun h=>h.2,fun h=>⟨by rw[h],h⟩⟩
theorem kl:∀ n i,Cmp3 (fun a b=>cmpOF a b n i)
 | 0,_=>sr
 | n+1,i=>Cmp3.both (xi.pull (fun l=>mark l i)) (kl n (i+1))
theorem ju (l:List UInt8)(i:Nat)(h:l.length<=i):mark l i=0:=by simp[mark,h]
theorem qe (a b:List UInt8):∀ n i,a.length<=i->b.length<=i->cmpOF a b n i=0
 | 0,_,_,_=>rfl
 | n+1,i,ha,hb=>by rw[cmpOF,ju a i ha,ju b i hb,qe a b n (i+1) (by omega) (by omega)];rfl
theorem nu (a b:List UInt8)(k:Nat):∀ n i,a.length<=n+i->b.length<=n+i->cmpOF a b (n+k) i=cmpOF a b n i
 | 0,i,ha,hb=>by rw[qe a b _ i (by omega) (by omega)];rfl
 | n+1,i,ha,hb=>by rw[show n+1+k=(n+k)+1 from by omega,cmpOF,cmpOF,nu a b k n (i+1) (by omega) (by omega)]
theorem eP (a b:List UInt8)(N:Nat)(ha:a.length<=N)(hb:b.length<=N):cmpO a b=cmpOF a b N 0:=by
 unfold cmpO
 have:N=max a.length b.length+(N-max a.length b.length):=by omega
 rw[this,nu a b _ _ 0 (by omega) (by omega)]
theorem sw:Cmp3 cmpO:=by
 refine⟨fun a b=>?_,fun a b c h1 h2=>?_⟩
 ·rw[eP b a (a.length+b.length) (by omega) (by omega),eP a b (a.length+b.length) (by omega) (by omega)]
  exact (kl _ 0).1 a b
 ·rw[eP a b (a.length+b.length+c.length) (by omega) (by omega)] at h1
  rw[eP b c (a.length+b.length+c.length) (by omega) (by omega)] at h2
  rw[eP a c (a.length+b.length+c.length) (by omega) (by omega)]
  exact (kl _ 0).2 a b c h1 h2
theorem sx (a b:List UInt8):∀ n i,cmpOF a b n i=0->∀ j,i<=j->j<i+n->mark a j=mark b j
 | 0,i,_,j,h1,h2=>by omega
 | n+1,i,h,j,h1,h2=>by
  rw[cmpOF,ec,b9] at h
  by_cases hj:j=i
  ·subst hj;exact h.1
  ·exact sx a b n (i+1) h.2 j (by omega) (by omega)
theorem sA (c:UInt8):markB c≠0:=by
 unfold markB
 split
 ·decide
 ·split
  ·rename_i h2;unfold ltr at h2;simp at h2;omega
  ·omega
theorem z8 (a b:UInt8)(h:markB a=markB b):a=b:=by
 apply UInt8.toNat.inj
 have aa:=a.toNat_lt
 have ab:=b.toNat_lt
 unfold markB at h
 by_cases a1:a.toNat=126 <;> by_cases b1:b.toNat=126 <;> cases a2:ltr a <;> cases b2:ltr b <;> simp[a1,b1,a2,b2] at h <;> omega
theorem lC (l:List UInt8)(i:Nat)(h:i<l.length):mark l i=markB l[i]:=by
 unfold mark markB
 rw[if_neg (by omega)]
 simp[h]
theorem aee (a b:List UInt8):cmpO a b=0↔a=b:=by
 constructor
 ·intro h
  rw[eP a b (a.length+b.length+1) (by omega) (by omega)] at h
  have hm:=sx a b _ 0 h
  have hl:a.length=b.length:=by
   by_cases h1:a.length<b.length
   ·have:=hm a.length (by omega) (by omega)
    rw[ju a _ (Nat.le_refl _),lC b _ h1] at this
    exact absurd this.symm (sA _)
   ·by_cases h2:b.length<a.length
    ·have:=hm b.length (by omega) (by omega)
     rw[ju b _ (Nat.le_refl _),lC a _ h2] at this
     exact absurd this (sA _)
    ·omega
  apply List.ext_getElem hl
  intro i h1 h2
  have:=hm i (by omega) (by omega)
  rw[lC a _ h1,lC b _ h2] at this
  exact z8 _ _ this
 ·rintro rfl
  have:=sw.1 a a
  omega
theorem o4 (n:Nat)(a b:List UInt8):cmpP (n+1) a b=both (cmpD (digs a) (digs b)) (both (cmpO (oths (undigs a)) (oths (undigs b))) (cmpP n (tail2 a) (tail2 b))):=by
 rw[cmpP]
 split
 ·rename_i h
  simp only[Bool.and_eq_true,List.isEmpty_iff] at h
  obtain⟨rfl,rfl⟩:=h
  have h0:cmpP n (tail2 []) (tail2 [])=0:=by
   cases n with
   | zero=>rfl
   | succ n=>rfl
  rw[h0];rfl
 ·rfl
theorem cT:∀ n,Cmp3 (cmpP n)
 | 0=>sr
 | n+1=>by
  have h:=Cmp3.both (su.pull digs) (Cmp3.both (sw.pull (fun l=>oths (undigs l))) ((cT n).pull tail2))
  have e:cmpP (n+1)=fun a b=>both (cmpD (digs a) (digs b)) (both (cmpO (oths (undigs a)) (oths (undigs b))) (cmpP n (tail2 a) (tail2 b))):=by
   funext a b;exact o4 n a b
  rw[e];exact h
theorem eQ:Cmp3 cmpV:=Cmp3.both (su.pull ep) (Cmp3.both ((cT 41).pull pt) ((cT 41).pull rv))
theorem km (a b:Int):-1<=sgn a b/\sgn a b<=1:=by unfold sgn;split <;> (try split) <;> omega
theorem cU {x y:Int}(h1:-1<=x/\x<=1)(h2:-1<=y/\y<=1):-1<=both x y/\both x y<=1:=by unfold both;split <;> assumption
theorem eR:∀ a b:List UInt8,-1<=Lib.compareBytes a b/\Lib.compareBytes a b<=1
 | [],[]=>by decide
 | [],_ :: _=>by simp[Lib.compareBytes]
 | _ :: _,[]=>by simp[Lib.compareBytes]
 | a :: r,b :: s=>by rw[gj];exact cU (km _ _) (eR r s)
theorem nv (a b:List UInt8):-1<=cmpD a b/\cmpD a b<=1:=cU (km _ _) (eR _ _)
theorem lX (a b:List UInt8):∀ n i,-1<=cmpOF a b n i/\cmpOF a b n i<=1
 | 0,_=>by simp[cmpOF]
 | n+1,i=>by rw[cmpOF];exact cU (km _ _) (lX a b n (i+1))
theorem jv:∀ n a b,-1<=cmpP n a b/\cmpP n a b<=1
 | 0,_,_=>by simp[cmpP]
 | n+1,a,b=>by rw[o4];exact cU (nv _ _) (cU (lX _ _ _ _) (jv n _ _))
theorem cu (l m:List UInt8):-1<=cmpV l m/\cmpV l m<=1:=cU (nv _ _) (cU (jv _ _ _) (jv _ _ _))
end Vm
namespace Vm
theorem jw (l:List UInt8):digs l++undigs l=l:=List.takeWhile_append_dropWhile
theorem fT (l:List UInt8):oths l++unoths l=l:=List.takeWhile_append_dropWhile
theorem mF (l:List UInt8):(digs l).all dig=true:=by
 unfold digs
 induction l with
 | nil=>rfl
 | cons c r ih=>rw[List.takeWhile_cons];cases h:dig c <;> simp[h]
theorem sB (l:List UInt8):(oths l).all (fun c => !dig c)=true:=by
 unfold oths
 induction l with
 | nil=>rfl
 | cons c r ih=>rw[List.takeWhile_cons];cases h:dig c <;> simp[h]
def HdN (l:List UInt8):Prop:=∀ c,l.head? = some c->dig c=false
def HdY (l:List UInt8):Prop:=∀ c,l.head? = some c->dig c=true
theorem nw (l:List UInt8):HdN (undigs l):=by
 unfold undigs
 induction l with
 | nil=>intro c h;cases h
 | cons a r ih =>
  rw[List.dropWhile_cons]
  cases h:dig a
  ·intro c hc
   simp at hc;subst hc;exact h
  ·exact ih
theorem ny (l:List UInt8):HdY (unoths l):=by
 unfold unoths
 induction l with
 | nil=>intro c h;cases h
 | cons a r ih =>
  rw[List.dropWhile_cons]
  cases h:dig a
  ·exact ih
  ·intro c hc
   simp at hc;subst hc;exact h
theorem ab5 {a b:List UInt8}(ha:a.all dig=true)(hb:HdN b):digs (a++b)=a/\undigs (a++b)=b:=by
 unfold digs undigs
 induction a with
 | nil =>
  cases b with
  | nil=>exact⟨rfl,rfl⟩
  | cons c r=>have:=hb c rfl;simp[this]
 | cons c r ih =>
  simp only[List.all_cons,Bool.and_eq_true] at ha
  obtain⟨h1,h2⟩:=ih ha.2
  simp[ha.1,h1,h2]
theorem ab6 {a b:List UInt8}(ha:a.all (fun c => !dig c)=true)(hb:HdY b):oths (a++b)=a/\unoths (a++b)=b:=by
 unfold oths unoths
 induction a with
 | nil =>
  cases b with
  | nil=>exact⟨rfl,rfl⟩
  | cons c r=>have:=hb c rfl;simp[this]
 | cons c r ih =>
  simp only[List.all_cons,Bool.and_eq_true] at ha
  obtain⟨h1,h2⟩:=ih ha.2
  simp[ha.1,h1,h2]
theorem dY {l:List UInt8}(h:l.all dig=true):(bare l).all dig=true:=by
 unfold bare
 split
 ·decide
 ·rw[List.all_eq_true] at *
  exact fun x hx=>h x ((List.dropWhile_sublist _).subset hx)
theorem gl (l:List UInt8):bare l≠[]:=by
 unfold bare
 split
 ·simp
 ·rename_i h;simpa using h
theorem mG {l:List UInt8}(h:l≠[]):(bare l).length<=l.length:=by
 unfold bare
 split
 ·have:=List.length_pos_iff.2 h;simp;omega
 ·exact (List.dropWhile_sublist _).length_le
theorem qf (l:List UInt8):bare (bare l)=bare l:=by
 have key:∀ m:List UInt8,(m.dropWhile (. == 48)).dropWhile (. == 48)=m.dropWhile (. == 48):=by
  intro m
  induction m with
  | nil=>rfl
  | cons c r ih=>rw[List.dropWhile_cons];split <;> rename_i h <;> simp[h,ih]
 unfold bare
 cases h:(l.dropWhile (. == 48)).isEmpty
 ·simp only[Bool.false_eq_true,if_false]
  rw[key,h];rfl
 ·rfl
theorem aef {l:List UInt8}(h:l.all ok1=true):(bare l).all ok1=true:=by
 unfold bare
 split
 ·decide
 ·rw[List.all_eq_true] at *
  exact fun x hx=>h x ((List.dropWhile_sublist _).subset hx)
def GP (l:List UInt8):Prop:=HdY l/\∀ c,l.getLast? = some c->dig c=true
theorem jx {a b:List UInt8}(h:b≠[]):(a++b).getLast? = b.getLast?:=by
 rw[List.getLast?_append]
 cases hb:b.getLast? with
 | none=>exact absurd (List.getLast?_eq_none_iff.1 hb) h
 | some c=>rfl
theorem gz {l:List UInt8}(h:GP l):GP (tail2 l)/\(tail2 l=[]->undigs l=[]):=by
 have e1:=jw l
 have e2:=fT (undigs l)
 refine⟨⟨ny _,?_⟩,?_⟩
 ·intro c hc
  have aa:tail2 l≠[]:=by intro h0;rw[h0] at hc;cases hc
  have:l.getLast? = (tail2 l).getLast?:=by
   conv=>lhs;rw[<-e1,<-e2,<-List.append_assoc]
   exact jx aa
  exact h.2 c (this.trans hc)
 ·intro h0
  by_cases hu:undigs l=[]
  ·exact hu
  ·exfalso
   have h1:unoths (undigs l)=[]:=h0
   rw[h1,List.append_nil] at e2
   have hl:l.getLast? = (undigs l).getLast?:=by
    conv=>lhs;rw[<-e1]
    exact jx hu
   cases hx:(undigs l).getLast? with
   | none=>exact hu (List.getLast?_eq_none_iff.1 hx)
   | some c =>
    have hd:=h.2 c (hl.trans hx)
    have ho:=sB (undigs l)
    rw[e2,List.all_eq_true] at ho
    have:=ho c (List.mem_of_getLast? hx)
    rw[hd] at this;cases this
theorem xl {l:List UInt8}(h:HdY l)(h0:l≠[]):digs l≠[]:=by
 cases l with
 | nil=>exact absurd rfl h0
 | cons c r=>have:=h c rfl;simp[digs,this]
theorem gV {l:List UInt8}(h:HdY l)(h0:l≠[]):(tail2 l).length<l.length:=by
 have h1:=List.length_pos_iff.2 (xl h h0)
 have e1:=congrArg List.length (jw l)
 have e2:=congrArg List.length (fT (undigs l))
 rw[List.length_append] at e1 e2
 unfold tail2;omega
theorem fU (n:Nat):canonP n []=[]:=by cases n <;> rfl
theorem bC (n:Nat){l:List UInt8}(h:l≠[]):canonP (n+1) l=bare (digs l)++(oths (undigs l)++canonP n (tail2 l)):=by
 rw[canonP,if_neg (by simpa using h),List.append_assoc]
theorem cV (n:Nat){l:List UInt8}(h:l≠[])(hl:l.length<=n):canonP n l≠[]:=by
 cases n with
 | zero=>exact absurd (List.eq_nil_of_length_eq_zero (by omega)) h
 | succ n=>rw[bC n h];have:=gl (digs l);simp[this]
theorem nz (n:Nat)(l:List UInt8):HdY (canonP n l):=by
 cases n with
 | zero=>intro c h;cases h
 | succ n =>
  by_cases h:l=[]
  ·subst h;intro c h;cases h
  ·rw[bC n h]
   have h1:=gl (digs l)
   have h2:=dY (mF l)
   intro c hc
   cases hb:bare (digs l) with
   | nil=>exact absurd hb h1
   | cons a r =>
    rw[hb] at hc h2
    simp at hc;subst hc
    simp only[List.all_cons,Bool.and_eq_true] at h2;exact h2.1
theorem iM (n:Nat){l:List UInt8}(h0:l≠[]):digs (canonP (n+1) l)=bare (digs l)/\undigs (canonP (n+1) l)=oths (undigs l)++canonP n (tail2 l) /\
  oths (undigs (canonP (n+1) l))=oths (undigs l)/\tail2 (canonP (n+1) l)=canonP n (tail2 l):=by
 have hN:HdN (oths (undigs l)++canonP n (tail2 l)):=by
  by_cases hu:undigs l=[]
  ·have ht:tail2 l=[]:=by unfold tail2;rw[hu];rfl
   rw[hu,ht,fU];intro c hc;cases hc
  ·have hd:=nw l
   have e2:=fT (undigs l)
   cases hx:undigs l with
   | nil=>exact absurd hx hu
   | cons a r =>
    have ha:=hd a (by rw[hx];rfl)
    have:oths (a :: r)=a :: oths r:=by simp[oths,ha]
    rw[this];intro c hc;simp at hc;subst hc;exact ha
 rw[bC n h0]
 obtain⟨g1,g2⟩:=ab5 (dY (mF l)) hN
 obtain⟨g3,g4⟩:=ab6 (sB (undigs l)) (nz n (tail2 l))
 refine⟨g1,g2,by rw[g2,g3],?_⟩
 unfold tail2 at *
 rw[g2,g4]
theorem iN:∀ (n:Nat) (l:List UInt8),GP l->l.length<=n->canonP n (canonP n l)=canonP n l
 | 0,_,_,_=>rfl
 | n+1,l,h,hl=>by
  by_cases h0:l=[]
  ·subst h0;rfl
  ·obtain⟨r1,_,r3,r4⟩:=iM n h0
   have ih:=iN n (tail2 l) (gz h).1 (by have:=gV h.1 h0;omega)
   rw[bC n (cV (n+1) h0 hl),r1,r3,r4,ih,qf,<-bC n h0]
theorem jy:∀ (n:Nat) (l:List UInt8),HdY l->(canonP n l).length<=l.length
 | 0,_,_=>by simp[canonP]
 | n+1,l,h=>by
  by_cases h0:l=[]
  ·subst h0;simp[canonP]
  ·have ih:=jy n (tail2 l) (ny _)
   have h1:=mG (xl h h0)
   have e1:=congrArg List.length (jw l)
   have e2:=congrArg List.length (fT (undigs l))
   rw[List.length_append] at e1 e2
   rw[bC n h0,List.length_append,List.length_append]
   unfold tail2 at *
   omega
theorem lY:∀ (n:Nat) (l:List UInt8),GP l->l.length<=n->∀ c,(canonP n l).getLast? = some c->dig c=true
 | 0,_,_,_,c,hc=>by cases hc
 | n+1,l,h,hl,c,hc=>by
  by_cases h0:l=[]
  ·subst h0;cases hc
  ·have ht:=gV h.1 h0
   rw[bC n h0] at hc
   by_cases h1:tail2 l=[]
   ·have hu:=(gz h).2 h1
    rw[hu,h1,fU] at hc
    have hb:=dY (mF l)
    rw[List.all_eq_true] at hb
    apply hb
    have:oths ([]:List UInt8)++[]=[]:=rfl
    rw[this,List.append_nil] at hc
    exact List.mem_of_getLast? hc
   ·have aa:=cV n h1 (by omega)
    rw[jx (by simp[aa]),jx aa] at hc
    exact lY n (tail2 l) (gz h).1 (by omega) c hc
theorem gW:∀ (n:Nat) (l:List UInt8),l.all ok1=true->(canonP n l).all ok1=true
 | 0,_,_=>rfl
 | n+1,l,h=>by
  by_cases h0:l=[]
  ·subst h0;rfl
  ·have sub:∀ m:List UInt8,m.Sublist l->m.all ok1=true:=fun m hm=>by
    rw[List.all_eq_true] at *;exact fun x hx=>h x (hm.subset hx)
   have s1:(digs l).Sublist l:=List.takeWhile_sublist _
   have s2:(undigs l).Sublist l:=List.dropWhile_sublist _
   have s3:(oths (undigs l)).Sublist l:=(List.takeWhile_sublist _).trans s2
   have s4:(tail2 l).Sublist l:=(List.dropWhile_sublist _).trans s2
   rw[bC n h0,List.all_append,List.all_append,aef (sub _ s1),sub _ s3,gW n _ (sub _ s4)];rfl
theorem fV:∀ (n:Nat) (a b:List UInt8),GP a->GP b->a≠[]->b≠[]->a.length<=n->b.length<=n->(cmpP n a b=0↔canonP n a=canonP n b)
 | 0,a,_,_,_,ha,_,hl,_=>absurd (List.eq_nil_of_length_eq_zero (by omega)) ha
 | n+1,a,b,ga,gb,ha,hb,la,lb=>by
  obtain⟨r1,_,r3,r4⟩:=iM n ha
  obtain⟨s1,_,s3,s4⟩:=iM n hb
  obtain⟨ad,af⟩:=gz ga
  obtain⟨ae,ag⟩:=gz gb
  have ah:=gV ga.1 ha
  have ai:=gV gb.1 hb
  have aa:∀ l:List UInt8,oths (undigs l)=[]->undigs l=[]:=fun l h=>by
   cases hx:undigs l with
   | nil=>rfl
   | cons c r =>
    have hc:=nw l c (by rw[hx];rfl)
    rw[hx] at h;simp[oths,hc] at h
  have ab:∀ l:List UInt8,undigs l=[]->tail2 l=[]:=fun l h=>by unfold tail2;rw[h];rfl
  have ac:∀ l:List UInt8,undigs l=[]->oths (undigs l)=[]:=fun l h=>by rw[h];rfl
  rw[o4,ec,ec,xk,aee]
  constructor
  ·rintro⟨h1,h2,h3⟩
   rw[bC n ha,bC n hb,h1,h2]
   by_cases ta:tail2 a=[]
   ·have tb:tail2 b=[]:=ab b (aa b (by rw[<-h2];exact ac a (af ta)))
    rw[ta,tb]
   ·by_cases tb:tail2 b=[]
    ·exact absurd (ab a (aa a (by rw[h2];exact ac b (ag tb)))) ta
    ·rw[(fV n (tail2 a) (tail2 b) ad ae ta tb (by omega) (by omega)).1 h3]
  ·intro h
   rw[h] at r1 r3 r4
   refine⟨r1.symm.trans s1,r3.symm.trans s3,?_⟩
   have ht:canonP n (tail2 a)=canonP n (tail2 b):=r4.symm.trans s4
   by_cases ta:tail2 a=[]
   ·by_cases tb:tail2 b=[]
    ·rw[ta,tb];have:=(cT n).1 [] [];omega
    ·rw[ta,fU] at ht;exact absurd ht.symm (cV n tb (by omega))
   ·by_cases tb:tail2 b=[]
    ·rw[tb,fU] at ht;exact absurd ht (cV n ta (by omega))
    ·exact (fV n (tail2 a) (tail2 b) ad ae ta tb (by omega) (by omega)).2 ht
end Vm
namespace Vm
theorem cI {l:List UInt8}(h:check l=0):l.length<=40/\epOk (ep l)=true/\partOk (pt l)=true/\partOk (rv l)=true:=by
 unfold check at h
 split at h
 ·cases h
 ·split at h
  ·rename_i h1 h2
   unfold verOk at h2
   simp only[Bool.and_eq_true] at h2
   exact⟨by omega,h2.1,h2.2.1,h2.2.2⟩
  ·cases h
theorem afq {l:List UInt8}(h:l.length<=40)(h1:epOk (ep l)=true)(h2:partOk (pt l)=true)(h3:partOk (rv l)=true):check l=0:=by
 unfold check verOk
 rw[if_neg (by omega),h1,h2,h3];rfl
theorem jz (l:List UInt8):partOk l=true↔l≠[]/\GP l/\l.all ok1=true:=by
 cases l with
 | nil=>simp[partOk]
 | cons c r =>
  have hl:(c :: r).getLast? = some ((c :: r).getD ((c :: r).length-1) 0):=by
   rw[List.getLast?_eq_getElem?];simp
  unfold partOk GP HdY
  rw[hl]
  simp only[List.isEmpty_cons,Bool.not_false,Bool.true_and,Bool.and_eq_true,List.head?_cons,Option.some.injEq,forall_eq',ne_eq,reduceCtorEq,not_false_eq_true,true_and,and_assoc]
  rfl
theorem gA (l:List UInt8):epOk l=true↔l≠[]/\l.length<=6/\l.all dig=true:=by
 cases l <;> simp[epOk]
theorem no58 {l:List UInt8}(h:l.all ok1=true):∀ c∈l,c≠58/\c≠45:=by
 intro c hc
 rw[List.all_eq_true] at h
 have:=h c hc
 constructor <;> (rintro rfl;exact absurd this (by decide))
theorem afr {l:List UInt8}(h:l.all dig=true):l.all ok1=true:=by
 rw[List.all_eq_true] at *
 intro c hc
 rw[ok1,h c hc];rfl
theorem o5 (c:UInt8){a:List UInt8}(b:List UInt8)(h:∀ x∈a,x≠c):fst c (a++c :: b)=a/\snd c (a++c :: b)=b/\has c (a++c :: b)=true:=by
 unfold fst snd has
 induction a with
 | nil=>simp
 | cons x r ih =>
  have hx:(x != c)=true:=by simpa using h x (by simp)
  obtain⟨h1,h2,h3⟩:=ih (fun y hy=>h y (by simp[hy]))
  refine⟨by simp[hx,h1],by simpa [hx] using h2,by simp⟩
theorem nA (c:UInt8){a:List UInt8}(h:∀ x∈a,x≠c):has c a=false/\fst c a=a:=by
 unfold fst has
 induction a with
 | nil=>simp
 | cons x r ih =>
  have hx:x≠c:=h x (by simp)
  obtain⟨h1,h2⟩:=ih (fun y hy=>h y (by simp[hy]))
  refine⟨?_,by simp[hx,h2]⟩
  have:(c==x)=false:=by simpa using fun e=>hx e.symm
  rw[List.contains_cons,this,Bool.false_or];exact h1
def glue (e p r:List UInt8):List UInt8:=(if e.isEmpty then [] else e++[58])++p++(if r.isEmpty then [] else 45 :: r)
theorem vD (e p r:List UInt8)(he:e.all dig=true)(hp:p.all ok1=true)(hr:r.all ok1=true) :
  ep (glue e p r)=(if e.isEmpty then [48] else e)/\pt (glue e p r)=p/\rv (glue e p r)=(if r.isEmpty then [48] else r):=by
 have ab:∀ x∈p++(if r.isEmpty then [] else 45 :: r),x≠58:=by
  intro x hx
  rcases List.mem_append.1 hx with hx | hx
  ·exact (no58 hp x hx).1
  ·split at hx
   ·cases hx
   ·rcases List.mem_cons.1 hx with rfl | hx
    ·decide
    ·exact (no58 hr x hx).1
 have aa:rest (glue e p r)=p++(if r.isEmpty then [] else 45 :: r)/\ep (glue e p r)=(if e.isEmpty then [48] else e):=by
  unfold rest ep glue
  cases hE:e.isEmpty
  ·have h3:(if false=true then [] else e++[58])++p++(if r.isEmpty then [] else 45 :: r)=e++58 :: (p++(if r.isEmpty then [] else 45 :: r)):=by simp
   rw[h3]
   obtain⟨g1,g2,g3⟩:=o5 58 (p++(if r.isEmpty then [] else 45 :: r)) (fun x hx=>(no58 (afr he) x hx).1)
   rw[g1,g2,g3];exact⟨rfl,rfl⟩
  ·have h3:(if true=true then [] else e++[58])++p++(if r.isEmpty then [] else 45 :: r)=p++(if r.isEmpty then [] else 45 :: r):=by simp
   rw[h3,(nA 58 ab).1];exact⟨rfl,rfl⟩
 refine⟨aa.2,?_,?_⟩
 ·unfold pt
  rw[aa.1]
  cases hR:r.isEmpty
  ·exact (o5 45 r (fun x hx=>(no58 hp x hx).2)).1
  ·simp only[if_true,List.append_nil]
   exact (nA 45 (fun x hx=>(no58 hp x hx).2)).2
 ·unfold rv
  rw[aa.1]
  cases hR:r.isEmpty
  ·have g:=o5 45 r (fun x hx=>(no58 hp x hx).2)
   simp only[Bool.false_eq_true,if_false]
   rw[g.2.2,g.2.1];rfl
  ·simp only[if_true,List.append_nil]
   rw[(nA 45 (fun x hx=>(no58 hp x hx).2)).1];rfl
theorem recon (c:UInt8)(l:List UInt8)(h:has c l=true):l=fst c l++c :: snd c l:=by
 unfold has fst snd at *
 induction l with
 | nil=>cases h
 | cons x r ih =>
  by_cases hx:x=c
  ·subst hx;simp
  ·have h1:(x != c)=true:=by simpa using hx
   have h2:(c==x)=false:=by simpa using fun e=>hx e.symm
   rw[List.contains_cons,h2,Bool.false_or] at h
   rw[List.takeWhile_cons,List.dropWhile_cons,h1]
   simp only[if_true,List.cons_append]
   rw[<-ih h]
theorem lengths (l:List UInt8):(if has 58 l then (ep l).length+1 else 0)+(pt l).length+(if has 45 (rest l) then (rv l).length+1 else 0)=l.length:=by
 have h2:(pt l).length+(if has 45 (rest l) then (rv l).length+1 else 0)=(rest l).length:=by
  unfold pt rv
  cases h:has 45 (rest l)
  ·have:fst 45 (rest l)=rest l:=by
    refine (nA 45 (fun x hx e=>?_)).2
    subst e
    unfold has at h
    rw[List.contains_iff_mem.2 hx] at h;cases h
   rw[this];simp
  ·have e:=congrArg List.length (recon 45 (rest l) h)
   rw[List.length_append,List.length_cons] at e
   simp only[if_true];omega
 have h1:(if has 58 l then (ep l).length+1 else 0)+(rest l).length=l.length:=by
  unfold ep rest
  cases h:has 58 l
  ·simp
  ·have e:=congrArg List.length (recon 58 l h)
   rw[List.length_append,List.length_cons] at e
   simp only[if_true];omega
 omega
theorem dV {l:List UInt8}(h:partOk l=true):l≠[]/\GP l/\l.all ok1=true:=(jz l).1 h
theorem eA {l:List UInt8}(h:check l=0):(rv l).length<=41/\(pt l).length<=41:=by
 have h1:=lengths l
 have h2:=(cI h).1
 refine⟨?_,by omega⟩
 cases h3:has 45 (rest l)
 ·unfold rv;rw[h3];simp
 ·rw[h3] at h1;simp only[if_true] at h1;omega
theorem yF {l:List UInt8}(hv:check l=0):canon l=glue (if bare (ep l)==[48] then [] else bare (ep l)) (canonP 41 (pt l)) (if canonP 41 (rv l)==[48] then [] else canonP 41 (rv l)):=by
 unfold canon canonE canonR glue
 have h1:=gl (ep l)
 have h2:=cV 41 (dV (cI hv).2.2.2).1 (eA hv).1
 congr 1
 ·congr 1
  cases h:bare (ep l)==[48]
  ·have:(bare (ep l)).isEmpty=false:=by simpa using h1
   simp[this]
  ·simp
 ·cases h:canonP 41 (rv l)==[48]
  ·have:(canonP 41 (rv l)).isEmpty=false:=by simpa using h2
   simp[this]
  ·simp
theorem eB {l:List UInt8}(hv:check l=0):ep (canon l)=bare (ep l)/\pt (canon l)=canonP 41 (pt l)/\rv (canon l)=canonP 41 (rv l):=by
 obtain⟨_,v1,v2,v3⟩:=cI hv
 obtain⟨p1,p2,p3⟩:=dV v2
 obtain⟨r1,r2,r3⟩:=dV v3
 have e3:=((gA _).1 v1).2.2
 rw[yF hv]
 have g:=vD (if bare (ep l)==[48] then [] else bare (ep l)) (canonP 41 (pt l)) (if canonP 41 (rv l)==[48] then [] else canonP 41 (rv l))
  (by
   split
   ·rfl
   ·exact dY e3) (gW 41 _ p3)
  (by
   split
   ·rfl
   ·exact gW 41 _ r3)
 refine⟨g.1.trans ?_,g.2.1,g.2.2.trans ?_⟩
 ·have h1:=gl (ep l)
  cases h:bare (ep l)==[48]
  ·have:(bare (ep l)).isEmpty=false:=by simpa using h1
   simp[this]
  ·simp;exact (by simpa using h:bare (ep l)=[48]).symm
 ·have h2:=cV 41 r1 (eA hv).1
  cases h:canonP 41 (rv l)==[48]
  ·have:(canonP 41 (rv l)).isEmpty=false:=by simpa using h2
   simp[this]
  ·simp;exact (by simpa using h:canonP 41 (rv l)=[48]).symm
theorem nB {p:List UInt8}(h:partOk p=true)(hl:p.length<=41):partOk (canonP 41 p)=true:=by
 obtain⟨p1,p2,p3⟩:=dV h
 exact (jz _).2 ⟨cV 41 p1 hl,⟨nz 41 p,lY 41 p p2 hl⟩,gW 41 p p3⟩
theorem lZ {l:List UInt8}(hv:check l=0):check (canon l)=0:=by
 obtain⟨hl,v1,v2,v3⟩:=cI hv
 obtain⟨c1,c2,c3⟩:=eB hv
 obtain⟨e1,e2,e3⟩:=(gA _).1 v1
 have lv:=eA hv
 have hlen:(canon l).length<=l.length:=by
  have h:=lengths l
  have le:=mG e1
  have lp:=jy 41 (pt l) (dV v2).2.1.1
  have lr:=jy 41 (rv l) (dV v3).2.1.1
  have hE:(canonE l).length<=(if has 58 l then (ep l).length+1 else 0):=by
   unfold canonE
   cases h1:has 58 l
   ·have:ep l=[48]:=by unfold ep;rw[h1];rfl
    rw[this];decide
   ·split
    ·simp
    ·simp;omega
  have hR:(canonR l).length<=(if has 45 (rest l) then (rv l).length+1 else 0):=by
   unfold canonR
   cases h1:has 45 (rest l)
   ·have:rv l=[48]:=by unfold rv;rw[h1];rfl
    rw[this];decide
   ·split
    ·simp
    ·simp;omega
  unfold canon
  rw[List.length_append,List.length_append]
  omega
 refine afq (by omega) ?_ ?_ ?_
 ·rw[c1];exact (gA _).2 ⟨gl _,by have:=mG e1;omega,dY e3⟩
 ·rw[c2];exact nB v2 lv.2
 ·rw[c3];exact nB v3 lv.1
theorem l8 {l:List UInt8}(hv:check l=0):canon (canon l)=canon l:=by
 obtain⟨_,v1,v2,v3⟩:=cI hv
 obtain⟨c1,c2,c3⟩:=eB hv
 have lv:=eA hv
 have i2:=iN 41 (pt l) (dV v2).2.1 lv.2
 have i3:=iN 41 (rv l) (dV v3).2.1 lv.1
 show canonE (canon l)++canonP 41 (pt (canon l))++canonR (canon l)=canonE l++canonP 41 (pt l)++canonR l
 unfold canonE canonR
 rw[c1,c2,c3,qf,i2,i3]
theorem yH {l m:List UInt8}(hl:check l=0)(hm:check m=0):cmpV l m=0↔canon l=canon m:=by
 obtain⟨_,_,v2,v3⟩:=cI hl
 obtain⟨_,_,u2,u3⟩:=cI hm
 have lv:=eA hl
 have lu:=eA hm
 obtain⟨p1,p2,_⟩:=dV v2
 obtain⟨r1,r2,_⟩:=dV v3
 obtain⟨q1,q2,_⟩:=dV u2
 obtain⟨s1,s2,_⟩:=dV u3
 unfold cmpV
 rw[ec,ec,xk,fV 41 _ _ p2 q2 p1 q1 lv.2 lu.2,fV 41 _ _ r2 s2 r1 s1 lv.1 lu.1]
 constructor
 ·rintro⟨h1,h2,h3⟩
  unfold canon canonE canonR
  rw[h1,h2,h3]
 ·intro h
  obtain⟨c1,c2,c3⟩:=eB hl
  obtain⟨d1,d2,d3⟩:=eB hm
  rw[h] at c1 c2 c3
  exact⟨c1.symm.trans d1,c2.symm.trans d2,c3.symm.trans d3⟩
theorem ab7 (l:List UInt8):∀ a,l.foldl (fun n c=>10*n+(c.toNat-48)) a=a*10 ^ l.length+num l:=by
 induction l with
 | nil=>intro a;simp[num]
 | cons c r ih =>
  intro a
  unfold num at *
  simp only[List.foldl_cons,List.length_cons]
  rw[ih,ih (10*0+(c.toNat-48)),Nat.pow_succ]
  simp only[Nat.add_mul,Nat.mul_zero,Nat.zero_add]
  have:a*(10 ^ r.length*10)=10*a*10 ^ r.length:=by rw[Nat.mul_comm (10 ^ r.length) 10,<-Nat.mul_assoc,Nat.mul_comm a 10]
  omega
theorem gB (c:UInt8)(r:List UInt8):num (c :: r)=(c.toNat-48)*10 ^ r.length+num r:=by
 have:=ab7 r (c.toNat-48)
 unfold num at *
 simpa using this
theorem sC (l:List UInt8)(h:l.all dig=true):num l<10 ^ l.length:=by
 induction l with
 | nil=>simp[num]
 | cons c r ih =>
  simp only[List.all_cons,Bool.and_eq_true] at h
  have h1:=ih h.2
  have h2:c.toNat-48<=9:=by have:=h.1;unfold dig at this;simp at this;omega
  rw[gB,List.length_cons,Nat.pow_succ]
  have:(c.toNat-48)*10 ^ r.length<=9*10 ^ r.length:=Nat.mul_le_mul_right _ h2
  omega
theorem sD (l:List UInt8):num (bare l)=num l:=by
 have key:∀ l:List UInt8,num (l.dropWhile (. == 48))=num l:=by
  intro l
  induction l with
  | nil=>rfl
  | cons c r ih =>
   rw[List.dropWhile_cons]
   split
   ·rename_i h
    rw[ih,gB,show c=48 from by simpa using h];simp
   ·rfl
 unfold bare
 split
 ·rename_i h
  have:=key l
  rw[show l.dropWhile (. == 48)=[] from by simpa using h] at this
  rw[<-this];rfl
 ·exact key l
theorem kn {a b:Int}(h:a<b):sgn a b = -1:=by unfold sgn;rw[if_pos h]
theorem ko {a b:Int}(h:b<a):sgn a b=1:=by unfold sgn;rw[if_neg (by omega),if_pos h]
theorem aeg (q a b:Int):sgn (q+a) (q+b)=sgn a b:=by
 by_cases h1:a<b
 ·rw[kn h1,kn (by omega)]
 ·by_cases h2:b<a
  ·rw[ko h2,ko (by omega)]
  ·rw[(b9 a b).2 (by omega),(b9 _ _).2 (by omega)]
theorem z9:∀ a b:List UInt8,a.length=b.length->a.all dig=true->b.all dig=true->Lib.compareBytes a b=sgn (num a) (num b)
 | [],[],_,_,_=>rfl
 | [],_ :: _,h,_,_=>by cases h
 | _ :: _,[],h,_,_=>by cases h
 | a :: r,b :: s,h,ha,hb=>by
  simp only[List.all_cons,Bool.and_eq_true] at ha hb
  have hl:r.length=s.length:=by simpa using h
  have ih:=z9 r s hl ha.2 hb.2
  have h1:=sC r ha.2
  have h2:=sC s hb.2
  have da:48<=a.toNat/\a.toNat<=57:=by have:=ha.1;unfold dig at this;simpa using this
  have db:48<=b.toNat/\b.toNat<=57:=by have:=hb.1;unfold dig at this;simpa using this
  rw[gj,gB,gB,ih,hl]
  rw[hl] at h1
  generalize 10 ^ s.length=P at *
  rcases Nat.lt_trichotomy a.toNat b.toNat with hlt | heq | hgt
  ·have:(a.toNat-48)*P+P<=(b.toNat-48)*P:=by
    rw[<-Nat.succ_mul];exact Nat.mul_le_mul_right _ (by omega)
   rw[kn (show (a.toNat:Int)<b.toNat by omega),kn (show (((a.toNat-48)*P+num r:Nat):Int)<((b.toNat-48)*P+num s:Nat) by omega)];rfl
  ·rw[(b9 (a.toNat:Int) b.toNat).2 (by omega),heq]
   generalize (b.toNat-48)*P=Q
   rw[show ((Q+num r:Nat):Int)=(Q:Int)+(num r:Int) from by omega,show ((Q+num s:Nat):Int)=(Q:Int)+(num s:Int) from by omega,aeg];rfl
  ·have:(b.toNat-48)*P+P<=(a.toNat-48)*P:=by
    rw[<-Nat.succ_mul];exact Nat.mul_le_mul_right _ (by omega)
   rw[ko (show (b.toNat:Int)<a.toNat by omega),ko (show (((b.toNat-48)*P+num s:Nat):Int)<((a.toNat-48)*P+num r:Nat) by omega)];rfl
theorem fW {l:List UInt8}(h:l.all dig=true):bare l=[48]\/∃ c r,bare l=c :: r/\49<=c.toNat:=by
 unfold bare
 cases hd:l.dropWhile (. == 48) with
 | nil=>left;rfl
 | cons c r =>
  right
  refine⟨c,r,rfl,?_⟩
  have aa:(c==48)=false:=by
   have:=List.head?_dropWhile_not (. == 48) l
   rw[hd] at this
   simpa using this
  have hc:dig c=true:=by
   rw[List.all_eq_true] at h
   exact h c ((List.dropWhile_sublist _).subset (by rw[hd];simp))
  unfold dig at hc
  simp at hc
  have:c.toNat≠48:=fun e=>by
   have:c=48:=UInt8.toNat.inj e
   subst this;cases aa
  omega
theorem ab8 (a b:List UInt8)(ha:a.all dig=true)(hb:b.all dig=true):cmpD a b=sgn (num a) (num b):=by
 have ea:=sD a
 have eb:=sD b
 have aa:=dY ha
 have ab:=dY hb
 have low:∀ x y:List UInt8,(x=[48]\/∃ c r,x=c :: r/\49<=c.toNat)->(y=[48]\/∃ c r,y=c :: r/\49<=c.toNat)->x.all dig=true->x.length<y.length->num x<num y:=by
  intro x y hx hy ax ac
  have h1:=sC x ax
  rcases hy with rfl | ⟨c,r,rfl,hc⟩
  ·have:x=[]:=List.eq_nil_of_length_eq_zero (by have:x.length<1:=ac;omega)
   subst this
   rcases hx with h | ⟨_,_,h,_⟩ <;> cases h
  ·rw[gB]
   have h2:10 ^ x.length<=10 ^ r.length:=Nat.pow_le_pow_right (by decide) (by simp at ac;omega)
   have h3:1*10 ^ r.length<=(c.toNat-48)*10 ^ r.length:=Nat.mul_le_mul_right _ (by omega)
   omega
 unfold cmpD
 rw[<-ea,<-eb]
 rcases Nat.lt_trichotomy (bare a).length (bare b).length with ac | heq | hgt
 ·have:=low _ _ (fW ha) (fW hb) aa ac
  have e1:sgn ((bare a).length:Int) (bare b).length = -1:=by unfold sgn;rw[if_pos (by omega)]
  rw[e1]
  unfold both sgn
  rw[if_pos (show ((num (bare a):Nat):Int)<num (bare b) by omega)];rfl
 ·rw[show sgn ((bare a).length:Int) (bare b).length=0 from (b9 _ _).2 (by omega)]
  rw[z9 _ _ heq aa ab];rfl
 ·have:=low _ _ (fW hb) (fW ha) ab hgt
  have e1:sgn ((bare a).length:Int) (bare b).length=1:=by unfold sgn;rw[if_neg (by omega),if_pos (by omega)]
  rw[e1]
  unfold both sgn
  rw[if_neg (show ¬ ((num (bare a):Nat):Int)<num (bare b) by omega),if_pos (show ((num (bare b):Nat):Int)<num (bare a) by omega)];rfl
end Vm
end Go.Proofs.YtgnaiidgjmicaaaGreatDoor
