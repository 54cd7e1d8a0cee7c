/- Part 1 of what the laws lean on. -/
import Derived.Lib.IndexAny
import Derived.Lib.SlTrimSet
import Derived.Test.YtgnaiidgjmicaaaGreatDoorL00
namespace Go.Proofs.YtgnaiidgjmicaaaGreatDoor
namespace Vm
def dig (c:UInt8):Bool:=decide (48<=c.toNat)&&decide (c.toNat<=57)
def ltr (c:UInt8):Bool:=(decide (97<=c.toNat)&&decide (c.toNat<=122))||(decide (65<=c.toNat)&&decide (c.toNat<=90))
def oth (c:UInt8):Bool:=ltr c||(c.toNat==46||(c.toNat==43||c.toNat==126))
def ok1 (c:UInt8):Bool:=dig c||oth c
def partOk (l:List UInt8):Bool := !l.isEmpty&&(dig (l.getD 0 0)&&(dig (l.getD (l.length-1) 0)&&l.all ok1))
def epOk (l:List UInt8):Bool := !l.isEmpty&&(decide (l.length<=6)&&l.all dig)
def fst (c:UInt8) (l:List UInt8):List UInt8:=l.takeWhile (. != c)
def snd (c:UInt8) (l:List UInt8):List UInt8:=(l.dropWhile (. != c)).drop 1
def has (c:UInt8) (l:List UInt8):Bool:=l.contains c
def ep (l:List UInt8):List UInt8:=if has 58 l then fst 58 l else [48]
def rest (l:List UInt8):List UInt8:=if has 58 l then snd 58 l else l
def pt (l:List UInt8):List UInt8:=fst 45 (rest l)
def rv (l:List UInt8):List UInt8:=if has 45 (rest l) then snd 45 (rest l) else [48]
def verOk (l:List UInt8):Bool:=epOk (ep l)&&(partOk (pt l)&&partOk (rv l))
def check (l:List UInt8):Int:=if 40<l.length then 4 else if verOk l then 0 else 5
def bare (l:List UInt8):List UInt8:=if (l.dropWhile (. == 48)).isEmpty then [48] else l.dropWhile (. == 48)
def digs (l:List UInt8):List UInt8:=l.takeWhile dig
def undigs (l:List UInt8):List UInt8:=l.dropWhile dig
def oths (l:List UInt8):List UInt8:=l.takeWhile (fun c => !dig c)
def unoths (l:List UInt8):List UInt8:=l.dropWhile (fun c => !dig c)
def tail2 (l:List UInt8):List UInt8:=unoths (undigs l)
def canonP:Nat->List UInt8->List UInt8
 | 0,_=>[]
 | n+1,l=>if l.isEmpty then [] else bare (digs l)++oths (undigs l)++canonP n (tail2 l)
def canonE (l:List UInt8):List UInt8:=if bare (ep l)==[48] then [] else bare (ep l)++[58]
def canonR (l:List UInt8):List UInt8:=if canonP 41 (rv l)==[48] then [] else 45 :: canonP 41 (rv l)
def canon (l:List UInt8):List UInt8:=canonE l++canonP 41 (pt l)++canonR l
def sgn (a b:Int):Int:=if a<b then -1 else if b<a then 1 else 0
def both (a b:Int):Int:=if a==0 then b else a
def cmpD (a b:List UInt8):Int:=both (sgn (bare a).length (bare b).length) (Lib.compareBytes (bare a) (bare b))
def mark (l:List UInt8) (i:Nat):Int :=
 if l.length<=i then 0 else if (l.getD i 0).toNat==126 then -1 else if ltr (l.getD i 0) then ((l.getD i 0).toNat:Int) else 256+((l.getD i 0).toNat:Int)
def markB (c:UInt8):Int:=if c.toNat==126 then -1 else if ltr c then (c.toNat:Int) else 256+(c.toNat:Int)
def cmpOF (a b:List UInt8):Nat->Nat->Int
 | 0,_=>0
 | n+1,i=>both (sgn (mark a i) (mark b i)) (cmpOF a b n (i+1))
def cmpO (a b:List UInt8):Int:=cmpOF a b (max a.length b.length) 0
def cmpP:Nat->List UInt8->List UInt8->Int
 | 0,_,_=>0
 | n+1,a,b=>if a.isEmpty&&b.isEmpty then 0 else both (cmpD (digs a) (digs b)) (both (cmpO (oths (undigs a)) (oths (undigs b))) (cmpP n (tail2 a) (tail2 b)))
def cmpV (l m:List UInt8):Int:=both (cmpD (ep l) (ep m)) (both (cmpP 41 (pt l) (pt m)) (cmpP 41 (rv l) (rv m)))
def num (l:List UInt8):Nat:=l.foldl (fun n c=>10*n+(c.toNat-48)) 0
end Vm
namespace Vm
def Cmp3 {α:Type} (f:α->α->Int):Prop:=(∀ a b,f b a =-f a b)/\(∀ a b c,f a b<=0->f b c<=0->f a c<=0)
theorem dE (a b:Int):sgn a b<=0↔a<=b:=by unfold sgn;split <;> (try split) <;> omega
theorem cu (a b:Int):sgn a b=0↔a=b:=by unfold sgn;split <;> (try split) <;> omega
theorem nQ (a b:Int):sgn b a =-sgn a b:=by unfold sgn;by_cases h1:a<b <;> by_cases h2:b<a <;> simp[h1,h2] <;> omega
theorem rz:Cmp3 sgn:=⟨fun a b=>nQ a b,fun a b c h1 h2=>by rw[dE] at *;omega⟩
theorem cR {x y:Int}:both x y=0↔x=0/\y=0:=by
 unfold both
 by_cases h:x=0
 ·simp[h]
 ·simp[h]
theorem Cmp3.both {α:Type}{f g:α->α->Int}(hf:Cmp3 f)(hg:Cmp3 g):Cmp3 (fun a b=>Vm.both (f a b) (g a b)):=by
 refine⟨fun a b=>?_,fun a b c h1 h2=>?_⟩
 ·simp only[Vm.both,hf.1 a b,hg.1 a b]
  by_cases h:f a b=0
  ·simp[h]
  ·simp[h]
 ·simp only[Vm.both,beq_iff_eq] at *
  have a1:=hf.1 a b;have a2:=hf.1 b c;have a3:=hf.1 a c
  have t1:=hf.2 a b c;have t2:=hf.2 c b a;have t3:=hf.2 b c a;have t4:=hf.2 c a b;have t5:=hg.2 a b c
  split at h1
  ·split at h2
   ·have:f a c=0:=by
     have:=t1 (by omega) (by omega)
     have:=t2 (by omega) (by omega)
     omega
    rw[if_pos this];exact t5 h1 h2
   ·have h4:=t1 (by omega) (by omega)
    split
    ·rename_i h5
     have:=t4 (by omega) (by omega)
     omega
    ·exact h4
  ·split at h2
   ·have h4:=t1 (by omega) (by omega)
    split
    ·rename_i h5
     have:=t3 (by omega) (by omega)
     omega
    ·exact h4
   ·have h4:=t1 h1 h2
    split
    ·rename_i h5
     have:=t3 h2 (by omega)
     omega
    ·exact h4
theorem Cmp3.pull {α β:Type}{f:α->α->Int}(hf:Cmp3 f)(h:β->α):Cmp3 (fun a b=>f (h a) (h b)):=⟨fun _ _=>hf.1 _ _,fun _ _ _ h1 h2=>hf.2 _ _ _ h1 h2⟩
theorem nR {α:Type}:Cmp3 (fun (_ _:α)=>(0:Int)):=⟨fun _ _=>rfl,fun _ _ _ _ _=>Int.le_refl _⟩
theorem fx (a b:UInt8)(r s:List UInt8):Lib.compareBytes (a :: r) (b :: s)=both (sgn a.toNat b.toNat) (Lib.compareBytes r s):=by
 rw[Lib.compareBytes]
 unfold both sgn
 simp only[UInt8.lt_iff_toNat_lt]
 by_cases h1:a.toNat<b.toNat
 ·have:(a.toNat:Int)<b.toNat:=by omega
  simp[h1]
 ·by_cases h2:b.toNat<a.toNat
  ·simp[h1,h2]
  ·simp[h1,h2]
theorem rA:∀ a b:List UInt8,Lib.compareBytes b a =-Lib.compareBytes a b
 | [],[]=>rfl
 | [],_ :: _=>rfl
 | _ :: _,[]=>rfl
 | a :: r,b :: s=>by
  have ih:=rA r s
  rw[fx,fx]
  unfold both
  rw[nQ,ih]
  by_cases h:sgn (a.toNat:Int) b.toNat=0
  ·simp[h]
  ·simp[h]
theorem nL:∀ a b:List UInt8,Lib.compareBytes a b=0↔a=b
 | [],[]=>by simp[Lib.compareBytes]
 | [],_ :: _=>by simp[Lib.compareBytes]
 | _ :: _,[]=>by simp[Lib.compareBytes]
 | a :: r,b :: s=>by
  rw[fx,cR,nL r s,cu]
  constructor
  ·rintro⟨h1,h2⟩
   rw[h2,UInt8.toNat.inj (show a.toNat=b.toNat by omega)]
  ·intro h;injection h with h1 h2;subst h1 h2;exact⟨rfl,rfl⟩
theorem nS:∀ a b c:List UInt8,Lib.compareBytes a b<=0->Lib.compareBytes b c<=0->Lib.compareBytes a c<=0
 | [],_,[],_,_=>by simp[Lib.compareBytes]
 | [],_,_ :: _,_,_=>by simp[Lib.compareBytes]
 | _ :: _,[],_,h,_=>by simp[Lib.compareBytes] at h
 | _ :: _,_ :: _,[],_,h=>by simp[Lib.compareBytes] at h
 | a :: r,b :: s,c :: t,h1,h2=>by
  have ih:=nS r s t
  rw[fx] at *
  unfold both at *
  simp only[beq_iff_eq,cu] at *
  split at h1
  ·split at h2
   ·rw[if_pos (by omega)];exact ih h1 h2
   ·rw[dE] at h2;rw[if_neg (by omega),dE];omega
  ·rw[dE] at h1
   split at h2
   ·rw[if_neg (by omega),dE];omega
   ·rw[dE] at h2;rw[if_neg (by omega),dE];omega
theorem nT:Cmp3 Lib.compareBytes:=⟨rA,nS⟩
theorem nU:Cmp3 cmpD:=Cmp3.both ((rz.pull (fun n:Nat=>(n:Int))).pull (fun l=>(bare l).length)) (nT.pull bare)
theorem rB (a b:List UInt8):cmpD a b=0↔bare a=bare b:=by
 unfold cmpD
 rw[cR,cu,nL]
 exact⟨fun h=>h.2,fun h=>⟨by rw[h],h⟩⟩
theorem gT:∀ n i,Cmp3 (fun a b=>cmpOF a b n i)
 | 0,_=>nR
 | n+1,i=>Cmp3.both (rz.pull (fun l=>mark l i)) (gT n (i+1))
theorem fT (l:List UInt8)(i:Nat)(h:l.length<=i):mark l i=0:=by simp[mark,h]
theorem mf (a b:List UInt8):∀ n i,a.length<=i->b.length<=i->cmpOF a b n i=0
 | 0,_,_,_=>rfl
 | n+1,i,ha,hb=>by rw[cmpOF,fT a i ha,fT b i hb,mf a b n (i+1) (by omega) (by omega)];rfl
theorem jU (a b:List UInt8)(k:Nat):∀ n i,a.length<=n+i->b.length<=n+i->cmpOF a b (n+k) i=cmpOF a b n i
 | 0,i,ha,hb=>by rw[mf a b _ i (by omega) (by omega)];rfl
 | n+1,i,ha,hb=>by rw[show n+1+k=(n+k)+1 from by omega,cmpOF,cmpOF,jU a b k n (i+1) (by omega) (by omega)]
theorem dk (a b:List UInt8)(N:Nat)(ha:a.length<=N)(hb:b.length<=N):cmpO a b=cmpOF a b N 0:=by
 unfold cmpO
 have:N=max a.length b.length+(N-max a.length b.length):=by omega
 rw[this,jU a b _ _ 0 (by omega) (by omega)]
theorem nV:Cmp3 cmpO:=by
 refine⟨fun a b=>?_,fun a b c h1 h2=>?_⟩
 ·rw[dk b a (a.length+b.length) (by omega) (by omega),dk a b (a.length+b.length) (by omega) (by omega)]
  exact (gT _ 0).1 a b
 ·rw[dk a b (a.length+b.length+c.length) (by omega) (by omega)] at h1
  rw[dk b c (a.length+b.length+c.length) (by omega) (by omega)] at h2
  rw[dk a c (a.length+b.length+c.length) (by omega) (by omega)]
  exact (gT _ 0).2 a b c h1 h2
theorem nW (a b:List UInt8):∀ n i,cmpOF a b n i=0->∀ j,i<=j->j<i+n->mark a j=mark b j
 | 0,i,_,j,h1,h2=>by omega
 | n+1,i,h,j,h1,h2=>by
  rw[cmpOF,cR,cu] at h
  by_cases hj:j=i
  ·subst hj;exact h.1
  ·exact nW a b n (i+1) h.2 j (by omega) (by omega)
theorem nX (c:UInt8):markB c≠0:=by
 unfold markB
 split
 ·decide
 ·split
  ·rename_i h2;unfold ltr at h2;simp at h2;omega
  ·omega
theorem tZ (a b:UInt8)(h:markB a=markB b):a=b:=by
 apply UInt8.toNat.inj
 have aa:=a.toNat_lt
 have ab:=b.toNat_lt
 unfold markB at h
 by_cases a1:a.toNat=126 <;> by_cases b1:b.toNat=126 <;> cases a2:ltr a <;> cases b2:ltr b <;> simp[a1,b1,a2,b2] at h <;> omega
theorem iM (l:List UInt8)(i:Nat)(h:i<l.length):mark l i=markB l[i]:=by
 unfold mark markB
 rw[if_neg (by omega)]
 simp[h]
theorem yR (a b:List UInt8):cmpO a b=0↔a=b:=by
 constructor
 ·intro h
  rw[dk a b (a.length+b.length+1) (by omega) (by omega)] at h
  have hm:=nW a b _ 0 h
  have hl:a.length=b.length:=by
   by_cases h1:a.length<b.length
   ·have:=hm a.length (by omega) (by omega)
    rw[fT a _ (Nat.le_refl _),iM b _ h1] at this
    exact absurd this.symm (nX _)
   ·by_cases h2:b.length<a.length
    ·have:=hm b.length (by omega) (by omega)
     rw[fT b _ (Nat.le_refl _),iM a _ h2] at this
     exact absurd this (nX _)
    ·omega
  apply List.ext_getElem hl
  intro i h1 h2
  have:=hm i (by omega) (by omega)
  rw[iM a _ h1,iM b _ h2] at this
  exact tZ _ _ this
 ·rintro rfl
  have:=nV.1 a a
  omega
theorem lx (n:Nat)(a b:List UInt8):cmpP (n+1) a b=both (cmpD (digs a) (digs b)) (both (cmpO (oths (undigs a)) (oths (undigs b))) (cmpP n (tail2 a) (tail2 b))):=by
 rw[cmpP]
 split
 ·rename_i h
  simp only[Bool.and_eq_true,List.isEmpty_iff] at h
  obtain⟨rfl,rfl⟩:=h
  have h0:cmpP n (tail2 []) (tail2 [])=0:=by
   cases n with
   | zero=>rfl
   | succ n=>rfl
  rw[h0];rfl
 ·rfl
theorem bP:∀ n,Cmp3 (cmpP n)
 | 0=>nR
 | n+1=>by
  have h:=Cmp3.both (nU.pull digs) (Cmp3.both (nV.pull (fun l=>oths (undigs l))) ((bP n).pull tail2))
  have e:cmpP (n+1)=fun a b=>both (cmpD (digs a) (digs b)) (both (cmpO (oths (undigs a)) (oths (undigs b))) (cmpP n (tail2 a) (tail2 b))):=by
   funext a b;exact lx n a b
  rw[e];exact h
theorem en:Cmp3 cmpV:=Cmp3.both (nU.pull ep) (Cmp3.both ((bP 41).pull pt) ((bP 41).pull rv))
theorem gU (a b:Int):-1<=sgn a b/\sgn a b<=1:=by unfold sgn;split <;> (try split) <;> omega
theorem bQ {x y:Int}(h1:-1<=x/\x<=1)(h2:-1<=y/\y<=1):-1<=both x y/\both x y<=1:=by unfold both;split <;> assumption
theorem nY:∀ a b:List UInt8,-1<=Lib.compareBytes a b/\Lib.compareBytes a b<=1
 | [],[]=>by decide
 | [],_ :: _=>by simp[Lib.compareBytes]
 | _ :: _,[]=>by simp[Lib.compareBytes]
 | a :: r,b :: s=>by rw[fx];exact bQ (gU _ _) (nY r s)
theorem jV (a b:List UInt8):-1<=cmpD a b/\cmpD a b<=1:=bQ (gU _ _) (nY _ _)
theorem iX (a b:List UInt8):∀ n i,-1<=cmpOF a b n i/\cmpOF a b n i<=1
 | 0,_=>by simp[cmpOF]
 | n+1,i=>by rw[cmpOF];exact bQ (gU _ _) (iX a b n (i+1))
theorem fU:∀ n a b,-1<=cmpP n a b/\cmpP n a b<=1
 | 0,_,_=>by simp[cmpP]
 | n+1,a,b=>by rw[lx];exact bQ (jV _ _) (bQ (iX _ _ _ _) (fU n _ _))
theorem sD (l m:List UInt8):-1<=cmpV l m/\cmpV l m<=1:=bQ (jV _ _) (bQ (fU _ _ _) (fU _ _ _))
end Vm
namespace Vm
theorem fV (l:List UInt8):digs l++undigs l=l:=List.takeWhile_append_dropWhile
theorem dV (l:List UInt8):oths l++unoths l=l:=List.takeWhile_append_dropWhile
theorem jo (l:List UInt8):(digs l).all dig=true:=by
 unfold digs
 induction l with
 | nil=>rfl
 | cons c r ih=>rw[List.takeWhile_cons];cases h:dig c <;> simp[h]
theorem nZ (l:List UInt8):(oths l).all (fun c => !dig c)=true:=by
 unfold oths
 induction l with
 | nil=>rfl
 | cons c r ih=>rw[List.takeWhile_cons];cases h:dig c <;> simp[h]
def HdN (l:List UInt8):Prop:=∀ c,l.head? = some c->dig c=false
def HdY (l:List UInt8):Prop:=∀ c,l.head? = some c->dig c=true
theorem jW (l:List UInt8):HdN (undigs l):=by
 unfold undigs
 induction l with
 | nil=>intro c h;cases h
 | cons a r ih =>
  rw[List.dropWhile_cons]
  cases h:dig a
  ·intro c hc
   simp at hc;subst hc;exact h
  ·exact ih
theorem jX (l:List UInt8):HdY (unoths l):=by
 unfold unoths
 induction l with
 | nil=>intro c h;cases h
 | cons a r ih =>
  rw[List.dropWhile_cons]
  cases h:dig a
  ·exact ih
  ·intro c hc
   simp at hc;subst hc;exact h
theorem wA {a b:List UInt8}(ha:a.all dig=true)(hb:HdN b):digs (a++b)=a/\undigs (a++b)=b:=by
 unfold digs undigs
 induction a with
 | nil =>
  cases b with
  | nil=>exact⟨rfl,rfl⟩
  | cons c r=>have:=hb c rfl;simp[this]
 | cons c r ih =>
  simp only[List.all_cons,Bool.and_eq_true] at ha
  obtain⟨h1,h2⟩:=ih ha.2
  simp[ha.1,h1,h2]
theorem wB {a b:List UInt8}(ha:a.all (fun c => !dig c)=true)(hb:HdY b):oths (a++b)=a/\unoths (a++b)=b:=by
 unfold oths unoths
 induction a with
 | nil =>
  cases b with
  | nil=>exact⟨rfl,rfl⟩
  | cons c r=>have:=hb c rfl;simp[this]
 | cons c r ih =>
  simp only[List.all_cons,Bool.and_eq_true] at ha
  obtain⟨h1,h2⟩:=ih ha.2
  simp[ha.1,h1,h2]
theorem eo {l:List UInt8}(h:l.all dig=true):(bare l).all dig=true:=by
 unfold bare
 split
 ·decide
 ·rw[List.all_eq_true] at *
  exact fun x hx=>h x ((List.dropWhile_sublist _).subset hx)
theorem fy (l:List UInt8):bare l≠[]:=by
 unfold bare
 split
 ·simp
 ·rename_i h;simpa using h
theorem jq {l:List UInt8}(h:l≠[]):(bare l).length<=l.length:=by
 unfold bare
 split
 ·have:=List.length_pos_iff.2 h;simp;omega
 ·exact (List.dropWhile_sublist _).length_le
theorem mg (l:List UInt8):bare (bare l)=bare l:=by
 have key:∀ m:List UInt8,(m.dropWhile (. == 48)).dropWhile (. == 48)=m.dropWhile (. == 48):=by
  intro m
  induction m with
  | nil=>rfl
  | cons c r ih=>rw[List.dropWhile_cons];split <;> rename_i h <;> simp[h,ih]
 unfold bare
 cases h:(l.dropWhile (. == 48)).isEmpty
 ·simp only[Bool.false_eq_true,if_false]
  rw[key,h];rfl
 ·rfl
theorem yS {l:List UInt8}(h:l.all ok1=true):(bare l).all ok1=true:=by
 unfold bare
 split
 ·decide
 ·rw[List.all_eq_true] at *
  exact fun x hx=>h x ((List.dropWhile_sublist _).subset hx)
def GP (l:List UInt8):Prop:=HdY l/\∀ c,l.getLast? = some c->dig c=true
theorem fW {a b:List UInt8}(h:b≠[]):(a++b).getLast? = b.getLast?:=by
 rw[List.getLast?_append]
 cases hb:b.getLast? with
 | none=>exact absurd (List.getLast?_eq_none_iff.1 hb) h
 | some c=>rfl
theorem er {l:List UInt8}(h:GP l):GP (tail2 l)/\(tail2 l=[]->undigs l=[]):=by
 have e1:=fV l
 have e2:=dV (undigs l)
 refine⟨⟨jX _,?_⟩,?_⟩
 ·intro c hc
  have aa:tail2 l≠[]:=by intro h0;rw[h0] at hc;cases hc
  have:l.getLast? = (tail2 l).getLast?:=by
   conv=>lhs;rw[<-e1,<-e2,<-List.append_assoc]
   exact fW aa
  exact h.2 c (this.trans hc)
 ·intro h0
  by_cases hu:undigs l=[]
  ·exact hu
  ·exfalso
   have h1:unoths (undigs l)=[]:=h0
   rw[h1,List.append_nil] at e2
   have hl:l.getLast? = (undigs l).getLast?:=by
    conv=>lhs;rw[<-e1]
    exact fW hu
   cases hx:(undigs l).getLast? with
   | none=>exact hu (List.getLast?_eq_none_iff.1 hx)
   | some c =>
    have hd:=h.2 c (hl.trans hx)
    have ho:=nZ (undigs l)
    rw[e2,List.all_eq_true] at ho
    have:=ho c (List.mem_of_getLast? hx)
    rw[hd] at this;cases this
theorem rC {l:List UInt8}(h:HdY l)(h0:l≠[]):digs l≠[]:=by
 cases l with
 | nil=>exact absurd rfl h0
 | cons c r=>have:=h c rfl;simp[digs,this]
theorem eK {l:List UInt8}(h:HdY l)(h0:l≠[]):(tail2 l).length<l.length:=by
 have h1:=List.length_pos_iff.2 (rC h h0)
 have e1:=congrArg List.length (fV l)
 have e2:=congrArg List.length (dV (undigs l))
 rw[List.length_append] at e1 e2
 unfold tail2;omega
theorem dW (n:Nat):canonP n []=[]:=by cases n <;> rfl
theorem aZ (n:Nat){l:List UInt8}(h:l≠[]):canonP (n+1) l=bare (digs l)++(oths (undigs l)++canonP n (tail2 l)):=by
 rw[canonP,if_neg (by simpa using h),List.append_assoc]
theorem bR (n:Nat){l:List UInt8}(h:l≠[])(hl:l.length<=n):canonP n l≠[]:=by
 cases n with
 | zero=>exact absurd (List.eq_nil_of_length_eq_zero (by omega)) h
 | succ n=>rw[aZ n h];have:=fy (digs l);simp[this]
theorem jY (n:Nat)(l:List UInt8):HdY (canonP n l):=by
 cases n with
 | zero=>intro c h;cases h
 | succ n =>
  by_cases h:l=[]
  ·subst h;intro c h;cases h
  ·rw[aZ n h]
   have h1:=fy (digs l)
   have h2:=eo (jo l)
   intro c hc
   cases hb:bare (digs l) with
   | nil=>exact absurd hb h1
   | cons a r =>
    rw[hb] at hc h2
    simp at hc;subst hc
    simp only[List.all_cons,Bool.and_eq_true] at h2;exact h2.1
theorem fi (n:Nat){l:List UInt8}(h0:l≠[]):digs (canonP (n+1) l)=bare (digs l)/\undigs (canonP (n+1) l)=oths (undigs l)++canonP n (tail2 l) /\
  oths (undigs (canonP (n+1) l))=oths (undigs l)/\tail2 (canonP (n+1) l)=canonP n (tail2 l):=by
 have hN:HdN (oths (undigs l)++canonP n (tail2 l)):=by
  by_cases hu:undigs l=[]
  ·have ht:tail2 l=[]:=by unfold tail2;rw[hu];rfl
   rw[hu,ht,dW];intro c hc;cases hc
  ·have hd:=jW l
   have e2:=dV (undigs l)
   cases hx:undigs l with
   | nil=>exact absurd hx hu
   | cons a r =>
    have ha:=hd a (by rw[hx];rfl)
    have:oths (a :: r)=a :: oths r:=by simp[oths,ha]
    rw[this];intro c hc;simp at hc;subst hc;exact ha
 rw[aZ n h0]
 obtain⟨g1,g2⟩:=wA (eo (jo l)) hN
 obtain⟨g3,g4⟩:=wB (nZ (undigs l)) (jY n (tail2 l))
 refine⟨g1,g2,by rw[g2,g3],?_⟩
 unfold tail2 at *
 rw[g2,g4]
theorem fj:∀ (n:Nat) (l:List UInt8),GP l->l.length<=n->canonP n (canonP n l)=canonP n l
 | 0,_,_,_=>rfl
 | n+1,l,h,hl=>by
  by_cases h0:l=[]
  ·subst h0;rfl
  ·obtain⟨r1,_,r3,r4⟩:=fi n h0
   have ih:=fj n (tail2 l) (er h).1 (by have:=eK h.1 h0;omega)
   rw[aZ n (bR (n+1) h0 hl),r1,r3,r4,ih,mg,<-aZ n h0]
theorem fX:∀ (n:Nat) (l:List UInt8),HdY l->(canonP n l).length<=l.length
 | 0,_,_=>by simp[canonP]
 | n+1,l,h=>by
  by_cases h0:l=[]
  ·subst h0;simp[canonP]
  ·have ih:=fX n (tail2 l) (jX _)
   have h1:=jq (rC h h0)
   have e1:=congrArg List.length (fV l)
   have e2:=congrArg List.length (dV (undigs l))
   rw[List.length_append] at e1 e2
   rw[aZ n h0,List.length_append,List.length_append]
   unfold tail2 at *
   omega
theorem iY:∀ (n:Nat) (l:List UInt8),GP l->l.length<=n->∀ c,(canonP n l).getLast? = some c->dig c=true
 | 0,_,_,_,c,hc=>by cases hc
 | n+1,l,h,hl,c,hc=>by
  by_cases h0:l=[]
  ·subst h0;cases hc
  ·have ht:=eK h.1 h0
   rw[aZ n h0] at hc
   by_cases h1:tail2 l=[]
   ·have hu:=(er h).2 h1
    rw[hu,h1,dW] at hc
    have hb:=eo (jo l)
    rw[List.all_eq_true] at hb
    apply hb
    have:oths ([]:List UInt8)++[]=[]:=rfl
    rw[this,List.append_nil] at hc
    exact List.mem_of_getLast? hc
   ·have aa:=bR n h1 (by omega)
    rw[fW (by simp[aa]),fW aa] at hc
    exact iY n (tail2 l) (er h).1 (by omega) c hc
theorem eL:∀ (n:Nat) (l:List UInt8),l.all ok1=true->(canonP n l).all ok1=true
 | 0,_,_=>rfl
 | n+1,l,h=>by
  by_cases h0:l=[]
  ·subst h0;rfl
  ·have sub:∀ m:List UInt8,m.Sublist l->m.all ok1=true:=fun m hm=>by
    rw[List.all_eq_true] at *;exact fun x hx=>h x (hm.subset hx)
   have s1:(digs l).Sublist l:=List.takeWhile_sublist _
   have s2:(undigs l).Sublist l:=List.dropWhile_sublist _
   have s3:(oths (undigs l)).Sublist l:=(List.takeWhile_sublist _).trans s2
   have s4:(tail2 l).Sublist l:=(List.dropWhile_sublist _).trans s2
   rw[aZ n h0,List.all_append,List.all_append,yS (sub _ s1),sub _ s3,eL n _ (sub _ s4)];rfl
theorem dX:∀ (n:Nat) (a b:List UInt8),GP a->GP b->a≠[]->b≠[]->a.length<=n->b.length<=n->(cmpP n a b=0↔canonP n a=canonP n b)
 | 0,a,_,_,_,ha,_,hl,_=>absurd (List.eq_nil_of_length_eq_zero (by omega)) ha
 | n+1,a,b,ga,gb,ha,hb,la,lb=>by
  obtain⟨r1,_,r3,r4⟩:=fi n ha
  obtain⟨s1,_,s3,s4⟩:=fi n hb
  obtain⟨ad,af⟩:=er ga
  obtain⟨ae,ag⟩:=er gb
  have ah:=eK ga.1 ha
  have ai:=eK gb.1 hb
  have aa:∀ l:List UInt8,oths (undigs l)=[]->undigs l=[]:=fun l h=>by
   cases hx:undigs l with
   | nil=>rfl
   | cons c r =>
    have hc:=jW l c (by rw[hx];rfl)
    rw[hx] at h;simp[oths,hc] at h
  have ab:∀ l:List UInt8,undigs l=[]->tail2 l=[]:=fun l h=>by unfold tail2;rw[h];rfl
  have ac:∀ l:List UInt8,undigs l=[]->oths (undigs l)=[]:=fun l h=>by rw[h];rfl
  rw[lx,cR,cR,rB,yR]
  constructor
  ·rintro⟨h1,h2,h3⟩
   rw[aZ n ha,aZ n hb,h1,h2]
   by_cases ta:tail2 a=[]
   ·have tb:tail2 b=[]:=ab b (aa b (by rw[<-h2];exact ac a (af ta)))
    rw[ta,tb]
   ·by_cases tb:tail2 b=[]
    ·exact absurd (ab a (aa a (by rw[h2];exact ac b (ag tb)))) ta
    ·rw[(dX n (tail2 a) (tail2 b) ad ae ta tb (by omega) (by omega)).1 h3]
  ·intro h
   rw[h] at r1 r3 r4
   refine⟨r1.symm.trans s1,r3.symm.trans s3,?_⟩
   have ht:canonP n (tail2 a)=canonP n (tail2 b):=r4.symm.trans s4
   by_cases ta:tail2 a=[]
   ·by_cases tb:tail2 b=[]
    ·rw[ta,tb];have:=(bP n).1 [] [];omega
    ·rw[ta,dW] at ht;exact absurd ht.symm (bR n tb (by omega))
   ·by_cases tb:tail2 b=[]
    ·rw[tb,dW] at ht;exact absurd ht (bR n ta (by omega))
    ·exact (dX n (tail2 a) (tail2 b) ad ae ta tb (by omega) (by omega)).2 ht
end Vm
namespace Vm
theorem cx {l:List UInt8}(h:check l=0):l.length<=40/\epOk (ep l)=true/\partOk (pt l)=true/\partOk (rv l)=true:=by
 unfold check at h
 split at h
 ·cases h
 ·split at h
  ·rename_i h1 h2
   unfold verOk at h2
   simp only[Bool.and_eq_true] at h2
   exact⟨by omega,h2.1,h2.2.1,h2.2.2⟩
  ·cases h
theorem aac {l:List UInt8}(h:l.length<=40)(h1:epOk (ep l)=true)(h2:partOk (pt l)=true)(h3:partOk (rv l)=true):check l=0:=by
 unfold check verOk
 rw[if_neg (by omega),h1,h2,h3];rfl
theorem jZ (l:List UInt8):partOk l=true↔l≠[]/\GP l/\l.all ok1=true:=by
 cases l with
 | nil=>simp[partOk]
 | cons c r =>
  have hl:(c :: r).getLast? = some ((c :: r).getD ((c :: r).length-1) 0):=by
   rw[List.getLast?_eq_getElem?];simp
  unfold partOk GP HdY
  rw[hl]
  simp only[List.isEmpty_cons,Bool.not_false,Bool.true_and,Bool.and_eq_true,List.head?_cons,Option.some.injEq,forall_eq',ne_eq,reduceCtorEq,not_false_eq_true,true_and,and_assoc]
  rfl
theorem jr (l:List UInt8):epOk l=true↔l≠[]/\l.length<=6/\l.all dig=true:=by
 cases l <;> simp[epOk]
theorem no58 {l:List UInt8}(h:l.all ok1=true):∀ c∈l,c≠58/\c≠45:=by
 intro c hc
 rw[List.all_eq_true] at h
 have:=h c hc
 constructor <;> (rintro rfl;exact absurd this (by decide))
theorem aad {l:List UInt8}(h:l.all dig=true):l.all ok1=true:=by
 rw[List.all_eq_true] at *
 intro c hc
 rw[ok1,h c hc];rfl
theorem ly (c:UInt8){a:List UInt8}(b:List UInt8)(h:∀ x∈a,x≠c):fst c (a++c :: b)=a/\snd c (a++c :: b)=b/\has c (a++c :: b)=true:=by
 unfold fst snd has
 induction a with
 | nil=>simp
 | cons x r ih =>
  have hx:(x != c)=true:=by simpa using h x (by simp)
  obtain⟨h1,h2,h3⟩:=ih (fun y hy=>h y (by simp[hy]))
  refine⟨by simp[hx,h1],by simpa [hx] using h2,by simp⟩
theorem j3 (c:UInt8){a:List UInt8}(h:∀ x∈a,x≠c):has c a=false/\fst c a=a:=by
 unfold fst has
 induction a with
 | nil=>simp
 | cons x r ih =>
  have hx:x≠c:=h x (by simp)
  obtain⟨h1,h2⟩:=ih (fun y hy=>h y (by simp[hy]))
  refine⟨?_,by simp[hx,h2]⟩
  have:(c==x)=false:=by simpa using fun e=>hx e.symm
  rw[List.contains_cons,this,Bool.false_or];exact h1
def glue (e p r:List UInt8):List UInt8:=(if e.isEmpty then [] else e++[58])++p++(if r.isEmpty then [] else 45 :: r)
theorem qd (e p r:List UInt8)(he:e.all dig=true)(hp:p.all ok1=true)(hr:r.all ok1=true) :
  ep (glue e p r)=(if e.isEmpty then [48] else e)/\pt (glue e p r)=p/\rv (glue e p r)=(if r.isEmpty then [48] else r):=by
 have ab:∀ x∈p++(if r.isEmpty then [] else 45 :: r),x≠58:=by
  intro x hx
  rcases List.mem_append.1 hx with hx | hx
  ·exact (no58 hp x hx).1
  ·split at hx
   ·cases hx
   ·rcases List.mem_cons.1 hx with rfl | hx
    ·decide
    ·exact (no58 hr x hx).1
 have aa:rest (glue e p r)=p++(if r.isEmpty then [] else 45 :: r)/\ep (glue e p r)=(if e.isEmpty then [48] else e):=by
  unfold rest ep glue
  cases hE:e.isEmpty
  ·have h3:(if false=true then [] else e++[58])++p++(if r.isEmpty then [] else 45 :: r)=e++58 :: (p++(if r.isEmpty then [] else 45 :: r)):=by simp
   rw[h3]
   obtain⟨g1,g2,g3⟩:=ly 58 (p++(if r.isEmpty then [] else 45 :: r)) (fun x hx=>(no58 (aad he) x hx).1)
   rw[g1,g2,g3];exact⟨rfl,rfl⟩
  ·have h3:(if true=true then [] else e++[58])++p++(if r.isEmpty then [] else 45 :: r)=p++(if r.isEmpty then [] else 45 :: r):=by simp
   rw[h3,(j3 58 ab).1];exact⟨rfl,rfl⟩
 refine⟨aa.2,?_,?_⟩
 ·unfold pt
  rw[aa.1]
  cases hR:r.isEmpty
  ·exact (ly 45 r (fun x hx=>(no58 hp x hx).2)).1
  ·simp only[if_true,List.append_nil]
   exact (j3 45 (fun x hx=>(no58 hp x hx).2)).2
 ·unfold rv
  rw[aa.1]
  cases hR:r.isEmpty
  ·have g:=ly 45 r (fun x hx=>(no58 hp x hx).2)
   simp only[Bool.false_eq_true,if_false]
   rw[g.2.2,g.2.1];rfl
  ·simp only[if_true,List.append_nil]
   rw[(j3 45 (fun x hx=>(no58 hp x hx).2)).1];rfl
theorem recon (c:UInt8)(l:List UInt8)(h:has c l=true):l=fst c l++c :: snd c l:=by
 unfold has fst snd at *
 induction l with
 | nil=>cases h
 | cons x r ih =>
  by_cases hx:x=c
  ·subst hx;simp
  ·have h1:(x != c)=true:=by simpa using hx
   have h2:(c==x)=false:=by simpa using fun e=>hx e.symm
   rw[List.contains_cons,h2,Bool.false_or] at h
   rw[List.takeWhile_cons,List.dropWhile_cons,h1]
   simp only[if_true,List.cons_append]
   rw[<-ih h]
theorem lengths (l:List UInt8):(if has 58 l then (ep l).length+1 else 0)+(pt l).length+(if has 45 (rest l) then (rv l).length+1 else 0)=l.length:=by
 have h2:(pt l).length+(if has 45 (rest l) then (rv l).length+1 else 0)=(rest l).length:=by
  unfold pt rv
  cases h:has 45 (rest l)
  ·have:fst 45 (rest l)=rest l:=by
    refine (j3 45 (fun x hx e=>?_)).2
    subst e
    unfold has at h
    rw[List.contains_iff_mem.2 hx] at h;cases h
   rw[this];simp
  ·have e:=congrArg List.length (recon 45 (rest l) h)
   rw[List.length_append,List.length_cons] at e
   simp only[if_true];omega
 have h1:(if has 58 l then (ep l).length+1 else 0)+(rest l).length=l.length:=by
  unfold ep rest
  cases h:has 58 l
  ·simp
  ·have e:=congrArg List.length (recon 58 l h)
   rw[List.length_append,List.length_cons] at e
   simp only[if_true];omega
 omega
theorem cP {l:List UInt8}(h:partOk l=true):l≠[]/\GP l/\l.all ok1=true:=(jZ l).1 h
theorem fz {l:List UInt8}(h:check l=0):(rv l).length<=41/\(pt l).length<=41:=by
 have h1:=lengths l
 have h2:=(cx h).1
 refine⟨?_,by omega⟩
 cases h3:has 45 (rest l)
 ·unfold rv;rw[h3];simp
 ·rw[h3] at h1;simp only[if_true] at h1;omega
theorem sE {l:List UInt8}(hv:check l=0):canon l=glue (if bare (ep l)==[48] then [] else bare (ep l)) (canonP 41 (pt l)) (if canonP 41 (rv l)==[48] then [] else canonP 41 (rv l)):=by
 unfold canon canonE canonR glue
 have h1:=fy (ep l)
 have h2:=bR 41 (cP (cx hv).2.2.2).1 (fz hv).1
 congr 1
 ·congr 1
  cases h:bare (ep l)==[48]
  ·have:(bare (ep l)).isEmpty=false:=by simpa using h1
   simp[this]
  ·simp
 ·cases h:canonP 41 (rv l)==[48]
  ·have:(canonP 41 (rv l)).isEmpty=false:=by simpa using h2
   simp[this]
  ·simp
theorem c9 {l:List UInt8}(hv:check l=0):ep (canon l)=bare (ep l)/\pt (canon l)=canonP 41 (pt l)/\rv (canon l)=canonP 41 (rv l):=by
 obtain⟨_,v1,v2,v3⟩:=cx hv
 obtain⟨p1,p2,p3⟩:=cP v2
 obtain⟨r1,r2,r3⟩:=cP v3
 have e3:=((jr _).1 v1).2.2
 rw[sE hv]
 have g:=qd (if bare (ep l)==[48] then [] else bare (ep l)) (canonP 41 (pt l)) (if canonP 41 (rv l)==[48] then [] else canonP 41 (rv l))
  (by
   split
   ·rfl
   ·exact eo e3) (eL 41 _ p3)
  (by
   split
   ·rfl
   ·exact eL 41 _ r3)
 refine⟨g.1.trans ?_,g.2.1,g.2.2.trans ?_⟩
 ·have h1:=fy (ep l)
  cases h:bare (ep l)==[48]
  ·have:(bare (ep l)).isEmpty=false:=by simpa using h1
   simp[this]
  ·simp;exact (by simpa using h:bare (ep l)=[48]).symm
 ·have h2:=bR 41 r1 (fz hv).1
  cases h:canonP 41 (rv l)==[48]
  ·have:(canonP 41 (rv l)).isEmpty=false:=by simpa using h2
   simp[this]
  ·simp;exact (by simpa using h:canonP 41 (rv l)=[48]).symm
theorem j4 {p:List UInt8}(h:partOk p=true)(hl:p.length<=41):partOk (canonP 41 p)=true:=by
 obtain⟨p1,p2,p3⟩:=cP h
 exact (jZ _).2 ⟨bR 41 p1 hl,⟨jY 41 p,iY 41 p p2 hl⟩,eL 41 p p3⟩
theorem iZ {l:List UInt8}(hv:check l=0):check (canon l)=0:=by
 obtain⟨hl,v1,v2,v3⟩:=cx hv
 obtain⟨c1,c2,c3⟩:=c9 hv
 obtain⟨e1,e2,e3⟩:=(jr _).1 v1
 have lv:=fz hv
 have hlen:(canon l).length<=l.length:=by
  have h:=lengths l
  have le:=jq e1
  have lp:=fX 41 (pt l) (cP v2).2.1.1
  have lr:=fX 41 (rv l) (cP v3).2.1.1
  have hE:(canonE l).length<=(if has 58 l then (ep l).length+1 else 0):=by
   unfold canonE
   cases h1:has 58 l
   ·have:ep l=[48]:=by unfold ep;rw[h1];rfl
    rw[this];decide
   ·split
    ·simp
    ·simp;omega
  have hR:(canonR l).length<=(if has 45 (rest l) then (rv l).length+1 else 0):=by
   unfold canonR
   cases h1:has 45 (rest l)
   ·have:rv l=[48]:=by unfold rv;rw[h1];rfl
    rw[this];decide
   ·split
    ·simp
    ·simp;omega
  unfold canon
  rw[List.length_append,List.length_append]
  omega
 refine aac (by omega) ?_ ?_ ?_
 ·rw[c1];exact (jr _).2 ⟨fy _,by have:=jq e1;omega,eo e3⟩
 ·rw[c2];exact j4 v2 lv.2
 ·rw[c3];exact j4 v3 lv.1
theorem i4 {l:List UInt8}(hv:check l=0):canon (canon l)=canon l:=by
 obtain⟨_,v1,v2,v3⟩:=cx hv
 obtain⟨c1,c2,c3⟩:=c9 hv
 have lv:=fz hv
 have i2:=fj 41 (pt l) (cP v2).2.1 lv.2
 have i3:=fj 41 (rv l) (cP v3).2.1 lv.1
 show canonE (canon l)++canonP 41 (pt (canon l))++canonR (canon l)=canonE l++canonP 41 (pt l)++canonR l
 unfold canonE canonR
 rw[c1,c2,c3,mg,i2,i3]
theorem sF {l m:List UInt8}(hl:check l=0)(hm:check m=0):cmpV l m=0↔canon l=canon m:=by
 obtain⟨_,_,v2,v3⟩:=cx hl
 obtain⟨_,_,u2,u3⟩:=cx hm
 have lv:=fz hl
 have lu:=fz hm
 obtain⟨p1,p2,_⟩:=cP v2
 obtain⟨r1,r2,_⟩:=cP v3
 obtain⟨q1,q2,_⟩:=cP u2
 obtain⟨s1,s2,_⟩:=cP u3
 unfold cmpV
 rw[cR,cR,rB,dX 41 _ _ p2 q2 p1 q1 lv.2 lu.2,dX 41 _ _ r2 s2 r1 s1 lv.1 lu.1]
 constructor
 ·rintro⟨h1,h2,h3⟩
  unfold canon canonE canonR
  rw[h1,h2,h3]
 ·intro h
  obtain⟨c1,c2,c3⟩:=c9 hl
  obtain⟨d1,d2,d3⟩:=c9 hm
  rw[h] at c1 c2 c3
  exact⟨c1.symm.trans d1,c2.symm.trans d2,c3.symm.trans d3⟩
end Vm
namespace Rs
open Rm
def kc (a b:List UInt8):Int:=Vm.both (Vm.cmpV a b) (Lib.compareBytes a b)
theorem cM:Vm.Cmp3 kc:=Vm.en.both Vm.nT
theorem yF {a b:List UInt8}:kc a b=0↔a=b:=by
 unfold kc
 rw[Vm.cR,Vm.nL]
 refine⟨fun h=>h.2,fun h=>⟨?_,h⟩⟩
 subst h
 have:=Vm.en.1 a a
 omega
theorem yT (a:List UInt8):kc a a=0:=yF.2 rfl
def Own (l:List UInt8):Prop:=Vm.check l=0/\Vm.canon l=l
theorem t6 {a b:List UInt8}(ha:Own a)(hb:Own b):kc a b=Vm.cmpV a b:=by
 unfold kc Vm.both
 by_cases h:Vm.cmpV a b=0
 ·have h1:=(Vm.sF ha.1 hb.1).1 h
  rw[ha.2,hb.2] at h1
  have h2:=(Vm.nL a b).2 h1
  simp[h,h2]
 ·simp[h]
theorem mh {v:List UInt8}(h:Vm.check v=0):Own (Vm.canon v):=⟨Vm.iZ h,Vm.i4 h⟩
inductive Cut where
 | bot
 | pos (v:List UInt8) (after:Bool)
 | top
 deriving DecidableEq
def cle:Cut->Cut->Bool
 | .bot,_=>true
 | _,.top=>true
 | .pos v a,.pos w b=>decide (kc v w<0)||(decide (kc v w=0)&&(!a||b))
 | .pos _ _,.bot=>false
 | .top,.bot=>false
 | .top,.pos _ _=>false
theorem eu {v w:List UInt8}{a b:Bool}:cle (.pos v a) (.pos w b)=true↔kc v w<0\/(kc v w=0/\(a=false\/b=true)):=by
 unfold cle;simp[Bool.or_eq_true]
def Ln:Line Cut where
 le:=cle
 bot:=.bot
 top:=.top
 total:=by
  intro x y
  cases x <;> cases y <;> try (first | exact Or.inl rfl | exact Or.inr rfl)
  rename_i v a w b
  have h:=cM.1 v w
  rw[eu,eu]
  cases a <;> cases b <;> simp <;> omega
 trans:=by
  intro x y z h1 h2
  cases x
  ·rfl
  ·cases y
   ·cases h1
   ·cases z
    ·cases h2
    ·rename_i u a v b w c
     rw[eu] at *
     have e1:=cM.1 u v
     have e2:=cM.1 v w
     have e3:=cM.1 u w
     have h3:kc u w<=0:=cM.2 u v w (by omega) (by omega)
     by_cases h4:kc u w=0
     ·right
      refine⟨h4,?_⟩
      have h5:kc v u<=0:=cM.2 v w u (by omega) (by omega)
      have h6:kc w v<=0:=cM.2 w u v (by omega) (by omega)
      rcases h1 with h1 | ⟨_,h1 | h1⟩
      ·omega
      ·exact Or.inl h1
      ·rcases h2 with h2 | ⟨_,h2 | h2⟩
       ·omega
       ·rw[h1] at h2;cases h2
       ·exact Or.inr h2
     ·left;omega
    ·rfl
   ·cases z
    ·cases h2
    ·cases h2
    ·rfl
  ·cases y
   ·cases h1
   ·cases h1
   ·exact h2
 anti:=by
  intro x y h1 h2
  cases x <;> cases y <;> first | rfl | (cases h1;done) | (cases h2;done) | skip
  rename_i v a w b
  rw[eu] at *
  have e:=cM.1 v w
  have h0:kc v w=0:=by omega
  have hv:=yF.1 h0
  subst hv
  cases a <;> cases b <;> first | rfl | (exfalso;simp at h1 h2;omega)
 least:=fun x=>by cases x <;> rfl
 most:=fun x=>by cases x <;> rfl
theorem yU:lt Ln Ln.bot Ln.top=true:=rfl
def txt:Cut->List UInt8
 | .pos v _=>v
 | _=>[]
def aft:Cut->Bool
 | .pos _ a=>a
 | _=>false
def loI:Cut->Bool
 | .pos _ a => !a
 | _=>false
def LoOk:Cut->Prop
 | .bot=>True
 | .pos v _=>Own v
 | .top=>False
def HiOk:Cut->Prop
 | .top=>True
 | .pos v _=>Own v
 | .bot=>False
def loC (v:List UInt8) (i:Bool):Cut:=if v.isEmpty then .bot else .pos v (!i)
def hiC (v:List UInt8) (i:Bool):Cut:=if v.isEmpty then .top else .pos v i
theorem az {v:List UInt8}(h:Own v):v.isEmpty=false:=by
 cases v with
 | nil=>have:=h.1;revert this;decide
 | cons a l=>rfl
theorem wC {c:Cut}(h:LoOk c):loC (txt c) (loI c)=c:=by
 cases c with
 | bot=>rfl
 | top=>exact h.elim
 | pos v a =>
  show loC v (!a)=_
  unfold loC
  rw[az h];simp
theorem wD {c:Cut}(h:HiOk c):hiC (txt c) (aft c)=c:=by
 cases c with
 | top=>rfl
 | bot=>exact h.elim
 | pos v a =>
  show hiC v a=_
  unfold hiC
  rw[az h];simp
theorem yV {v:List UInt8}{i:Bool}(h:v.isEmpty=true->i=false):txt (loC v i)=v/\loI (loC v i)=i:=by
 unfold loC
 cases hv:v.isEmpty
 ·simp[txt,loI]
 ·rw[List.isEmpty_iff] at hv;subst hv;simp[txt,loI,h rfl]
theorem yW {v:List UInt8}{i:Bool}(h:v.isEmpty=true->i=false):txt (hiC v i)=v/\aft (hiC v i)=i:=by
 unfold hiC
 cases hv:v.isEmpty
 ·simp[txt,aft]
 ·rw[List.isEmpty_iff] at hv;subst hv;simp[txt,aft,h rfl]
def bound (v:List UInt8):Int:=if v.isEmpty then 0 else if Vm.check v=0 then (if Vm.canon v==v then 0 else 5) else Vm.check v
def span (lo hi:List UInt8) (li hn:Bool):Int :=
 if bound lo≠0 then bound lo else if bound hi≠0 then bound hi
 else if (lo.isEmpty&&li)||(hi.isEmpty&&hn) then 1
 else if lo.isEmpty||hi.isEmpty then 0
 else if decide (0<Vm.cmpV lo hi)||(decide (Vm.cmpV lo hi=0)&&!(li&&hn)) then 7 else 0
theorem bp {v:List UInt8}(h:bound v=0)(h0:v.isEmpty=false):Own v:=by
 unfold bound at h
 rw[h0,if_neg Bool.false_ne_true] at h
 by_cases hc:Vm.check v=0
 ·rw[if_pos hc] at h
  cases he:Vm.canon v==v
  ·rw[he] at h;cases h
  ·exact⟨hc,by simpa using he⟩
 ·rw[if_neg hc] at h;exact absurd h hc
theorem t7 {v:List UInt8}(h:Own v):bound v=0:=by
 unfold bound
 rw[az h,if_neg Bool.false_ne_true,if_pos h.1,h.2];simp
def toP (lo hi:List UInt8) (li hn:Bool):P Cut:={ lo:=loC lo li,hi:=hiC hi hn }
theorem dw {lo hi:List UInt8}{li hn:Bool}(h:span lo hi li hn=0):bound lo=0/\bound hi=0/\(lo.isEmpty=true->li=false)/\(hi.isEmpty=true->hn=false):=by
 unfold span at h
 split at h
 ·rename_i h1;exact absurd h h1
 ·rename_i h1
  split at h
  ·rename_i h2;exact absurd h h2
  ·rename_i h2
   split at h
   ·cases h
   ·rename_i h3
    refine⟨by simpa using h1,by simpa using h2,fun e=>?_,fun e=>?_⟩
    ·cases li
     ·rfl
     ·exact absurd (by rw[e];rfl) h3
    ·cases hn
     ·rfl
     ·exact absurd (by rw[e];simp) h3
theorem oa {v:List UInt8}{i:Bool}(h:bound v=0):LoOk (loC v i):=by
 unfold loC
 cases hv:v.isEmpty
 ·exact bp h hv
 ·trivial
theorem ob {v:List UInt8}{i:Bool}(h:bound v=0):HiOk (hiC v i):=by
 unfold hiC
 cases hv:v.isEmpty
 ·exact bp h hv
 ·trivial
theorem lz {lo hi:List UInt8}{li hn:Bool}(h1:bound lo=0)(h2:bound hi=0)(h3:lo.isEmpty=true->li=false)(h4:hi.isEmpty=true->hn=false) :
  span lo hi li hn=if ok Ln (toP lo hi li hn) then 0 else 7:=by
 unfold span
 rw[if_neg (by simp[h1]),if_neg (by simp[h2])]
 have h5:((lo.isEmpty&&li)||(hi.isEmpty&&hn))=false:=by
  cases e1:lo.isEmpty <;> cases e2:hi.isEmpty <;> simp <;> first | exact h3 e1 | exact h4 e2 | exact⟨h3 e1,h4 e2⟩
 rw[h5,if_neg Bool.false_ne_true]
 unfold toP ok loC hiC
 cases e1:lo.isEmpty <;> cases e2:hi.isEmpty
 ·have o1:=bp h1 e1
  have o2:=bp h2 e2
  simp only[Bool.or_self,Bool.false_eq_true,if_false]
  have e:lt Ln (Cut.pos lo !li) (Cut.pos hi hn) = !(decide (0<Vm.cmpV lo hi)||(decide (Vm.cmpV lo hi=0)&&!(li&&hn))):=by
   rw[<-t6 o1 o2]
   unfold lt
   congr 1
   show cle (Cut.pos hi hn) (Cut.pos lo !li)=_
   rw[Bool.eq_iff_iff,eu,cM.1 lo hi]
   cases li <;> cases hn <;> simp <;> omega
  rw[e]
  cases (decide (0<Vm.cmpV lo hi)||(decide (Vm.cmpV lo hi=0)&&!(li&&hn))) <;> rfl
 ·rfl
 ·rfl
 ·rfl
theorem sG {v w:List UInt8}{a b:Bool}(hv:Own v)(hw:Own w):lt Ln (.pos v a) (.pos w b)=(decide (Vm.cmpV v w<0)||(decide (Vm.cmpV v w=0)&&(!a&&b))):=by
 rw[<-t6 hv hw]
 unfold lt
 show (!cle (Cut.pos w b) (Cut.pos v a))=_
 rw[Bool.eq_iff_iff,Bool.not_eq_true',Bool.eq_false_iff,ne_eq,eu,cM.1 v w]
 cases a <;> cases b <;> simp <;> omega
def Ok2 (p:P Cut):Prop:=LoOk p.lo/\HiOk p.hi
end Rs
namespace Rs
open Rm
structure Sp where
 lo:List UInt8
 hi:List UInt8
 li:Bool
 hn:Bool
 deriving DecidableEq
def Sp.err (s:Sp):Int:=span s.lo s.hi s.li s.hn
def Sp.piece (s:Sp):P Cut:=toP s.lo s.hi s.li s.hn
def spOf (p:P Cut):Sp:={ lo:=txt p.lo,hi:=txt p.hi,li:=loI p.lo,hn:=aft p.hi }
theorem j5 {p:P Cut}(h:Ok2 p):(spOf p).piece=p:=by
 obtain⟨lo,hi⟩:=p
 show toP (txt lo) (txt hi) (loI lo) (aft hi)=_
 unfold toP
 rw[wC h.1,wD h.2]
theorem bS {s:Sp}(h:s.err=0):spOf s.piece=s/\Ok2 s.piece/\ok Ln s.piece=true:=by
 obtain⟨lo,hi,li,hn⟩:=s
 obtain⟨h1,h2,h3,h4⟩:=dw h
 refine⟨?_,⟨oa h1,ob h2⟩,?_⟩
 ·show spOf (toP lo hi li hn)=_
  unfold spOf toP
  obtain⟨a1,a2⟩:=yV h3
  obtain⟨b1,b2⟩:=yW h4
  show Sp.mk (txt (loC lo li)) (txt (hiC hi hn)) (loI (loC lo li)) (aft (hiC hi hn))=_
  rw[a1,a2,b1,b2]
 ·have h5:span lo hi li hn=0:=h
  rw[lz h1 h2 h3 h4] at h5
  show ok Ln (toP lo hi li hn)=true
  cases e:ok Ln (toP lo hi li hn)
  ·rw[e] at h5;cases h5
  ·rfl
theorem mi {c:Cut}(h:LoOk c\/HiOk c):bound (txt c)=0:=by
 cases c with
 | bot=>rfl
 | top=>rfl
 | pos v a=>exact t7 (by rcases h with h | h <;> exact h)
theorem wE {p:P Cut}(h:Ok2 p):(spOf p).err=if ok Ln p then 0 else 7:=by
 have e:(spOf p).err=span (txt p.lo) (txt p.hi) (loI p.lo) (aft p.hi):=rfl
 have e2:=j5 h
 have e3:(spOf p).piece=toP (txt p.lo) (txt p.hi) (loI p.lo) (aft p.hi):=rfl
 rw[e,lz (mi (Or.inl h.1)) (mi (Or.inr h.2)) ?_ ?_,<-e3,e2]
 ·intro h1
  cases hl:p.lo with
  | bot=>rfl
  | top=>rfl
  | pos v a =>
   rw[hl] at h1
   have:=h.1;rw[hl] at this
   have h2:v.isEmpty=true:=h1
   rw[az this] at h2;cases h2
 ·intro h1
  cases hl:p.hi with
  | bot=>rfl
  | top=>rfl
  | pos v a =>
   rw[hl] at h1
   have:=h.2;rw[hl] at this
   have h2:v.isEmpty=true:=h1
   rw[az this] at h2;cases h2
def behind (p s:Sp):Bool := !(p.hi.isEmpty||s.lo.isEmpty)&&!(decide (Vm.cmpV s.lo p.hi<0)||(decide (Vm.cmpV s.lo p.hi=0)&&(s.li||p.hn)))
theorem mj {p s:P Cut}(hp:Ok2 p)(hs:Ok2 s):behind (spOf p) (spOf s)=lt Ln p.hi s.lo:=by
 obtain⟨pl,ph⟩:=p
 obtain⟨sl,sh⟩:=s
 have h1:HiOk ph:=hp.2
 have h2:LoOk sl:=hs.1
 show (!((txt ph).isEmpty||(txt sl).isEmpty)&&!(decide (Vm.cmpV (txt sl) (txt ph)<0)||(decide (Vm.cmpV (txt sl) (txt ph)=0)&&(loI sl||aft ph))))=lt Ln ph sl
 cases ph with
 | bot=>exact h1.elim
 | top=>cases sl <;> first | rfl | exact h2.elim
 | pos v a =>
  cases sl with
  | top=>exact h2.elim
  | bot=>show (!((v).isEmpty||true)&&_)=_;rw[Bool.or_true];rfl
  | pos w b =>
   show (!(v.isEmpty||w.isEmpty)&&!(decide (Vm.cmpV w v<0)||(decide (Vm.cmpV w v=0)&&(!b||a))))=_
   rw[az h1,az h2,sG h1 h2,Vm.en.1 v w,Bool.eq_iff_iff]
   cases a <;> cases b <;> simp <;> omega
def checkF:Nat->Option Sp->List Sp->Int
 | _,_,[]=>0
 | i,o,s :: t =>
  if 64<=i then 4 else if s.err≠0 then s.err
  else match o with
   | none=>checkF (i+1) (some s) t
   | some p=>if behind p s then checkF (i+1) (some s) t else 7
def checkR (l:List Sp):Int:=checkF 0 none l
def Good (r:List (P Cut)):Prop:=Nrm Ln r/\(∀ p∈r,Ok2 p)/\r.length<=64
theorem j6:∀ (l:List Sp) (i:Nat) (p:Sp),i<=64->p.err=0->checkF i (some p) l=0->(∀ s∈l,s.err=0)/\Nrm Ln (p.piece :: l.map Sp.piece)/\i+l.length<=64
 | [],i,p,hi,hp,_=>⟨fun s hs=>(by cases hs),(bS hp).2.2,hi⟩
 | s :: l,i,p,hi,hp,h=>by
  unfold checkF at h
  by_cases hl:64<=i
  ·rw[if_pos hl] at h;cases h
  ·rw[if_neg hl] at h
   by_cases hs:s.err≠0
   ·rw[if_pos hs] at h;exact absurd h hs
   ·rw[if_neg hs] at h
    have hs':s.err=0:=by simpa using hs
    replace h:(if behind p s=true then checkF (i+1) (some s) l else 7)=0:=h
    cases hb:behind p s
    ·rw[hb] at h;cases h
    ·rw[hb] at h
     obtain⟨h1,h2,h3⟩:=j6 l (i+1) s (by omega) hs' h
     obtain⟨e1,o1,k1⟩:=bS hp
     obtain⟨e2,o2,_⟩:=bS hs'
     refine⟨fun z hz=>?_,⟨k1,?_,h2⟩,by rw[List.length_cons];omega⟩
     ·rcases List.mem_cons.1 hz with rfl | hz
      ·exact hs'
      ·exact h1 z hz
     ·rw[<-mj o1 o2,e1,e2];exact hb
theorem j7 {l:List Sp}(h:checkR l=0):Good (l.map Sp.piece)/\(l.map Sp.piece).map spOf=l:=by
 have key:(∀ s∈l,s.err=0)/\Nrm Ln (l.map Sp.piece)/\l.length<=64:=by
  unfold checkR at h
  cases l with
  | nil=>exact⟨fun s hs=>(by cases hs),trivial,by simp⟩
  | cons s l =>
   unfold checkF at h
   rw[if_neg (by omega)] at h
   by_cases hs:s.err≠0
   ·rw[if_pos hs] at h;exact absurd h hs
   ·rw[if_neg hs] at h
    have aa:s.err=0:=by simpa using hs
    obtain⟨h1,h2,h3⟩:=j6 l 1 s (by omega) aa h
    refine⟨fun z hz=>?_,h2,by rw[List.length_cons];omega⟩
    rcases List.mem_cons.1 hz with rfl | hz
    ·exact aa
    ·exact h1 z hz
 obtain⟨h1,h2,h3⟩:=key
 refine⟨⟨h2,fun p hp=>?_,by rw[List.length_map];exact h3⟩,?_⟩
 ·obtain⟨s,hs,rfl⟩:=List.mem_map.1 hp
  exact (bS (h1 s hs)).2.1
 ·rw[List.map_map]
  conv=>rhs;rw[<-List.map_id l]
  exact List.map_congr_left fun s hs=>(bS (h1 s hs)).1
def LoIn (r:List (P Cut)):Prop:=∀ p∈r,Ok2 p
theorem lA:∀ (t:List (P Cut)) (c:P Cut),Ok2 c->LoIn t->LoIn (mrg Ln c t)
 | [],c,h,_=>fun y hy=>by unfold mrg at hy;rw[List.mem_singleton] at hy;rw[hy];exact h
 | r :: t,c,h,ht=>by
  have hr:=ht r (List.mem_cons_self ..)
  have aa:LoIn t:=fun y hy=>ht y (List.mem_cons_of_mem _ hy)
  unfold mrg
  split
  ·refine lA t _ ⟨h.1,?_⟩ aa
   show HiOk (up Ln c.hi r.hi)
   unfold up;split
   ·exact hr.2
   ·exact h.2
  ·intro y hy
   rcases List.mem_cons.1 hy with rfl | hy
   ·exact h
   ·exact lA t r hr aa y hy
theorem oc {l:List (P Cut)}(h:LoIn l):LoIn (joinK Ln l):=by
 unfold joinK
 cases e:srt Ln l with
 | nil=>intro y hy;cases hy
 | cons a t =>
  have h4:∀ y∈a :: t,Ok2 y:=fun y hy=>h y ((lh Ln l y).1 (by rw[e];exact hy))
  exact lA t a (h4 a (List.mem_cons_self ..)) (fun y hy=>h4 y (List.mem_cons_of_mem _ hy))
theorem wF {a b:P Cut}(ha:Ok2 a)(hb:Ok2 b):Ok2 (meet Ln a b):=by
 constructor
 ·show LoOk (if lt Ln a.lo b.lo then b.lo else a.lo)
  split
  ·exact hb.1
  ·exact ha.1
 ·show HiOk (if lt Ln b.hi a.hi then b.hi else a.hi)
  split
  ·exact hb.2
  ·exact ha.2
theorem t8 {a b:List (P Cut)}(ha:LoIn a)(hb:LoIn b):LoIn (pairs Ln a b):=by
 intro y hy
 unfold pairs at hy
 rw[List.mem_flatMap] at hy
 obtain⟨x,hx,hy⟩:=hy
 obtain⟨w,hw,rfl⟩:=List.mem_map.1 (List.mem_filter.1 hy).1
 exact wF (ha x hx) (hb w hw)
theorem rD {a b:List (P Cut)}(ha:LoIn a)(hb:LoIn b):LoIn (andK Ln a b):=oc (t8 ha hb)
theorem t9 {a b:List (P Cut)}(ha:LoIn a)(hb:LoIn b):LoIn (orK Ln a b):=oc fun y hy=>by
 rcases List.mem_append.1 hy with h | h
 ·exact ha y h
 ·exact hb y h
theorem od:∀ (n:Nat) (r:List (P Cut)),Nrm Ln r->Nrm Ln (r.take n)
 | 0,_,_=>trivial
 | _+1,[],_=>trivial
 | 0+1,_ :: _,h=>cL Ln h
 | _+1+1,[_],h=>h
 | n+1+1,_ :: b :: t,h=>⟨h.1,h.2.1,od (n+1) (b :: t) h.2.2⟩
theorem ml {r:List (P Cut)}(h:Nrm Ln r)(ho:LoIn r):Good (r.take 64) :=
 ⟨od 64 r h,fun p hp=>ho p (List.mem_of_mem_take hp),by rw[List.length_take];omega⟩
theorem wG {r:List (P Cut)}(h:r.length<=64):r.take 64=r:=List.take_of_length_le h
theorem wH {a b:List (P Cut)}(ha:LoIn a)(hb:LoIn b):Good ((andK Ln a b).take 64):=ml (gQ Ln a b).1 (rD ha hb)
theorem yX {a b:List (P Cut)}(ha:Good a)(hb:Good b):Good ((orK Ln a b).take 64):=ml (jn Ln a b ha.1 hb.1).1 (t9 ha.2.1 hb.2.1)
end Rs
namespace Rs
open Rm
def andR (a b:List (P Cut)):List (P Cut):=(andK Ln a b).take 64
def orR (a b:List (P Cut)):List (P Cut):=(orK Ln a b).take 64
def allR:List (P Cut):=all1 Ln
theorem goodA {a b:List (P Cut)}(ha:Good a)(hb:Good b):Good (andR a b):=wH ha.2.1 hb.2.1
theorem goodO {a b:List (P Cut)}(ha:Good a)(hb:Good b):Good (orR a b):=yX ha hb
theorem goodAll:Good allR:=⟨yP Ln yU,fun p hp=>by
 have:p={ lo:=Cut.bot,hi:=Cut.top }:=List.mem_singleton.1 hp
 subst this;exact⟨trivial,trivial⟩,by decide⟩
theorem lenO {a b:List (P Cut)}(ha:Nrm Ln a)(hb:Nrm Ln b):(orK Ln a b).length<=a.length+b.length:=(jn Ln a b ha hb).2.2
def signR (c:List UInt8):Nat->List (P Cut)
 | 0=>[{ lo:=.pos c false,hi:=.pos c true }]
 | 1=>[{ lo:=.bot,hi:=.pos c false },{ lo:=.pos c true,hi:=.top }]
 | 2=>[{ lo:=.bot,hi:=.pos c false }]
 | 3=>[{ lo:=.bot,hi:=.pos c true }]
 | 4=>[{ lo:=.pos c true,hi:=.top }]
 | _=>[{ lo:=.pos c false,hi:=.top }]
theorem aae (c:List UInt8):lt Ln (.pos c false) (.pos c true)=true:=by
 unfold lt
 show (!cle (Cut.pos c true) (Cut.pos c false))=true
 rw[Bool.not_eq_true',Bool.eq_false_iff,ne_eq,eu,yT]
 simp
theorem mm {c:List UInt8}(h:Own c)(i:Nat)(hi:i<6):Good (signR c i):=by
 have h0:=aae c
 rcases (show i=0\/i=1\/i=2\/i=3\/i=4\/i=5 by omega) with rfl | rfl | rfl | rfl | rfl | rfl
 ·exact⟨h0,fun p hp=>by have:=List.mem_singleton.1 hp;subst this;exact⟨h,h⟩,by show 1<=64;omega⟩
 ·refine⟨⟨rfl,h0,rfl⟩,fun p hp=>?_,by show 2<=64;omega⟩
  rcases List.mem_cons.1 hp with rfl | hp
  ·exact⟨trivial,h⟩
  ·have:=List.mem_singleton.1 hp;subst this;exact⟨h,trivial⟩
 ·exact⟨rfl,fun p hp=>by have:=List.mem_singleton.1 hp;subst this;exact⟨trivial,h⟩,by show 1<=64;omega⟩
 ·exact⟨rfl,fun p hp=>by have:=List.mem_singleton.1 hp;subst this;exact⟨trivial,h⟩,by show 1<=64;omega⟩
 ·exact⟨rfl,fun p hp=>by have:=List.mem_singleton.1 hp;subst this;exact⟨h,trivial⟩,by show 1<=64;omega⟩
 ·exact⟨rfl,fun p hp=>by have:=List.mem_singleton.1 hp;subst this;exact⟨h,trivial⟩,by show 1<=64;omega⟩
end Rs
end Go.Proofs.YtgnaiidgjmicaaaGreatDoor
