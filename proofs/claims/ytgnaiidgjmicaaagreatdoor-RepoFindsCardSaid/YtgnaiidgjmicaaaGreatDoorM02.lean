/- Part 2 of what the laws lean on. -/
import Derived.Test.YtgnaiidgjmicaaaGreatDoorM00
import Derived.Test.YtgnaiidgjmicaaaGreatDoorM01
namespace Go.Proofs.YtgnaiidgjmicaaaGreatDoor
namespace Rs
open Rm
def kc (a b:List UInt8):Int:=Vm.both (Vm.cmpV a b) (Lib.compareBytes a b)
theorem dO:Vm.Cmp3 kc:=Vm.eQ.both Vm.kk
theorem ad0 {a b:List UInt8}:kc a b=0↔a=b:=by
 unfold kc
 rw[Vm.ec,Vm.ez]
 refine⟨fun h=>h.2,fun h=>⟨?_,h⟩⟩
 subst h
 have:=Vm.eQ.1 a a
 omega
theorem aeh (a:List UInt8):kc a a=0:=ad0.2 rfl
def Own (l:List UInt8):Prop:=Vm.check l=0/\Vm.canon l=l
theorem aaa {a b:List UInt8}(ha:Own a)(hb:Own b):kc a b=Vm.cmpV a b:=by
 unfold kc Vm.both
 by_cases h:Vm.cmpV a b=0
 ·have h1:=(Vm.yH ha.1 hb.1).1 h
  rw[ha.2,hb.2] at h1
  have h2:=(Vm.ez a b).2 h1
  simp[h,h2]
 ·simp[h]
theorem qh {v:List UInt8}(h:Vm.check v=0):Own (Vm.canon v):=⟨Vm.lZ h,Vm.l8 h⟩
inductive Cut where
 | bot
 | pos (v:List UInt8) (after:Bool)
 | top
 deriving DecidableEq
def cle:Cut->Cut->Bool
 | .bot,_=>true
 | _,.top=>true
 | .pos v a,.pos w b=>decide (kc v w<0)||(decide (kc v w=0)&&(!a||b))
 | .pos _ _,.bot=>false
 | .top,.bot=>false
 | .top,.pos _ _=>false
theorem gC {v w:List UInt8}{a b:Bool}:cle (.pos v a) (.pos w b)=true↔kc v w<0\/(kc v w=0/\(a=false\/b=true)):=by
 unfold cle;simp[Bool.or_eq_true]
def Ln:Line Cut where
 le:=cle
 bot:=.bot
 top:=.top
 total:=by
  intro x y
  cases x <;> cases y <;> try (first | exact Or.inl rfl | exact Or.inr rfl)
  rename_i v a w b
  have h:=dO.1 v w
  rw[gC,gC]
  cases a <;> cases b <;> simp <;> omega
 trans:=by
  intro x y z h1 h2
  cases x
  ·rfl
  ·cases y
   ·cases h1
   ·cases z
    ·cases h2
    ·rename_i u a v b w c
     rw[gC] at *
     have e1:=dO.1 u v
     have e2:=dO.1 v w
     have e3:=dO.1 u w
     have h3:kc u w<=0:=dO.2 u v w (by omega) (by omega)
     by_cases h4:kc u w=0
     ·right
      refine⟨h4,?_⟩
      have h5:kc v u<=0:=dO.2 v w u (by omega) (by omega)
      have h6:kc w v<=0:=dO.2 w u v (by omega) (by omega)
      rcases h1 with h1 | ⟨_,h1 | h1⟩
      ·omega
      ·exact Or.inl h1
      ·rcases h2 with h2 | ⟨_,h2 | h2⟩
       ·omega
       ·rw[h1] at h2;cases h2
       ·exact Or.inr h2
     ·left;omega
    ·rfl
   ·cases z
    ·cases h2
    ·cases h2
    ·rfl
  ·cases y
   ·cases h1
   ·cases h1
   ·exact h2
 anti:=by
  intro x y h1 h2
  cases x <;> cases y <;> first | rfl | (cases h1;done) | (cases h2;done) | skip
  rename_i v a w b
  rw[gC] at *
  have e:=dO.1 v w
  have h0:kc v w=0:=by omega
  have hv:=ad0.1 h0
  subst hv
  cases a <;> cases b <;> first | rfl | (exfalso;simp at h1 h2;omega)
 least:=fun x=>by cases x <;> rfl
 most:=fun x=>by cases x <;> rfl
theorem aei:lt Ln Ln.bot Ln.top=true:=rfl
def txt:Cut->List UInt8
 | .pos v _=>v
 | _=>[]
def aft:Cut->Bool
 | .pos _ a=>a
 | _=>false
def loI:Cut->Bool
 | .pos _ a => !a
 | _=>false
def LoOk:Cut->Prop
 | .bot=>True
 | .pos v _=>Own v
 | .top=>False
def HiOk:Cut->Prop
 | .top=>True
 | .pos v _=>Own v
 | .bot=>False
def loC (v:List UInt8) (i:Bool):Cut:=if v.isEmpty then .bot else .pos v (!i)
def hiC (v:List UInt8) (i:Bool):Cut:=if v.isEmpty then .top else .pos v i
theorem aT {v:List UInt8}(h:Own v):v.isEmpty=false:=by
 cases v with
 | nil=>have:=h.1;revert this;decide
 | cons a l=>rfl
theorem ab9 {c:Cut}(h:LoOk c):loC (txt c) (loI c)=c:=by
 cases c with
 | bot=>rfl
 | top=>exact h.elim
 | pos v a =>
  show loC v (!a)=_
  unfold loC
  rw[aT h];simp
theorem aca {c:Cut}(h:HiOk c):hiC (txt c) (aft c)=c:=by
 cases c with
 | top=>rfl
 | bot=>exact h.elim
 | pos v a =>
  show hiC v a=_
  unfold hiC
  rw[aT h];simp
theorem aej {v:List UInt8}{i:Bool}(h:v.isEmpty=true->i=false):txt (loC v i)=v/\loI (loC v i)=i:=by
 unfold loC
 cases hv:v.isEmpty
 ·simp[txt,loI]
 ·rw[List.isEmpty_iff] at hv;subst hv;simp[txt,loI,h rfl]
theorem aek {v:List UInt8}{i:Bool}(h:v.isEmpty=true->i=false):txt (hiC v i)=v/\aft (hiC v i)=i:=by
 unfold hiC
 cases hv:v.isEmpty
 ·simp[txt,aft]
 ·rw[List.isEmpty_iff] at hv;subst hv;simp[txt,aft,h rfl]
def bound (v:List UInt8):Int:=if v.isEmpty then 0 else if Vm.check v=0 then (if Vm.canon v==v then 0 else 5) else Vm.check v
def span (lo hi:List UInt8) (li hn:Bool):Int :=
 if bound lo≠0 then bound lo else if bound hi≠0 then bound hi
 else if (lo.isEmpty&&li)||(hi.isEmpty&&hn) then 1
 else if lo.isEmpty||hi.isEmpty then 0
 else if decide (0<Vm.cmpV lo hi)||(decide (Vm.cmpV lo hi=0)&&!(li&&hn)) then 7 else 0
theorem aV {v:List UInt8}(h:bound v=0)(h0:v.isEmpty=false):Own v:=by
 unfold bound at h
 rw[h0,if_neg Bool.false_ne_true] at h
 by_cases hc:Vm.check v=0
 ·rw[if_pos hc] at h
  cases he:Vm.canon v==v
  ·rw[he] at h;cases h
  ·exact⟨hc,by simpa using he⟩
 ·rw[if_neg hc] at h;exact absurd h hc
theorem aab {v:List UInt8}(h:Own v):bound v=0:=by
 unfold bound
 rw[aT h,if_neg Bool.false_ne_true,if_pos h.1,h.2];simp
def toP (lo hi:List UInt8) (li hn:Bool):P Cut:={ lo:=loC lo li,hi:=hiC hi hn }
theorem dh {lo hi:List UInt8}{li hn:Bool}(h:span lo hi li hn=0):bound lo=0/\bound hi=0/\(lo.isEmpty=true->li=false)/\(hi.isEmpty=true->hn=false):=by
 unfold span at h
 split at h
 ·rename_i h1;exact absurd h h1
 ·rename_i h1
  split at h
  ·rename_i h2;exact absurd h h2
  ·rename_i h2
   split at h
   ·cases h
   ·rename_i h3
    refine⟨by simpa using h1,by simpa using h2,fun e=>?_,fun e=>?_⟩
    ·cases li
     ·rfl
     ·exact absurd (by rw[e];rfl) h3
    ·cases hn
     ·rfl
     ·exact absurd (by rw[e];simp) h3
theorem sE {v:List UInt8}{i:Bool}(h:bound v=0):LoOk (loC v i):=by
 unfold loC
 cases hv:v.isEmpty
 ·exact aV h hv
 ·trivial
theorem sF {v:List UInt8}{i:Bool}(h:bound v=0):HiOk (hiC v i):=by
 unfold hiC
 cases hv:v.isEmpty
 ·exact aV h hv
 ·trivial
theorem o6 {lo hi:List UInt8}{li hn:Bool}(h1:bound lo=0)(h2:bound hi=0)(h3:lo.isEmpty=true->li=false)(h4:hi.isEmpty=true->hn=false) :
  span lo hi li hn=if ok Ln (toP lo hi li hn) then 0 else 7:=by
 unfold span
 rw[if_neg (by simp[h1]),if_neg (by simp[h2])]
 have h5:((lo.isEmpty&&li)||(hi.isEmpty&&hn))=false:=by
  cases e1:lo.isEmpty <;> cases e2:hi.isEmpty <;> simp <;> first | exact h3 e1 | exact h4 e2 | exact⟨h3 e1,h4 e2⟩
 rw[h5,if_neg Bool.false_ne_true]
 unfold toP ok loC hiC
 cases e1:lo.isEmpty <;> cases e2:hi.isEmpty
 ·have o1:=aV h1 e1
  have o2:=aV h2 e2
  simp only[Bool.or_self,Bool.false_eq_true,if_false]
  have e:lt Ln (Cut.pos lo !li) (Cut.pos hi hn) = !(decide (0<Vm.cmpV lo hi)||(decide (Vm.cmpV lo hi=0)&&!(li&&hn))):=by
   rw[<-aaa o1 o2]
   unfold lt
   congr 1
   show cle (Cut.pos hi hn) (Cut.pos lo !li)=_
   rw[Bool.eq_iff_iff,gC,dO.1 lo hi]
   cases li <;> cases hn <;> simp <;> omega
  rw[e]
  cases (decide (0<Vm.cmpV lo hi)||(decide (Vm.cmpV lo hi=0)&&!(li&&hn))) <;> rfl
 ·rfl
 ·rfl
 ·rfl
theorem yI {v w:List UInt8}{a b:Bool}(hv:Own v)(hw:Own w):lt Ln (.pos v a) (.pos w b)=(decide (Vm.cmpV v w<0)||(decide (Vm.cmpV v w=0)&&(!a&&b))):=by
 rw[<-aaa hv hw]
 unfold lt
 show (!cle (Cut.pos w b) (Cut.pos v a))=_
 rw[Bool.eq_iff_iff,Bool.not_eq_true',Bool.eq_false_iff,ne_eq,gC,dO.1 v w]
 cases a <;> cases b <;> simp <;> omega
def inS (p:P Cut) (v:List UInt8):Bool :=
 (match p.lo with | .pos w a=>decide (0<Vm.cmpV v w)||(decide (Vm.cmpV v w=0)&&!a) | _=>true) &&
 (match p.hi with | .pos w a=>decide (Vm.cmpV v w<0)||(decide (Vm.cmpV v w=0)&&a) | _=>true)
def Ok2 (p:P Cut):Prop:=LoOk p.lo/\HiOk p.hi
end Rs
namespace Rs
open Rm
structure Sp where
 lo:List UInt8
 hi:List UInt8
 li:Bool
 hn:Bool
 deriving DecidableEq
def Sp.err (s:Sp):Int:=span s.lo s.hi s.li s.hn
def Sp.piece (s:Sp):P Cut:=toP s.lo s.hi s.li s.hn
def spOf (p:P Cut):Sp:={ lo:=txt p.lo,hi:=txt p.hi,li:=loI p.lo,hn:=aft p.hi }
theorem jA {p:P Cut}(h:Ok2 p):(spOf p).piece=p:=by
 obtain⟨lo,hi⟩:=p
 show toP (txt lo) (txt hi) (loI lo) (aft hi)=_
 unfold toP
 rw[ab9 h.1,aca h.2]
theorem cW {s:Sp}(h:s.err=0):spOf s.piece=s/\Ok2 s.piece/\ok Ln s.piece=true:=by
 obtain⟨lo,hi,li,hn⟩:=s
 obtain⟨h1,h2,h3,h4⟩:=dh h
 refine⟨?_,⟨sE h1,sF h2⟩,?_⟩
 ·show spOf (toP lo hi li hn)=_
  unfold spOf toP
  obtain⟨a1,a2⟩:=aej h3
  obtain⟨b1,b2⟩:=aek h4
  show Sp.mk (txt (loC lo li)) (txt (hiC hi hn)) (loI (loC lo li)) (aft (hiC hi hn))=_
  rw[a1,a2,b1,b2]
 ·have h5:span lo hi li hn=0:=h
  rw[o6 h1 h2 h3 h4] at h5
  show ok Ln (toP lo hi li hn)=true
  cases e:ok Ln (toP lo hi li hn)
  ·rw[e] at h5;cases h5
  ·rfl
theorem gX {c:Cut}(h:LoOk c\/HiOk c):bound (txt c)=0:=by
 cases c with
 | bot=>rfl
 | top=>rfl
 | pos v a=>exact aab (by rcases h with h | h <;> exact h)
theorem acb {p:P Cut}(h:Ok2 p):(spOf p).err=if ok Ln p then 0 else 7:=by
 have e:(spOf p).err=span (txt p.lo) (txt p.hi) (loI p.lo) (aft p.hi):=rfl
 have e2:=jA h
 have e3:(spOf p).piece=toP (txt p.lo) (txt p.hi) (loI p.lo) (aft p.hi):=rfl
 rw[e,o6 (gX (Or.inl h.1)) (gX (Or.inr h.2)) ?_ ?_,<-e3,e2]
 ·intro h1
  cases hl:p.lo with
  | bot=>rfl
  | top=>rfl
  | pos v a =>
   rw[hl] at h1
   have:=h.1;rw[hl] at this
   have h2:v.isEmpty=true:=h1
   rw[aT this] at h2;cases h2
 ·intro h1
  cases hl:p.hi with
  | bot=>rfl
  | top=>rfl
  | pos v a =>
   rw[hl] at h1
   have:=h.2;rw[hl] at this
   have h2:v.isEmpty=true:=h1
   rw[aT this] at h2;cases h2
def behind (p s:Sp):Bool := !(p.hi.isEmpty||s.lo.isEmpty)&&!(decide (Vm.cmpV s.lo p.hi<0)||(decide (Vm.cmpV s.lo p.hi=0)&&(s.li||p.hn)))
theorem qi {p s:P Cut}(hp:Ok2 p)(hs:Ok2 s):behind (spOf p) (spOf s)=lt Ln p.hi s.lo:=by
 obtain⟨pl,ph⟩:=p
 obtain⟨sl,sh⟩:=s
 have h1:HiOk ph:=hp.2
 have h2:LoOk sl:=hs.1
 show (!((txt ph).isEmpty||(txt sl).isEmpty)&&!(decide (Vm.cmpV (txt sl) (txt ph)<0)||(decide (Vm.cmpV (txt sl) (txt ph)=0)&&(loI sl||aft ph))))=lt Ln ph sl
 cases ph with
 | bot=>exact h1.elim
 | top=>cases sl <;> first | rfl | exact h2.elim
 | pos v a =>
  cases sl with
  | top=>exact h2.elim
  | bot=>show (!((v).isEmpty||true)&&_)=_;rw[Bool.or_true];rfl
  | pos w b =>
   show (!(v.isEmpty||w.isEmpty)&&!(decide (Vm.cmpV w v<0)||(decide (Vm.cmpV w v=0)&&(!b||a))))=_
   rw[aT h1,aT h2,yI h1 h2,Vm.eQ.1 v w,Bool.eq_iff_iff]
   cases a <;> cases b <;> simp <;> omega
def checkF:Nat->Option Sp->List Sp->Int
 | _,_,[]=>0
 | i,o,s :: t =>
  if 64<=i then 4 else if s.err≠0 then s.err
  else match o with
   | none=>checkF (i+1) (some s) t
   | some p=>if behind p s then checkF (i+1) (some s) t else 7
def checkR (l:List Sp):Int:=checkF 0 none l
def Good (r:List (P Cut)):Prop:=Nrm Ln r/\(∀ p∈r,Ok2 p)/\r.length<=64
theorem nC:∀ (l:List Sp) (i:Nat) (p:Sp),i<=64->p.err=0->checkF i (some p) l=0->(∀ s∈l,s.err=0)/\Nrm Ln (p.piece :: l.map Sp.piece)/\i+l.length<=64
 | [],i,p,hi,hp,_=>⟨fun s hs=>(by cases hs),(cW hp).2.2,hi⟩
 | s :: l,i,p,hi,hp,h=>by
  unfold checkF at h
  by_cases hl:64<=i
  ·rw[if_pos hl] at h;cases h
  ·rw[if_neg hl] at h
   by_cases hs:s.err≠0
   ·rw[if_pos hs] at h;exact absurd h hs
   ·rw[if_neg hs] at h
    have hs':s.err=0:=by simpa using hs
    replace h:(if behind p s=true then checkF (i+1) (some s) l else 7)=0:=h
    cases hb:behind p s
    ·rw[hb] at h;cases h
    ·rw[hb] at h
     obtain⟨h1,h2,h3⟩:=nC l (i+1) s (by omega) hs' h
     obtain⟨e1,o1,k1⟩:=cW hp
     obtain⟨e2,o2,_⟩:=cW hs'
     refine⟨fun z hz=>?_,⟨k1,?_,h2⟩,by rw[List.length_cons];omega⟩
     ·rcases List.mem_cons.1 hz with rfl | hz
      ·exact hs'
      ·exact h1 z hz
     ·rw[<-qi o1 o2,e1,e2];exact hb
theorem cX {l:List Sp}(h:checkR l=0):Good (l.map Sp.piece)/\(l.map Sp.piece).map spOf=l:=by
 have key:(∀ s∈l,s.err=0)/\Nrm Ln (l.map Sp.piece)/\l.length<=64:=by
  unfold checkR at h
  cases l with
  | nil=>exact⟨fun s hs=>(by cases hs),trivial,by simp⟩
  | cons s l =>
   unfold checkF at h
   rw[if_neg (by omega)] at h
   by_cases hs:s.err≠0
   ·rw[if_pos hs] at h;exact absurd h hs
   ·rw[if_neg hs] at h
    have aa:s.err=0:=by simpa using hs
    obtain⟨h1,h2,h3⟩:=nC l 1 s (by omega) aa h
    refine⟨fun z hz=>?_,h2,by rw[List.length_cons];omega⟩
    rcases List.mem_cons.1 hz with rfl | hz
    ·exact aa
    ·exact h1 z hz
 obtain⟨h1,h2,h3⟩:=key
 refine⟨⟨h2,fun p hp=>?_,by rw[List.length_map];exact h3⟩,?_⟩
 ·obtain⟨s,hs,rfl⟩:=List.mem_map.1 hp
  exact (cW (h1 s hs)).2.1
 ·rw[List.map_map]
  conv=>rhs;rw[<-List.map_id l]
  exact List.map_congr_left fun s hs=>(cW (h1 s hs)).1
def LoIn (r:List (P Cut)):Prop:=∀ p∈r,Ok2 p
theorem o7:∀ (t:List (P Cut)) (c:P Cut),Ok2 c->LoIn t->LoIn (mrg Ln c t)
 | [],c,h,_=>fun y hy=>by unfold mrg at hy;rw[List.mem_singleton] at hy;rw[hy];exact h
 | r :: t,c,h,ht=>by
  have hr:=ht r (List.mem_cons_self ..)
  have aa:LoIn t:=fun y hy=>ht y (List.mem_cons_of_mem _ hy)
  unfold mrg
  split
  ·refine o7 t _ ⟨h.1,?_⟩ aa
   show HiOk (up Ln c.hi r.hi)
   unfold up;split
   ·exact hr.2
   ·exact h.2
  ·intro y hy
   rcases List.mem_cons.1 hy with rfl | hy
   ·exact h
   ·exact o7 t r hr aa y hy
theorem sG {l:List (P Cut)}(h:LoIn l):LoIn (joinK Ln l):=by
 unfold joinK
 cases e:srt Ln l with
 | nil=>intro y hy;cases hy
 | cons a t =>
  have h4:∀ y∈a :: t,Ok2 y:=fun y hy=>h y ((oW Ln l y).1 (by rw[e];exact hy))
  exact o7 t a (h4 a (List.mem_cons_self ..)) (fun y hy=>h4 y (List.mem_cons_of_mem _ hy))
theorem acd {a b:P Cut}(ha:Ok2 a)(hb:Ok2 b):Ok2 (meet Ln a b):=by
 constructor
 ·show LoOk (if lt Ln a.lo b.lo then b.lo else a.lo)
  split
  ·exact hb.1
  ·exact ha.1
 ·show HiOk (if lt Ln b.hi a.hi then b.hi else a.hi)
  split
  ·exact hb.2
  ·exact ha.2
theorem aac {a b:List (P Cut)}(ha:LoIn a)(hb:LoIn b):LoIn (pairs Ln a b):=by
 intro y hy
 unfold pairs at hy
 rw[List.mem_flatMap] at hy
 obtain⟨x,hx,hy⟩:=hy
 obtain⟨w,hw,rfl⟩:=List.mem_map.1 (List.mem_filter.1 hy).1
 exact acd (ha x hx) (hb w hw)
theorem xm {a b:List (P Cut)}(ha:LoIn a)(hb:LoIn b):LoIn (andK Ln a b):=sG (aac ha hb)
theorem aad {a b:List (P Cut)}(ha:LoIn a)(hb:LoIn b):LoIn (orK Ln a b):=sG fun y hy=>by
 rcases List.mem_append.1 hy with h | h
 ·exact ha y h
 ·exact hb y h
theorem sH:∀ (n:Nat) (r:List (P Cut)),Nrm Ln r->Nrm Ln (r.take n)
 | 0,_,_=>trivial
 | _+1,[],_=>trivial
 | 0+1,_ :: _,h=>dN Ln h
 | _+1+1,[_],h=>h
 | n+1+1,_ :: b :: t,h=>⟨h.1,h.2.1,sH (n+1) (b :: t) h.2.2⟩
theorem qj {r:List (P Cut)}(h:Nrm Ln r)(ho:LoIn r):Good (r.take 64) :=
 ⟨sH 64 r h,fun p hp=>ho p (List.mem_of_mem_take hp),by rw[List.length_take];omega⟩
theorem ace {r:List (P Cut)}(h:r.length<=64):r.take 64=r:=List.take_of_length_le h
theorem acf {a b:List (P Cut)}(ha:LoIn a)(hb:LoIn b):Good ((andK Ln a b).take 64):=qj (kh Ln a b).1 (xm ha hb)
theorem ael {a b:List (P Cut)}(ha:Good a)(hb:Good b):Good ((orK Ln a b).take 64):=qj (mE Ln a b ha.1 hb.1).1 (aad ha.2.1 hb.2.1)
end Rs
namespace Rs
open Rm
def andR (a b:List (P Cut)):List (P Cut):=(andK Ln a b).take 64
def orR (a b:List (P Cut)):List (P Cut):=(orK Ln a b).take 64
def allR:List (P Cut):=all1 Ln
theorem goodA {a b:List (P Cut)}(ha:Good a)(hb:Good b):Good (andR a b):=acf ha.2.1 hb.2.1
theorem goodO {a b:List (P Cut)}(ha:Good a)(hb:Good b):Good (orR a b):=ael ha hb
theorem goodAll:Good allR:=⟨aec Ln aei,fun p hp=>by
 have:p={ lo:=Cut.bot,hi:=Cut.top }:=List.mem_singleton.1 hp
 subst this;exact⟨trivial,trivial⟩,by decide⟩
theorem lenO {a b:List (P Cut)}(ha:Nrm Ln a)(hb:Nrm Ln b):(orK Ln a b).length<=a.length+b.length:=(mE Ln a b ha hb).2.2
def hasR (r:List (P Cut)) (v:List UInt8):Bool:=r.any (fun p=>inS p v)
def signR (c:List UInt8):Nat->List (P Cut)
 | 0=>[{ lo:=.pos c false,hi:=.pos c true }]
 | 1=>[{ lo:=.bot,hi:=.pos c false },{ lo:=.pos c true,hi:=.top }]
 | 2=>[{ lo:=.bot,hi:=.pos c false }]
 | 3=>[{ lo:=.bot,hi:=.pos c true }]
 | 4=>[{ lo:=.pos c true,hi:=.top }]
 | _=>[{ lo:=.pos c false,hi:=.top }]
theorem afs (c:List UInt8):lt Ln (.pos c false) (.pos c true)=true:=by
 unfold lt
 show (!cle (Cut.pos c true) (Cut.pos c false))=true
 rw[Bool.not_eq_true',Bool.eq_false_iff,ne_eq,gC,aeh]
 simp
theorem qk {c:List UInt8}(h:Own c)(i:Nat)(hi:i<6):Good (signR c i):=by
 have h0:=afs c
 rcases (show i=0\/i=1\/i=2\/i=3\/i=4\/i=5 by omega) with rfl | rfl | rfl | rfl | rfl | rfl
 ·exact⟨h0,fun p hp=>by have:=List.mem_singleton.1 hp;subst this;exact⟨h,h⟩,by show 1<=64;omega⟩
 ·refine⟨⟨rfl,h0,rfl⟩,fun p hp=>?_,by show 2<=64;omega⟩
  rcases List.mem_cons.1 hp with rfl | hp
  ·exact⟨trivial,h⟩
  ·have:=List.mem_singleton.1 hp;subst this;exact⟨h,trivial⟩
 ·exact⟨rfl,fun p hp=>by have:=List.mem_singleton.1 hp;subst this;exact⟨trivial,h⟩,by show 1<=64;omega⟩
 ·exact⟨rfl,fun p hp=>by have:=List.mem_singleton.1 hp;subst this;exact⟨trivial,h⟩,by show 1<=64;omega⟩
 ·exact⟨rfl,fun p hp=>by have:=List.mem_singleton.1 hp;subst this;exact⟨h,trivial⟩,by show 1<=64;omega⟩
 ·exact⟨rfl,fun p hp=>by have:=List.mem_singleton.1 hp;subst this;exact⟨h,trivial⟩,by show 1<=64;omega⟩
end Rs
end Go.Proofs.YtgnaiidgjmicaaaGreatDoor
