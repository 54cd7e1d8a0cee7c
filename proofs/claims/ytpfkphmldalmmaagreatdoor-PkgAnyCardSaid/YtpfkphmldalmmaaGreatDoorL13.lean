/- Part 13 of what the laws lean on. -/
import Derived.Test.YtpfkphmldalmmaaGreatDoorL12
set_option maxRecDepth 100000
set_option maxHeartbeats 1600000
namespace Go.Proofs.YtpfkphmldalmmaaGreatDoor
namespace At
open Rs Rm
theorem wK {s:List UInt8}{x:UInt8}{j:Nat}(h:Lib.occAt s [32,x,32] j=true):s[j]?=some 32/\s[j+1]?=some x:=by
 unfold Lib.occAt at h
 obtain⟨t,ht⟩:=List.isPrefixOf_iff_prefix.1 h
 constructor
 ·have h2:([32,x,32]++t)[0]?=(s.drop j)[0]?:=by rw[ht]
  rw[List.getElem?_drop] at h2
  exact h2.symm.trans rfl
 ·have h2:([32,x,32]++t)[1]?=(s.drop j)[1]?:=by rw[ht]
  rw[List.getElem?_drop] at h2
  exact h2.symm.trans rfl
theorem mq {x:UInt8}(hx:x≠32)(p r:List UInt8)(hp:x ∉ p):Lib.index (p++[32,x,32]++r) [32,x,32]=p.length:=by
 refine Lib.index_first (by simp) ?_ fun j hj=>?_
 ·unfold Lib.occAt
  rw[List.append_assoc,List.drop_left]
  exact List.isPrefixOf_iff_prefix.2 ⟨r,rfl⟩
 ·cases h:Lib.occAt (p++[32,x,32]++r) [32,x,32] j with
  | false=>rfl
  | true =>
   have h2:=(wK h).2
   rw[List.append_assoc] at h2
   by_cases h3:j+1<p.length
   ·rw[List.getElem?_append_left h3] at h2
    exact absurd (List.mem_of_getElem? h2) hp
   ·have:j+1=p.length:=by omega
    rw[List.getElem?_append_right (by omega),this,Nat.sub_self] at h2
    simp at h2
    exact absurd h2.symm hx
theorem nW {x:UInt8}(p:List UInt8)(hp:x ∉ p):Lib.index p [32,x,32] = -1:=by
 refine Lib.index_none fun j _=>?_
 cases h:Lib.occAt p [32,x,32] j with
 | false=>rfl
 | true=>exact absurd (List.mem_of_getElem? (wK h).2) hp
theorem jw {x:UInt8}(hx:x≠32):∀ (l:List (List UInt8)),l≠[]->(∀ p∈l,x ∉ p)->Lib.split (Lib.join l [32,x,32]) [32,x,32]=l
 | [],h,_=>absurd rfl h
 | [p],_,hp=>by rw[Lib.join_one,nV (nW p (hp p (by simp)))]
 | p :: q :: r,_,hp=>by
  have e:Lib.join (p :: q :: r) [32,x,32]=p++[32,x,32]++Lib.join (q :: r) [32,x,32]:=by
   rw[Lib.join_cons,Lib.join_cons]
   simp[Lib.joinTail]
  have hi:=mq hx p (Lib.join (q :: r) [32,x,32]) (hp p (by simp))
  rw[e,kN (by simp) hi]
  have ih:=jw hx (q :: r) (by simp) (fun y hy=>hp y (by simp[hy]))
  have e2:(p++[32,x,32]++Lib.join (q :: r) [32,x,32]).drop (p.length+3)=Lib.join (q :: r) [32,x,32]:=by
   have:p.length+3=(p++[32,x,32]).length:=by simp
   rw[this,List.drop_left]
  show List.take p.length (p++[32,x,32]++Lib.join (q :: r) [32,x,32]) :: Lib.split (List.drop (p.length+3) _) _=_
  rw[e2,ih,List.append_assoc,List.take_left]
def low (c:UInt8):Bool:=decide (97<=c.toNat)&&decide (c.toNat<=122)
def nameC (c:UInt8):Bool:=low c||(Vm.dig c||c==45)
def nameB (s:List UInt8):Bool := !s.isEmpty&&(decide (s.length<=24)&&(low (s.getD 0 0)&&s.all nameC))
abbrev Cond:=List UInt8 × List UInt8
def conds (s:Sp):List Cond :=
 if s.lo=s.hi/\s.lo≠[] then [([61],s.lo)]
 else (if s.lo=[] then [] else [(if s.li then [62,61] else [62],s.lo)])++(if s.hi=[] then [] else [(if s.hn then [60,61] else [60],s.hi)])
def termOf (r:List Sp):List (List Cond):=r.map conds
def vers (t:List (List Cond)):Nat:=(t.map List.length).sum
def condT (c:Cond):List UInt8:=c.1++32 :: c.2
def altT (l:List Cond):List UInt8:=Lib.join (l.map condT) [32,38,32]
def noneT:List UInt8:=[110,111,110,101]
def termT (t:List (List Cond)):List UInt8:=if t=[] then noneT else Lib.join (t.map altT) [32,124,32]
def allS:List Sp:=[⟨[],[],false,false⟩]
structure Atm where
 name:List UInt8
 rng:List Sp
 deriving DecidableEq
def checkA (a:Atm):Int:=if nameB a.name then (if checkR a.rng=0 then (if 16<vers (termOf a.rng) then 4 else 0) else checkR a.rng) else 3
def textA (a:Atm):List UInt8:=if a.rng=allS then a.name else a.name++32 :: 40 :: (termT (termOf a.rng)++[41])
def wordC (c:UInt8):Bool := !(c==32||(c==40||c==41))
def wordB (s:List UInt8):Bool := !s.isEmpty&&s.all wordC
def signB (s:List UInt8):Bool:=(sgnOf s).isSome
def condP (s:List UInt8):Option Cond:=if signB (Vm.fst 32 s)&&(Vm.has 32 s&&wordB (Vm.snd 32 s)) then some (Vm.fst 32 s,Vm.snd 32 s) else none
def altP (s:List UInt8):Option (List Cond):=(Lib.split s [32,38,32]).mapM condP
def termP (s:List UInt8):Option (List (List Cond)):=if s=noneT then some [] else (Lib.split s [32,124,32]).mapM altP
def bodyP (s:List UInt8):Option (List UInt8):=if 2<=s.length/\s.getD 0 0=40/\s.getD (s.length-1) 0=41 then some ((s.drop 1).take (s.length-2)) else none
def hAlt:List (P Cut)->List Cond->Int × List (P Cut)
 | r,[]=>(0,r)
 | r,c :: l=>if ofE c.1 c.2=0 then hAlt (andR r (ofR c.1 c.2)) l else (ofE c.1 c.2,[])
def hTerm:List (P Cut)->List (List Cond)->Int × List (P Cut)
 | r,[]=>(0,r)
 | r,a :: t=>if (hAlt allR a).1=0 then hTerm (orR r (hAlt allR a).2) t else ((hAlt allR a).1,[])
def zeroA:Atm:=⟨[],[]⟩
def readA (name:List UInt8) (t:List (List Cond)):Int × Atm :=
 if nameB name then (if vers t<=16 then (if (hTerm [] t).1=0 then (if checkA ⟨name,(hTerm [] t).2.map spOf⟩=0 then (0,⟨name,(hTerm [] t).2.map spOf⟩) else (checkA ⟨name,(hTerm [] t).2.map spOf⟩,zeroA)) else ((hTerm [] t).1,zeroA)) else (4,zeroA)) else (3,zeroA)
def parseA (s:List UInt8):Int × Atm :=
 if wordB (Vm.fst 32 s) then
  (
   if Vm.has 32 s then
    (
     match (bodyP (Vm.snd 32 s)).bind termP with
     | none=>(2,zeroA)
     | some t=>readA (Vm.fst 32 s) t)
   else readA s [[]])
 else (2,zeroA)
theorem lQ {c:UInt8}{s:List UInt8}(h:Vm.has c s=true):s=Vm.fst c s++c :: Vm.snd c s:=by
 unfold Vm.has at h
 have hm:c∈s:=by simpa using h
 unfold Vm.fst Vm.snd
 induction s with
 | nil=>cases hm
 | cons b l ih =>
  by_cases hb:b=c
  ·subst hb;simp
  ·have:c∈l:=by
     rcases List.mem_cons.1 hm with e | e
     ·exact absurd e.symm hb
     ·exact e
   have h2:=ih (by simpa using this) this
   have e:(b != c)=true:=by simpa using hb
   rw[List.takeWhile_cons,List.dropWhile_cons,if_pos e,if_pos e,List.cons_append,<-h2]
theorem fQ {c:UInt8}{p r:List UInt8}(h:c ∉ p):Vm.fst c (p++c :: r)=p/\Vm.snd c (p++c :: r)=r/\Vm.has c (p++c :: r)=true:=by
 have hp:∀ x∈p,(x != c)=true:=fun x hx=>by simp;exact fun e=>h (e ▸ hx)
 refine⟨?_,?_,?_⟩
 ·unfold Vm.fst
  rw[List.takeWhile_append_of_pos hp,List.takeWhile_cons,if_neg (by simp),List.append_nil]
 ·unfold Vm.snd
  rw[List.dropWhile_append_of_pos hp,List.dropWhile_cons,if_neg (by simp)];rfl
 ·unfold Vm.has;simp
theorem jx {c:UInt8}{p:List UInt8}(h:c ∉ p):Vm.fst c p=p/\Vm.has c p=false:=by
 constructor
 ·unfold Vm.fst
  have hp:∀ x∈p,(x != c)=true:=fun x hx=>by simp;exact fun e=>h (e ▸ hx)
  have:=List.takeWhile_append_of_pos (l₂:=[]) hp
  simpa using this
 ·unfold Vm.has;simpa using h
theorem mapM_some {α β:Type}{f:α->Option β}{g:β->α}:∀ (l:List β),(∀ b∈l,f (g b)=some b)->(l.map g).mapM f=some l
 | [],_=>rfl
 | b :: l,h=>by
  rw[List.map_cons,List.mapM_cons,h b (by simp),mapM_some l (fun x hx=>h x (by simp[hx]))]
  rfl
def verC (c:UInt8):Bool:=Vm.ok1 c||(c==58||c==45)
theorem sR {c:UInt8}(h:Vm.ok1 c=true):verC c=true:=by unfold verC;rw[h];rfl
theorem abN {c:UInt8}(h:Vm.dig c=true):verC c=true:=sR (by unfold Vm.ok1;rw[h];rfl)
theorem kO {v:List UInt8}(h:Vm.check v=0):∀ c∈v,verC c=true:=by
 obtain⟨_,h1,h2,h3⟩:=Vm.bU h
 have part:∀ l,Vm.partOk l=true->∀ c∈l,verC c=true:=fun l hl c hc=>by
  unfold Vm.partOk at hl
  simp only[Bool.and_eq_true] at hl
  exact sR (List.all_eq_true.1 hl.2.2.2 c hc)
 have aa:∀ c∈Vm.rest v,verC c=true:=fun c hc=>by
  by_cases ab:Vm.has 45 (Vm.rest v)=true
  ·rw[lQ ab] at hc
   rcases List.mem_append.1 hc with hc | hc
   ·exact part _ h2 c hc
   ·rcases List.mem_cons.1 hc with rfl | hc
    ·rfl
    ·refine part _ h3 c ?_
     unfold Vm.rv;rw[if_pos ab];exact hc
  ·have e:Vm.fst 45 (Vm.rest v)=Vm.rest v:=(jx (by unfold Vm.has at ab;simpa using ab)).1
   refine part _ h2 c ?_
   unfold Vm.pt;rw[e];exact hc
 intro c hc
 by_cases ac:Vm.has 58 v=true
 ·have e:=lQ ac
  rw[e] at hc
  rcases List.mem_append.1 hc with hc | hc
  ·have he:Vm.ep v=Vm.fst 58 v:=by unfold Vm.ep;rw[if_pos ac]
   rw[he] at h1
   unfold Vm.epOk at h1
   simp only[Bool.and_eq_true] at h1
   exact abN (List.all_eq_true.1 h1.2.2 c hc)
  ·rcases List.mem_cons.1 hc with rfl | hc
   ·rfl
   ·refine aa c ?_
    unfold Vm.rest;rw[if_pos ac];exact hc
 ·refine aa c ?_
  unfold Vm.rest;rw[if_neg ac];exact hc
theorem kP {c:UInt8}(h:verC c=true):wordC c=true/\c≠38/\c≠124:=by
 have key:∀ n,n<256->verC (UInt8.ofNat n)=true->wordC (UInt8.ofNat n)=true/\UInt8.ofNat n≠38/\UInt8.ofNat n≠124:=by decide +kernel
 have e:UInt8.ofNat c.toNat=c:=UInt8.ofNat_toNat
 have:=key c.toNat (UInt8.toNat_lt c)
 rw[e] at this
 exact this h
theorem sS {v:List UInt8}(h:Rs.Own v):wordB v=true/\(38:UInt8) ∉ v/\(124:UInt8) ∉ v:=by
 have hc:=kO h.1
 refine⟨?_,fun hm=>(kP (hc _ hm)).2.1 rfl,fun hm=>(kP (hc _ hm)).2.2 rfl⟩
 unfold wordB
 rw[aJ h]
 exact List.all_eq_true.2 fun c hm=>(kP (hc c hm)).1
end At
namespace At
open Rs Rm
theorem zB {v:List UInt8}(i:Nat)(hi:i<6)(h:Rs.Own v):ofR (sgnT i) v=signR v i/\ofE (sgnT i) v=0:=by
 have hs:sgnOf (sgnT i)=some i:=by
  match i,hi with
  | 0,_=>rfl
  | 1,_=>rfl
  | 2,_=>rfl
  | 3,_=>rfl
  | 4,_=>rfl
  | 5,_=>rfl
 unfold ofR ofE
 rw[hs]
 refine⟨?_,h.1⟩
 show (if Vm.check v=0 then signR (Vm.canon v) i else [])=_
 rw[if_pos h.1,h.2]
def CondOk (c:Cond):Prop:=∃ i,i<6/\c.1=sgnT i/\Rs.Own c.2
theorem ql:∀ i,i<6->(32:UInt8) ∉ sgnT i/\(38:UInt8) ∉ sgnT i/\(124:UInt8) ∉ sgnT i/\signB (sgnT i)=true:=by decide +kernel
theorem vt {c:Cond}(h:CondOk c):condP (condT c)=some c:=by
 obtain⟨i,hi,hs,ho⟩:=h
 obtain⟨s,v⟩:=c
 obtain rfl:s=sgnT i:=hs
 obtain⟨f1,_,_,f4⟩:=ql i hi
 obtain⟨e1,e2,e3⟩:=fQ (c:=32) (p:=sgnT i) (r:=v) f1
 unfold condP condT
 rw[e1,e2,e3,f4,(sS ho).1]
 rfl
theorem jy {c:Cond}(h:CondOk c):(38:UInt8) ∉ condT c/\(124:UInt8) ∉ condT c/\(32:UInt8)∈condT c:=by
 obtain⟨i,hi,hs,ho⟩:=h
 obtain⟨_,f2,f3,_⟩:=ql i hi
 obtain⟨_,o2,o3⟩:=sS ho
 unfold condT
 rw[hs]
 refine⟨fun hm=>?_,fun hm=>?_,by simp⟩
 ·rcases List.mem_append.1 hm with h | h
  ·exact f2 h
  ·rcases List.mem_cons.1 h with h | h
   ·exact absurd h (by decide)
   ·exact o2 h
 ·rcases List.mem_append.1 hm with h | h
  ·exact f3 h
  ·rcases List.mem_cons.1 h with h | h
   ·exact absurd h (by decide)
   ·exact o3 h
theorem jz {x:UInt8}{m:List UInt8}:∀ {l:List (List UInt8)},x∈Lib.join l m->(∃ p∈l,x∈p)\/x∈m:=by
 intro l h
 cases l with
 | nil=>rw[Lib.join_nil] at h;cases h
 | cons p r =>
  rw[Lib.join_cons] at h
  rcases List.mem_append.1 h with h | h
  ·exact Or.inl ⟨p,by simp,h⟩
  ·unfold Lib.joinTail at h
   obtain⟨y,hy,hm⟩:=List.mem_flatten.1 h
   obtain⟨q,hq,rfl⟩:=List.mem_map.1 hy
   rcases List.mem_append.1 hm with hm | hm
   ·exact Or.inr hm
   ·exact Or.inl ⟨q,by simp[hq],hm⟩
theorem qm {x:UInt8}{p m:List UInt8}{r:List (List UInt8)}(h:x∈p):x∈Lib.join (p :: r) m:=by
 rw[Lib.join_cons];exact List.mem_append_left _ h
theorem zC {l:List Cond}(h0:l≠[])(h:∀ c∈l,CondOk c):altP (altT l)=some l:=by
 unfold altP altT
 rw[jw (by decide) (l.map condT) (by simpa using h0) (fun p hp=>by
  obtain⟨c,hc,rfl⟩:=List.mem_map.1 hp
  exact (jy (h c hc)).1)]
 exact mapM_some l fun c hc=>vt (h c hc)
theorem qn {l:List Cond}(h0:l≠[])(h:∀ c∈l,CondOk c):(124:UInt8) ∉ altT l/\(32:UInt8)∈altT l:=by
 constructor
 ·intro hm
  unfold altT at hm
  rcases jz hm with⟨p,hp,hx⟩ | hx
  ·obtain⟨c,hc,rfl⟩:=List.mem_map.1 hp
   exact (jy (h c hc)).2.1 hx
  ·exact absurd hx (by decide)
 ·cases l with
  | nil=>exact absurd rfl h0
  | cons c r=>exact qm (jy (h c (by simp))).2.2
theorem vu {t:List (List Cond)}(h0:∀ l∈t,l≠[])(h:∀ l∈t,∀ c∈l,CondOk c):termP (termT t)=some t:=by
 unfold termP termT
 by_cases ht:t=[]
 ·rw[if_pos ht,if_pos rfl,ht]
 ·rw[if_neg ht]
  have aa:Lib.join (t.map altT) [32,124,32]≠noneT:=by
   intro e
   have hm:(32:UInt8)∈Lib.join (t.map altT) [32,124,32]:=by
    cases t with
    | nil=>exact absurd rfl ht
    | cons l r=>exact qm (qn (h0 l (by simp)) (h l (by simp))).2
   rw[e] at hm
   exact absurd hm (by decide)
  rw[if_neg aa,jw (by decide) (t.map altT) (by simpa using ht) (fun p hp=>by
   obtain⟨l,hl,rfl⟩:=List.mem_map.1 hp
   exact (qn (h0 l hl) (h l hl)).1)]
  exact mapM_some t fun l hl=>zC (h0 l hl) (h l hl)
theorem jA {s:Sp}(h:s.err=0):(s.lo≠[]->Rs.Own s.lo)/\(s.hi≠[]->Rs.Own s.hi)/\(s.lo=[]->s.li=false)/\(s.hi=[]->s.hn=false):=by
 obtain⟨h1,h2,h3,h4⟩:=cz h
 have ne:∀ v:List UInt8,v≠[]->v.isEmpty=false:=fun v hv=>by cases v with
  | nil=>exact absurd rfl hv
  | cons _ _=>rfl
 exact⟨fun e=>aN h1 (ne _ e),fun e=>aN h2 (ne _ e),fun e=>h3 (by rw[e];rfl),fun e=>h4 (by rw[e];rfl)⟩
theorem jB {s:Sp}(h:s.err=0):∀ c∈conds s,CondOk c:=by
 obtain⟨b1,b2,_,_⟩:=jA h
 intro c hc
 unfold conds at hc
 split at hc
 ·rename_i h1
  rw[List.mem_singleton.1 hc]
  exact⟨0,by decide,rfl,b1 h1.2⟩
 ·rcases List.mem_append.1 hc with hc | hc
  ·split at hc
   ·cases hc
   ·rename_i h1
    rw[List.mem_singleton.1 hc]
    cases s.li
    ·exact⟨4,by decide,rfl,b1 h1⟩
    ·exact⟨5,by decide,rfl,b1 h1⟩
  ·split at hc
   ·cases hc
   ·rename_i h1
    rw[List.mem_singleton.1 hc]
    cases s.hn
    ·exact⟨2,by decide,rfl,b2 h1⟩
    ·exact⟨3,by decide,rfl,b2 h1⟩
theorem eS {q:List (P Cut)}(hq:Rs.Good q)(hl:q.length<=63):andR allR q=q:=by
 have e:(allR).length=1:=rfl
 rw[r9 (by omega)]
 refine fN Ln (c9 Ln _ _).1 hq.1 fun x hx=>?_
 rw[(c9 Ln allR q).2]
 have:Mem Ln x allR=true:=wi Ln hx
 rw[this,Bool.true_and]
theorem dy (c:List UInt8)(i:Nat):(signR c i).length<=63:=Nat.le_trans (abe c i) (by decide)
theorem lR {l h:Cut}(hn:lt Ln l h=true):andR [{ lo:=l,hi:=Ln.top }] [{ lo:=Ln.bot,hi:=h }]=[{ lo:=l,hi:=h }]:=by
 rw[r9 (by simp)]
 refine fN Ln (c9 Ln _ _).1 hn fun x hx=>?_
 rw[(c9 Ln _ _).2,aC,aC,aC,dW,Bool.or_false,Bool.or_false,Bool.or_false]
 unfold mem
 rw[hx,Ln.least,Bool.and_true,Bool.true_and]
theorem cf (r:List (P Cut))(i:Nat)(hi:i<6){v:List UInt8}(h:Rs.Own v)(l:List Cond):hAlt r ((sgnT i,v) :: l)=hAlt (andR r (signR v i)) l:=by
 show (if ofE (sgnT i) v=0 then hAlt (andR r (ofR (sgnT i) v)) l else _)=_
 rw[if_pos (zB i hi h).2,(zB i hi h).1]
theorem x7 {s:Sp}(h:s.err=0):hAlt allR (conds s)=(0,[s.piece]):=by
 obtain⟨b1,b2,b3,b4⟩:=jA h
 have aa:lt Ln (loC s.lo s.li) (hiC s.hi s.hn)=true:=(bG h).2.2
 obtain⟨lo,hi,li,hn⟩:=s
 have ac:∀ v:List UInt8,v≠[]->∀ b,loC v b=.pos v (!b):=fun v hv b=>by
  unfold loC;cases v with
  | nil=>exact absurd rfl hv
  | cons _ _=>rfl
 have ab:∀ v:List UInt8,v≠[]->∀ b,hiC v b=.pos v b:=fun v hv b=>by
  unfold hiC;cases v with
  | nil=>exact absurd rfl hv
  | cons _ _=>rfl
 show hAlt allR (conds ⟨lo,hi,li,hn⟩)=(0,[{ lo:=loC lo li,hi:=hiC hi hn }])
 dsimp only at b1 b2 b3 b4 aa
 by_cases hl:lo=[]
 ·subst hl
  obtain rfl:li=false:=b3 rfl
  by_cases hh:hi=[]
  ·subst hh
   obtain rfl:hn=false:=b4 rfl
   rfl
  ·have hc:conds ⟨[],hi,false,hn⟩=[(if hn then [60,61] else [60],hi)]:=by
    unfold conds;rw[if_neg (by simp),if_pos rfl,if_neg hh];rfl
   rw[hc,ab hi hh]
   cases hn
   ·refine (cf allR 2 (by decide) (b2 hh) []).trans ?_
    rw[eS (ck (b2 hh) 2 (by decide)) (dy _ _)];rfl
   ·refine (cf allR 3 (by decide) (b2 hh) []).trans ?_
    rw[eS (ck (b2 hh) 3 (by decide)) (dy _ _)];rfl
 ·rw[ac lo hl]
  by_cases hh:hi=[]
  ·subst hh
   obtain rfl:hn=false:=b4 rfl
   have hc:conds ⟨lo,[],li,false⟩=[(if li then [62,61] else [62],lo)]:=by
    unfold conds;rw[if_neg (fun e=>hl e.1),if_neg hl,if_pos rfl];rfl
   rw[hc]
   cases li
   ·refine (cf allR 4 (by decide) (b1 hl) []).trans ?_
    rw[eS (ck (b1 hl) 4 (by decide)) (dy _ _)];rfl
   ·refine (cf allR 5 (by decide) (b1 hl) []).trans ?_
    rw[eS (ck (b1 hl) 5 (by decide)) (dy _ _)];rfl
  ·rw[ab hi hh]
   rw[ac lo hl,ab hi hh] at aa
   by_cases he:lo=hi
   ·subst he
    have hc:conds ⟨lo,lo,li,hn⟩=[([61],lo)]:=by unfold conds;rw[if_pos ⟨rfl,hl⟩]
    have hb:li=true/\hn=true:=by
     rw[rL (b1 hl) (b1 hl)] at aa
     have e0:Vm.cmpV lo lo=0:=by have:=Vm.eO.1 lo lo;omega
     rw[e0] at aa
     cases li <;> cases hn <;> simp at aa ⊢
    rw[hc,hb.1,hb.2]
    refine (cf allR 0 (by decide) (b1 hl) []).trans ?_
    rw[eS (ck (b1 hl) 0 (by decide)) (dy _ _)];rfl
   ·have hc:conds ⟨lo,hi,li,hn⟩=[(if li then [62,61] else [62],lo),(if hn then [60,61] else [60],hi)]:=by
     unfold conds;rw[if_neg (fun e=>he e.1),if_neg hl,if_neg hh];rfl
    rw[hc]
    cases li
    ·refine (cf allR 4 (by decide) (b1 hl) _).trans ?_
     rw[eS (ck (b1 hl) 4 (by decide)) (dy _ _)]
     cases hn
     ·refine (cf _ 2 (by decide) (b2 hh) []).trans ?_
      exact congrArg (Prod.mk 0) (lR aa)
     ·refine (cf _ 3 (by decide) (b2 hh) []).trans ?_
      exact congrArg (Prod.mk 0) (lR aa)
    ·refine (cf allR 5 (by decide) (b1 hl) _).trans ?_
     rw[eS (ck (b1 hl) 5 (by decide)) (dy _ _)]
     cases hn
     ·refine (cf _ 2 (by decide) (b2 hh) []).trans ?_
      exact congrArg (Prod.mk 0) (lR aa)
     ·refine (cf _ 3 (by decide) (b2 hh) []).trans ?_
      exact congrArg (Prod.mk 0) (lR aa)
theorem nX {r t:List (P Cut)}(h:Rs.Good (r++t)):Rs.Good r:=by
 have e:r=(r++t).take r.length:=by rw[List.take_left]
 have hl:r.length<=64:=by have:=h.2.2;rw[List.length_append] at this;omega
 rw[e]
 refine⟨mI _ _ h.1,fun p hp=>h.2.1 p (List.mem_of_mem_take hp),?_⟩
 rw[<-e];exact hl
theorem adl {r:List (P Cut)}{p:P Cut}(h:Rs.Good (r++[p]))(hp:Rs.Good [p]):orR r [p]=r++[p]:=by
 have hr:=nX h
 have hl:=h.2.2
 rw[List.length_append] at hl
 rw[ac7 hr.1 hp.1 hl]
 refine fN Ln (eL Ln r [p] hr.1 hp.1).1 h.1 fun x _=>?_
 rw[(eL Ln r [p] hr.1 hp.1).2.1,iF]
theorem iy:∀ (l:List Sp) (r:List (P Cut)),(∀ s∈l,s.err=0)->Rs.Good (r++l.map Sp.piece)->hTerm r (l.map conds)=(0,r++l.map Sp.piece)
 | [],r,_,_=>by show (0,r)=_;rw[List.map_nil,List.append_nil]
 | s :: l,r,h,hg=>by
  have e:r++(s :: l).map Sp.piece=(r++[s.piece])++l.map Sp.piece:=by rw[List.map_cons,List.append_assoc];rfl
  rw[e] at hg ⊢
  have ho:=adl (nX hg) (abK (h s (by simp)))
  show (if (hAlt allR (conds s)).1=0 then hTerm (orR r (hAlt allR (conds s)).2) (l.map conds) else _)=_
  rw[x7 (h s (by simp))]
  show (if (0:Int)=0 then hTerm (orR r [s.piece]) (l.map conds) else _)=_
  rw[if_pos rfl,ho]
  exact iy l _ (fun x hx=>h x (by simp[hx])) hg
theorem c6 {l:List Sp}(h:checkR l=0):Rs.Good (l.map Sp.piece)/\(l.map Sp.piece).map spOf=l/\∀ s∈l,s.err=0:=by
 obtain⟨h1,h2⟩:=fH h
 refine⟨h1,h2,fun s hs=>?_⟩
 rw[<-h2] at hs
 obtain⟨p,hp,rfl⟩:=List.mem_map.1 hs
 rw[abb (h1.2.1 p hp),if_pos (fC Ln h1.1 p hp)]
theorem x8 {l:List Sp}(h:checkR l=0){s:Sp}(hs:s∈l)(hc:conds s=[]):l=allS:=by
 obtain⟨h1,h2,h3⟩:=c6 h
 obtain⟨_,_,b3,b4⟩:=jA (h3 s hs)
 have ab:s.lo=[]:=by
  by_cases e:s.lo=[]
  ·exact e
  ·unfold conds at hc
   split at hc
   ·cases hc
   ·simp at hc
 have ac:s.hi=[]:=by
  by_cases e:s.hi=[]
  ·exact e
  ·unfold conds at hc
   split at hc
   ·cases hc
   ·simp at hc
 have hp:s.piece={ lo:=.bot,hi:=.top }:=by
  show toP s.lo s.hi s.li s.hn=_
  rw[ab,ac,b3 ab,b4 ac];rfl
 have aa:l.map Sp.piece=allR:=fN Ln h1.1 (wj Ln wA) fun x hx=>by
  have e1:Mem Ln x allR=true:=wi Ln hx
  rw[e1]
  refine List.any_eq_true.2 ⟨s.piece,List.mem_map_of_mem hs,?_⟩
  rw[hp]
  exact (mem_iff Ln).2 ⟨Ln.least _,hx⟩
 rw[<-h2,aa];rfl
theorem sT {c:UInt8}(h:nameC c=true):wordC c=true/\c≠32:=by
 have key:∀ n,n<256->nameC (UInt8.ofNat n)=true->wordC (UInt8.ofNat n)=true/\UInt8.ofNat n≠32:=by decide +kernel
 have:=key c.toNat (UInt8.toNat_lt c)
 rw[UInt8.ofNat_toNat] at this
 exact this h
theorem zD {s:List UInt8}(h:nameB s=true):wordB s=true/\(32:UInt8) ∉ s:=by
 unfold nameB at h
 simp only[Bool.and_eq_true] at h
 obtain⟨h1,_,_,h4⟩:=h
 have hc:=List.all_eq_true.1 h4
 refine⟨?_,fun hm=>(sT (hc _ hm)).2 rfl⟩
 unfold wordB
 rw[h1]
 exact List.all_eq_true.2 fun c hm=>(sT (hc c hm)).1
theorem zE (T:List UInt8):bodyP (40 :: (T++[41]))=some T:=by
 unfold bodyP
 have hl:(40 :: (T++[41])).length=T.length+2:=by simp
 rw[if_pos]
 ·congr 1
  rw[hl]
  show List.take T.length (T++[41])=T
  rw[List.take_left]
 ·refine⟨by omega,rfl,?_⟩
  rw[hl]
  show ((40 :: T)++[41]).getD (T.length+1) 0=41
  simp[List.getD]
theorem eE {a:Atm}(h:checkA a=0):parseA (textA a)=(0,a):=by
 have hn:nameB a.name=true:=by
  unfold checkA at h;split at h
  ·assumption
  ·cases h
 have hr:checkR a.rng=0:=by
  have h2:=h
  unfold checkA at h2;rw[if_pos hn] at h2;split at h2
  ·assumption
  ·exact h2
 have hv:vers (termOf a.rng)<=16:=by
  have h2:=h
  unfold checkA at h2;rw[if_pos hn,if_pos hr] at h2;split at h2
  ·cases h2
  ·omega
 obtain⟨w1,w2⟩:=zD hn
 obtain⟨h1,h2,h3⟩:=c6 hr
 obtain⟨name,rng⟩:=a
 dsimp only at *
 unfold textA
 by_cases aa:rng=allS
 ·rw[if_pos aa]
  unfold parseA
  obtain⟨e1,e2⟩:=jx w2
  dsimp only
  rw[e1,e2,if_pos w1,if_neg (by decide)]
  subst aa
  unfold readA
  have hh:hTerm [] [[]]=(0,allR):=iy allS [] h3 h1
  rw[if_pos hn,if_pos (by decide),hh]
  show (if (0:Int)=0 then (if checkA ⟨name,allS⟩=0 then (0,_) else _) else _)=_
  rw[if_pos rfl,if_pos h];rfl
 ·rw[if_neg aa]
  unfold parseA
  obtain⟨e1,e2,e3⟩:=fQ (c:=32) (p:=name) (r:=40 :: (termT (termOf rng)++[41])) w2
  dsimp only
  rw[e1,e2,e3,if_pos w1,if_pos rfl,zE]
  have ht:termP (termT (termOf rng))=some (termOf rng):=by
   refine vu (fun l hl=>?_) (fun l hl=>?_)
   ·obtain⟨s,hs,rfl⟩:=List.mem_map.1 hl
    exact fun e=>aa (x8 hr hs e)
   ·obtain⟨s,hs,rfl⟩:=List.mem_map.1 hl
    exact jB (h3 s hs)
  rw[Option.bind_some,ht]
  show readA name (termOf rng)=_
  unfold readA
  have hh:hTerm [] (termOf rng)=(0,rng.map Sp.piece):=iy rng [] h3 h1
  rw[if_pos hn,if_pos hv,hh]
  show (if (0:Int)=0 then (if checkA ⟨name,(rng.map Sp.piece).map spOf⟩=0 then (0,_) else _) else _)=_
  rw[if_pos rfl,h2,if_pos h]
end At
section
open Go.RowKit Rs
theorem nY (c:UInt8)(w:World) :
  Calls Tryz.prog 106 #[.int .u8 c.toNat] w fun e w'=>e=.returned (.bool (At.low c))/\w=w':=by
 unfold At.low
 by_cases h1:97<=c.toNat <;> by_cases h2:c.toNat<=122
 all_goals
  go_enter Tryz.func106,Tryz.ntmps106
  go_wp2
 all_goals
  go_ret
  exact⟨by first | (simp[h1,h2];done) | (simp[h1,h2];omega),rfl⟩
theorem x9 (c:UInt8)(w:World) :
  Calls Tryz.prog 107 #[.int .u8 c.toNat] w fun e w'=>e=.returned (.bool (Vm.dig c))/\w=w':=by
 unfold Vm.dig
 by_cases h1:48<=c.toNat <;> by_cases h2:c.toNat<=57
 all_goals
  go_enter Tryz.func107,Tryz.ntmps107
  go_wp2
 all_goals
  go_ret
  exact⟨by first | (simp[h1,h2];done) | (simp[h1,h2];omega),rfl⟩
theorem ya (s:List UInt8)(b:Bool)(w:World)(hs:s.length<=10) :
  Calls Tryz.prog 166 #[.string ⟨s.toArray⟩,.bool b] w fun e w'=>e=.returned (.string ⟨(if b then s++[61] else s).toArray⟩)/\w=w':=by
 cases b
 all_goals
  go_enter Tryz.func166,Tryz.ntmps166
  go_wp2
  go_ret
  exact⟨by first | rfl | (simp;done) | (simp only[if_true];exact congrArg (fun x=>Ending.returned (Value.string x)) (ByteArray.mk_append_mk s [61])),rfl⟩
namespace At
theorem kQ {l:List UInt8}(h:24<l.length):nameB l=false:=by
 unfold nameB
 rw[decide_eq_false (show ¬ l.length<=24 by omega)];simp
theorem qo {c:UInt8}{l:List UInt8}(h:(c :: l).length<=24):nameB (c :: l)=(low c&&(c :: l).all nameC):=by
 unfold nameB
 rw[decide_eq_true h];rfl
theorem dR {l:List UInt8}{k:Nat}{c:UInt8}{f:UInt8->Bool}(hk:k<l.length)(hc:l[k]=c):(l.take (k+1)).all f=((l.take k).all f&&f c):=by
 rw[List.take_succ_eq_append_getElem hk,hc];simp
theorem iO {l:List UInt8}{k:Nat}{c:UInt8}{f:UInt8->Bool}(hk:k<l.length)(hc:l[k]=c)(hf:f c=false):l.all f=false:=by
 cases h:l.all f with
 | false=>rfl
 | true=>have:=List.all_eq_true.1 h c (hc ▸ List.getElem_mem hk);rw[hf] at this;cases this
theorem qp {c:UInt8}(h:low c=true):nameC c=true:=by unfold nameC;rw[h];rfl
theorem kR {c:UInt8}(h:Vm.dig c=true):nameC c=true:=by unfold nameC;rw[h];simp
theorem jC {c:UInt8}(h:low c=false)(h2:Vm.dig c=false):nameC c=(c==45):=by unfold nameC;rw[h,h2];rfl
end At
theorem fe (l:List UInt8)(w:World)(hm:l.length<=maxLen) :
  Calls Tryz.prog 64 #[.string ⟨l.toArray⟩] w fun e w'=>e=.returned (.bool (At.nameB l))/\w=w':=by
 unfold maxLen at hm
 obtain⟨R,hR⟩:=ex (At.nameB l)
 rw[hR]
 cases l with
 | nil =>
  obtain rfl:R=false:=hR.symm
  go_enter Tryz.func64,Tryz.ntmps64
  go_wp2_with fail
  go_ret
  exact⟨rfl,rfl⟩
 | cons c0 t =>
  have ai:(c0 :: t).isEmpty=false:=rfl
  have ab:0<(c0 :: t).length:=by simp
  obtain⟨l,hl⟩:=ex (c0 :: t)
  have ag:Hid (24<l.length->R=false):=fun h=>by rw[<-hR,hl];exact At.kQ h
  have HC:Hid (l.length<=24->R=(At.low c0&&l.all At.nameC)):=fun h=>by rw[<-hR,<-hl];exact At.qo (by rw[hl];exact h)
  have aj:0<l.length:=by rw[<-hl];exact ab
  obtain⟨cb,an,ad⟩:=byte_at l 0 aj
  have h0:cb=c0:=by rw[<-ad];simp[<-hl]
  subst h0
  rw[hl] at ai hm ⊢
  clear hR ad ab hl
  by_cases ak:24<l.length
  ·obtain rfl:R=false:=ag.out ak
   have d0:decide ((24:Int)<(l.length:Int))=true:=decide_eq_true (by omega)
   go_enter Tryz.func64,Tryz.ntmps64
   go_wp2_with fail
   go_ret
   exact⟨rfl,rfl⟩
  ·have HR:=zh (HC.out (by omega))
   have d0:decide ((24:Int)<(l.length:Int))=false:=decide_eq_false (by omega)
   clear HC ag
   go_enter Tryz.func64,Tryz.ntmps64
   go_wp2_with fail
   refine (nY cb _).mono ?_
   rintro e w' ⟨rfl,rfl⟩
   cases aa:At.low cb
   ·have al:Hid (R=false):=by show _=_;rw[HR.out,aa];rfl
    clear aa HR
    go_wp2_with fail
    go_ret
    exact⟨by rw[al.out];rfl,rfl⟩
   ·have ah:Hid (R=l.all At.nameC):=by show _=_;rw[HR.out,aa];rfl
    clear aa HR
    go_wp2_with fail
    go_loop [19] (fun i=>∃ k:Nat,k<=l.length/\i=.int .i64 k/\Hid ((l.take k).all At.nameC=true)) (fun i=>l.length-(intOf i).toNat)
    case atStart=>exact⟨0,Nat.zero_le _,rfl,rfl⟩
    case round =>
     obtain⟨k,hk,rfl,HK⟩:=hrel
     by_cases ae:k<l.length
     ·obtain⟨c,hc,af⟩:=byte_at l k ae
      have HS:=zh (At.dR (f:=At.nameC) ae af)
      have HN:Hid (At.nameC c=false->R=false):=fun h=>by rw[ah.out];exact At.iO ae af h
      have HY:Hid (At.nameC c=true->(l.take (k+1)).all At.nameC=true):=fun h=>by rw[HS.out,HK.out,h];rfl
      clear af HS HK
      go_wp2_with fail
      refine (nY c _).mono ?_
      rintro e w' ⟨rfl,rfl⟩
      cases h1:At.low c
      ·have H1:=zh h1
       clear h1
       go_wp2_with fail
       refine (x9 c _).mono ?_
       rintro e w' ⟨rfl,rfl⟩
       cases h2:Vm.dig c
       ·have HE:=zh (At.jC H1.out h2)
        clear h2
        by_cases h3:c.toNat=45
        ·have n1:((c.toNat:Int) != 45)=false:=by simp[h3]
         have e3:c=45:=by rw[<-UInt8.toNat_inj];exact h3
         have ac:=zh (HY.out (by rw[HE.out,e3];rfl))
         clear h3 e3
         go_wp2_with fail
         go_round
         case rel=>exact⟨k+1,by omega,by go_num,ac⟩
         case measure=>simp[intOf];omega
        ·have n1:((c.toNat:Int) != 45)=true:=by simp;omega
         have am:=zh (HN.out (by rw[HE.out];rw[beq_eq_false_iff_ne];intro e;exact h3 (by rw[e];rfl)))
         clear h3
         go_wp2_with fail
         go_ret
         exact⟨by rw[am.out];rfl,rfl⟩
       ·have ac:=zh (HY.out (At.kR h2))
        clear h2
        go_wp2_with fail
        go_round
        case rel=>exact⟨k+1,by omega,by go_num,ac⟩
        case measure=>simp[intOf];omega
      ·have ac:=zh (HY.out (At.qp h1))
       clear h1
       go_wp2_with fail
       go_round
       case rel=>exact⟨k+1,by omega,by go_num,ac⟩
       case measure=>simp[intOf];omega
     ·have HT:Hid (R=true):=by show _=_;rw[ah.out];have:=HK.out;rwa [List.take_of_length_le (by omega)] at this
      go_wp2_with fail
      go_ret
      exact⟨by rw[HT.out];rfl,rfl⟩
end
section
open Go.RowKit Rs At
attribute [local go_sem ↓] Go.wp_at_zero Go.wp_at_succ
def encD (c:Cond):List Value:=[.string ⟨c.1.toArray⟩,.string ⟨c.2.toArray⟩]
theorem fitsD:Rg.Fits encD 2:=⟨fun _=>rfl,fun x u hu=>by
 simp only[encD,List.mem_cons,List.not_mem_nil,or_false] at hu
 rcases hu with rfl | rfl <;> rfl⟩
theorem sliceD:Rg.SliceT Tryz.prog encD 2 176 227:=⟨fitsD,by decide,by kernel_rfl,Rg.bE (z:=.agg #[.string ByteArray.empty,.string ByteArray.empty]) (b:=32) (by kernel_rfl) (by rfl) (by decide)⟩
theorem sliceO:Rg.SliceT Tryz.prog encO 1 136 176:=⟨fitsO,by decide,by kernel_rfl,Rg.bE (z:=.slice none 0 0) (b:=24) (by kernel_rfl) (by rfl) (by decide)⟩
abbrev DRow (w:World) (A:Option Addr) (l:List Cond):Prop:=Rg.Row encD 2 w A l
abbrev DOwn (w:World) (B:Nat) (v:Value) (l:List Cond):Prop:=Rg.Own encD 2 w B 227 v l
def TIn (w:World) (ds:List Desc) (t:List (List Cond)):Prop:=ds.length=t.length/\∀ (i:Nat) (d:Desc) (l:List Cond),ds[i]?=some d->t[i]?=some l->d.2.1=l.length/\DRow w d.1 l
def TFree (v:Value) (ds:List Desc) (t:List (List Cond)):Prop:=∀ (i:Nat) (d:Desc) (l:List Cond),ds[i]?=some d->t[i]?=some l->0<l.length->∀ a,d.1=some a->v.ownBlock≠some a.block
def TRow (w:World) (A:Option Addr) (t:List (List Cond)):Prop:=∃ ds,Rg.Row encO 1 w A ds/\TIn w ds t
def TOwn (w:World) (B:Nat) (v:Value) (t:List (List Cond)):Prop:=∃ ds,Rg.Own encO 1 w B 176 v ds/\TIn w ds t/\TFree v ds t
theorem kS {w w':World}{ds:List Desc}{t:List (List Cond)}(h:TIn w ds t)(hb:Below w.heap.size w w'):TIn w' ds t:=⟨h.1,fun i d l h1 h2=>⟨(h.2 i d l h1 h2).1,Rg.ak (h.2 i d l h1 h2).2 hb⟩⟩
theorem jD {w w':World}{A:Option Addr}{t:List (List Cond)}(h:TRow w A t)(hb:Below w.heap.size w w'):TRow w' A t:=by
 obtain⟨ds,h1,h2⟩:=h;exact⟨ds,Rg.ak h1 hb,kS h2 hb⟩
theorem nZ {w w':World}{B:Nat}{v:Value}{t:List (List Cond)}(h:TOwn w B v t)(hb:Below w.heap.size w w'):TOwn w' B v t:=by
 obtain⟨ds,h1,h2,h3⟩:=h;exact⟨ds,Rg.own_below h1 hb,kS h2 hb,h3⟩
theorem sU (w:World)(B:Nat):TOwn w B (.slice none 0 0) []:=⟨[],Rg.aD _ _ _,⟨rfl,fun i d l h=>by simp at h⟩,fun i d l h=>by simp at h⟩
theorem mr {ops:Array Oper}{rest:List Oper}{o:Oper}{a:Act}{Q:Exit->Act->World->Prop}{u:World}{Tc:TypeId}(hgd:o.guard=none)(sl x:Operand)
  (ho:o.op=.call { callee:=.builtin .append,args:=#[sl,x],argTypes:=#[136,136] })
  (B:Nat) (v:Value) (t:List (List Cond)) (l:List Cond) (C:Option Addr) (n c:Nat) (hs:a.eval sl=v) (hx:a.eval x=.slice (some ⟨u.heap.size,0,none⟩) 1 1) (hT:TOwn u B v t) (hn:l.length=n) (hrow:DRow u C l)
  (hfresh:0<l.length->∀ a,C=some a->v.ownBlock≠some a.block) (hsz:t.length+1<=1000000) (hB:B<=u.heap.size)
  (h:∀ v' w',TOwn w' B v' (t++[l])->Below B u w'->u.heap.size<=w'.heap.size->wpList Tryz.prog ops Q rest (a.put o.dst v') w'):wpList Tryz.prog ops Q (o :: rest) a (u.alloc (.cells #[.slice C n c] Tc)):=by
 obtain⟨ds,h1,h2,h3⟩:=hT
 obtain⟨i,z,hi,aj,al,am,hb⟩:=sliceO.info
 have aa:Below u.heap.size u (u.alloc (.cells #[.slice C n c] Tc)):=(Below.refl _ _).alloc (Nat.le_refl _) _
 have ab:=Rg.own_below h1 aa
 have af:ds.length+1<=1000000:=by rw[h2.1];exact hsz
 refine wpList_append_lies _ hgd sl x 136 ho B 176 i z 1 i.bytes sliceO.under hi aj am rfl al sliceO.pos v ds.length (Rg.flat encO ds) hs ab ⟨u.heap.size,0,none⟩ 1 1 (Rg.flat encO [(C,n,c)]) hx rfl (Rg.ay u Tc [(C,n,c)] _ (by rfl)) (Rg.cE fitsO _) (by decide) (by unfold maxLen;omega) (by
  have:(ds.length+1)*i.bytes<=1000000*1000:=Nat.mul_le_mul af hb
  omega) (Nat.le_trans hB aa.size) _ rfl ?_
 intro g cap w' g1 g2 g3 g4
 have ag:(u.alloc (.cells #[.slice C n c] Tc)).heap.size=u.heap.size+1:=by simp
 have ah:Rg.Own encO 1 w' B 176 (.slice (some ⟨g,0,none⟩) (ds.length+1) cap) (ds++[(C,n,c)]):=by
  unfold Rg.Own
  rw[Rg.eP,List.length_append]
  exact g1
 have ai:=kS h2 aa
 have keep:∀ (j:Nat) (d:Desc) (m:List Cond),ds[j]?=some d->t[j]?=some m->DRow w' d.1 m:=fun j d m e1 e2=>dY (ai.2 j d m e1 e2).2 g2 (h3 j d m e1 e2)
 have ac:∀ (b:Nat),b<u.heap.size->v.ownBlock≠some b->(some g:Option Nat)≠some b:=fun b hb hv e=>by
  rcases g3 with g3 | g3
  ·exact hv (by rw[g3,e])
  ·have:=Option.some.inj e;omega
 refine h _ w' ⟨ds++[(C,n,c)],ah,⟨by rw[List.length_append,List.length_append,h2.1];rfl,fun j d m e1 e2=>?_⟩,fun j d m e1 e2 hm ad had=>?_⟩ ?_ (by have:=g2.size;omega)
 ·rcases aR e1 with⟨q1,q2⟩ | ⟨q1,q2⟩
  ·rcases aR e2 with⟨_,p2⟩ | ⟨p1,_⟩
   ·exact⟨(h2.2 j d m q2 p2).1,keep j d m q2 p2⟩
   ·have:=h2.1;omega
  ·rcases aR e2 with⟨p1,_⟩ | ⟨_,p2⟩
   ·have:=h2.1;omega
   ·subst q2 p2
    exact⟨hn.symm,dY (Rg.ak hrow aa) g2 hfresh⟩
 ·rcases aR e1 with⟨q1,q2⟩ | ⟨q1,q2⟩
  ·rcases aR e2 with⟨_,p2⟩ | ⟨p1,_⟩
   ·obtain⟨a2,ea,ae,_⟩:=(h2.2 j d m q2 p2).2 hm
    rw[had] at ea
    cases ea
    exact ac _ ae (h3 j d m q2 p2 hm ad had)
   ·have:=h2.1;omega
  ·rcases aR e2 with⟨p1,_⟩ | ⟨_,p2⟩
   ·have:=h2.1;omega
   ·subst q2 p2
    obtain⟨a2,ea,ae,_⟩:=hrow hm
    rw[show C=some ad from had] at ea
    cases ea
    exact ac _ ae (hfresh hm ad had)
 ·exact (aa.mono hB).trans (Rg.aw ab (Nat.le_trans hB aa.size) g2)
def CondsRet (w:World) (l:List Cond) (e:Ending) (w':World):Prop:=∃ C n c,e=.returned (.slice C n c)/\l.length=n/\DRow w' C l/\(∀ a,C=some a->w.heap.size<=a.block)/\Below w.heap.size w w'
def TermRet (w:World) (t:List (List Cond)) (e:Ending) (w':World):Prop:=∃ C n c,e=.returned (.slice C n c)/\t.length=n/\TRow w' C t/\Below w.heap.size w w'
theorem gz {w:World}{B:Nat}{v:Value}{l:List Cond}(h:DOwn w B v l):∃ C d,v=.slice C l.length d/\DRow w C l/\∀ a,C=some a->B<=a.block:=by
 obtain⟨C,d,hv,hr,_,_⟩:=Rg.aE fitsD h
 exact⟨C,d,hv,hr,fun a ha=>by subst ha;exact (Rg.bD h a.block (by rw[hv];rfl)).1⟩
theorem sV {w:World}{B:Nat}{v:Value}{t:List (List Cond)}(h:TOwn w B v t):∃ C d,v=.slice C t.length d/\TRow w C t:=by
 obtain⟨ds,h1,h2,_⟩:=h
 obtain⟨C,d,hv,hr,_,_⟩:=Rg.aE fitsO h1
 rw[h2.1] at hv
 exact⟨C,d,hv,ds,hr,h2⟩
theorem pC {w:World}{A:Option Addr}{t:List (List Cond)}(h:TRow w A t)(k:Nat)(hk:k<t.length):∃ ad C n c,A=some ad/\ad.block<w.heap.size/\w.cell? (ad.add k)=some (.slice C n c)/\t[k].length=n/\DRow w C t[k]:=by
 obtain⟨ds,h1,h2,h3⟩:=h
 have aa:k<ds.length:=by omega
 obtain⟨ad,x,e,hx,ab,hc⟩:=Rg.cW h1 k aa
 obtain⟨q1,q2⟩:=h3 k x t[k] (by rw[List.getElem?_eq_getElem aa,hx]) (List.getElem?_eq_getElem hk)
 refine⟨ad,x.1,x.2.1,x.2.2,e,ab,?_,q1.symm,q2⟩
 have:=hc 0 _ rfl
 rw[if_pos rfl,Nat.mul_one] at this
 exact this
theorem wL {w:World}{A:Option Addr}{l:List Cond}(h:DRow w A l)(k:Nat)(hk:k<l.length):∃ ad,A=some ad/\ad.block<w.heap.size/\w.cell? (ad.add (k*2))=some (.string ⟨l[k].1.toArray⟩)/\w.cell? ⟨(ad.add (k*2)).block,(ad.add (k*2)).off+1,none⟩=some (.string ⟨l[k].2.toArray⟩):=by
 obtain⟨ad,x,e,hx,aa,hc⟩:=Rg.cW h k hk
 subst hx
 exact⟨ad,e,aa,hc 0 _ rfl,hc 1 _ rfl⟩
end
end Go.Proofs.YtpfkphmldalmmaaGreatDoor
