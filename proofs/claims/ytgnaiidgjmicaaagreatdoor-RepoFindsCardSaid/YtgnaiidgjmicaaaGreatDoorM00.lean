/- Part 0 of what the laws lean on. -/

namespace Go.Proofs.YtgnaiidgjmicaaaGreatDoor
namespace Rm
structure Line (K:Type) where
 le:K->K->Bool
 bot:K
 top:K
 total:∀ a b,le a b=true\/le b a=true
 trans:∀ a b c,le a b=true->le b c=true->le a c=true
 anti:∀ a b,le a b=true->le b a=true->a=b
 least:∀ a,le bot a=true
 most:∀ a,le a top=true
section
variable {K:Type} (L:Line K)
def lt (a b:K):Bool := !L.le b a
theorem le_refl (a:K):L.le a a=true:=by rcases L.total a a with h | h <;> exact h
theorem lt_iff {a b:K}:lt L a b=true↔¬ L.le b a=true:=by unfold lt;cases L.le b a <;> simp
theorem le_of_lt {a b:K}(h:lt L a b=true):L.le a b=true:=by
 rcases L.total a b with h1 | h1
 ·exact h1
 ·exact absurd h1 ((lt_iff L).1 h)
theorem lt_or_le (a b:K):lt L a b=true\/L.le b a=true:=by unfold lt;cases L.le b a <;> simp
theorem lt_of_lt_of_le {a b c:K}(h1:lt L a b=true)(h2:L.le b c=true):lt L a c=true:=by
 rw[lt_iff] at *;exact fun h=>h1 (L.trans _ _ _ h2 h)
theorem lt_of_le_of_lt {a b c:K}(h1:L.le a b=true)(h2:lt L b c=true):lt L a c=true:=by
 rw[lt_iff] at *;exact fun h=>h2 (L.trans _ _ _ h h1)
theorem dM (a:K):¬ lt L a a=true:=by rw[lt_iff];exact fun h=>h (le_refl L a)
theorem not_le {a b:K}(h:¬ L.le a b=true):lt L b a=true:=(lt_iff L).2 h
structure P (K:Type) where
 lo:K
 hi:K
def mem (x:K) (p:P K):Bool:=L.le p.lo x&&lt L x p.hi
def Mem (x:K) (l:List (P K)):Bool:=l.any (mem L x)
def ok (p:P K):Bool:=lt L p.lo p.hi
def Nrm:List (P K)->Prop
 | []=>True
 | [a]=>ok L a=true
 | a :: b :: t=>ok L a=true/\lt L a.hi b.lo=true/\Nrm (b :: t)
theorem mem_iff {x:K}{p:P K}:mem L x p=true↔L.le p.lo x=true/\lt L x p.hi=true:=by unfold mem;simp
theorem aK {x:K}{p:P K}{l:List (P K)}:Mem L x (p :: l)=(mem L x p||Mem L x l):=by unfold Mem;simp
theorem gi {x:K}:Mem L x []=false:=rfl
theorem lB {x:K}{l m:List (P K)}:Mem L x (l++m)=(Mem L x l||Mem L x m):=by unfold Mem;simp
theorem dN {a:P K}{l:List (P K)}(h:Nrm L (a :: l)):ok L a=true:=by cases l with
 | nil=>exact h
 | cons b t=>exact h.1
theorem gu {a:P K}{l:List (P K)}(h:Nrm L (a :: l)):Nrm L l:=by cases l with
 | nil=>trivial
 | cons b t=>exact h.2.2
theorem np {a:P K}(h:ok L a=true):mem L a.lo a=true:=by rw[mem_iff];exact⟨le_refl L _,h⟩
theorem fm:∀ {l:List (P K)} {a:P K},Nrm L (a :: l)->∀ x,Mem L x l=true->lt L a.hi x=true
 | [],_,_,x,h=>by simp[Mem] at h
 | b :: t,a,h,x,hx=>by
  rw[aK,Bool.or_eq_true] at hx
  rcases hx with hx | hx
  ·exact lt_of_lt_of_le L h.2.1 ((mem_iff L).1 hx).1
  ·have h1:=fm h.2.2 x hx
   exact lt_of_lt_of_le L (lt_of_lt_of_le L h.2.1 (le_of_lt L (dN L h.2.2))) (le_of_lt L h1)
theorem p9 {l:List (P K)}{a:P K}(h:Nrm L (a :: l))(x:K)(hx:Mem L x (a :: l)=true):L.le a.lo x=true:=by
 rw[aK,Bool.or_eq_true] at hx
 rcases hx with hx | hx
 ·exact ((mem_iff L).1 hx).1
 ·exact L.trans _ _ _ (le_of_lt L (dN L h)) (le_of_lt L (fm L h x hx))
theorem nr {l:List (P K)}{a:P K}(h:Nrm L (a :: l)):Mem L a.hi (a :: l)=false:=by
 rw[aK,Bool.or_eq_false_iff]
 constructor
 ·rw[Bool.eq_false_iff];intro hx;exact dM L _ ((mem_iff L).1 hx).2
 ·rw[Bool.eq_false_iff];intro hx;exact dM L _ (fm L h _ hx)
theorem ns:∀ (l m:List (P K)),Nrm L l->Nrm L m->(∀ x,lt L x L.top=true->Mem L x l=Mem L x m)->l=m
 | [],[],_,_,_=>rfl
 | [],b :: m,_,hm,h=>by
  have hb:=dN L hm
  have:=h b.lo (lt_of_lt_of_le L hb (L.most _))
  rw[gi,aK,np L hb] at this;cases this
 | a :: l,[],hl,_,h=>by
  have ha:=dN L hl
  have:=h a.lo (lt_of_lt_of_le L ha (L.most _))
  rw[gi,aK,np L ha] at this;cases this
 | a :: l,b :: m,hl,hm,h=>by
  have ha:=dN L hl
  have hb:=dN L hm
  have hlo:a.lo=b.lo:=by
   refine L.anti _ _ (p9 L hl _ ?_) (p9 L hm _ ?_)
   ·rw[h _ (lt_of_lt_of_le L hb (L.most _)),aK,np L hb];rfl
   ·rw[<-h _ (lt_of_lt_of_le L ha (L.most _)),aK,np L ha];rfl
  have aa:a.hi=b.hi:=by
   refine L.anti _ _ ?_ ?_
   ·rcases lt_or_le L b.hi a.hi with h1 | h1
    ·have e:=h b.hi (lt_of_lt_of_le L h1 (L.most _))
     rw[nr L hm,aK] at e
     have:mem L b.hi a=true:=by rw[mem_iff];exact⟨by rw[hlo];exact le_of_lt L hb,h1⟩
     rw[this] at e;cases e
    ·exact h1
   ·rcases lt_or_le L a.hi b.hi with h1 | h1
    ·have e:=h a.hi (lt_of_lt_of_le L h1 (L.most _))
     rw[nr L hl,aK] at e
     have:mem L a.hi b=true:=by rw[mem_iff];exact⟨by rw[<-hlo];exact le_of_lt L ha,h1⟩
     rw[this] at e;cases e
    ·exact h1
  have ac:a=b:=by cases a;cases b;simp at hlo aa;rw[hlo,aa]
  subst ac
  have ht:l=m:=by
   refine ns l m (gu L hl) (gu L hm) fun x hx=>?_
   have e:=h x hx
   rw[aK,aK] at e
   cases ab:mem L x a
   ·rw[ab] at e;simpa using e
   ·have h2:=((mem_iff L).1 ab).2
    have n1:Mem L x l=false:=by
     rw[Bool.eq_false_iff];intro h3
     exact dM L _ (lt_of_lt_of_le L h2 (le_of_lt L (fm L hl x h3)))
    have n2:Mem L x m=false:=by
     rw[Bool.eq_false_iff];intro h3
     exact dM L _ (lt_of_lt_of_le L h2 (le_of_lt L (fm L hm x h3)))
    rw[n1,n2]
  rw[ht]
def ins (x:P K) (l:List (P K)):List (P K):=l.takeWhile (fun y => !lt L x.lo y.lo)++x :: l.dropWhile (fun y => !lt L x.lo y.lo)
def srt (l:List (P K)):List (P K):=l.foldl (fun r x=>ins L x r) []
def Srt:List (P K)->Prop
 | []=>True
 | a :: l=>(∀ y∈l,L.le a.lo y.lo=true)/\Srt l
theorem xc {x y:P K}{l:List (P K)}:y∈ins L x l↔y=x\/y∈l:=by
 unfold ins
 have h:=List.takeWhile_append_dropWhile (p:=fun y => !lt L x.lo y.lo) (l:=l)
 constructor
 ·intro hy
  rw[List.mem_append,List.mem_cons] at hy
  rcases hy with hy | hy | hy
  ·right;rw[<-h];exact List.mem_append_left _ hy
  ·left;exact hy
  ·right;rw[<-h];exact List.mem_append_right _ hy
 ·intro hy
  rw[List.mem_append,List.mem_cons]
  rcases hy with hy | hy
  ·right;left;exact hy
  ·rw[<-h,List.mem_append] at hy
   rcases hy with hy | hy
   ·left;exact hy
   ·right;right;exact hy
theorem abY (x a:P K)(l:List (P K)):ins L x (a :: l)=if lt L x.lo a.lo then x :: a :: l else a :: ins L x l:=by
 unfold ins
 rw[List.takeWhile_cons,List.dropWhile_cons]
 cases lt L x.lo a.lo <;> simp
theorem xd:∀ {l:List (P K)} (x:P K),Srt L l->Srt L (ins L x l)
 | [],x,_=>⟨fun y hy=>by simp at hy,trivial⟩
 | a :: l,x,h=>by
  rw[abY]
  split
  ·rename_i h1
   refine⟨fun y hy=>?_,h⟩
   rcases List.mem_cons.1 hy with rfl | hy
   ·exact le_of_lt L h1
   ·exact L.trans _ _ _ (le_of_lt L h1) (h.1 y hy)
  ·rename_i h1
   refine⟨fun y hy=>?_,xd x h.2⟩
   rcases (xc L).1 hy with rfl | hy
   ·unfold lt at h1;revert h1;cases L.le a.lo y.lo <;> simp
   ·exact h.1 y hy
theorem ad7 {z:K}{x:P K}{l:List (P K)}:Mem L z (ins L x l)=(mem L z x||Mem L z l):=by
 unfold ins
 have h:=List.takeWhile_append_dropWhile (p:=fun y => !lt L x.lo y.lo) (l:=l)
 conv=>rhs;rw[<-h]
 rw[lB,aK,lB]
 cases Mem L z (l.takeWhile fun y => !lt L x.lo y.lo) <;> cases mem L z x <;> simp
theorem ad8 {x:P K}{l:List (P K)}:(ins L x l).length=l.length+1:=by
 unfold ins
 have h:=congrArg List.length (List.takeWhile_append_dropWhile (p:=fun y => !lt L x.lo y.lo) (l:=l))
 rw[List.length_append] at h
 rw[List.length_append,List.length_cons];omega
theorem iV:∀ (l r:List (P K)),Srt L r->Srt L (l.foldl (fun r x=>ins L x r) r)/\(∀ z,Mem L z (l.foldl (fun r x=>ins L x r) r)=(Mem L z r||Mem L z l)) /\
  (l.foldl (fun r x=>ins L x r) r).length=r.length+l.length/\∀ y,y∈l.foldl (fun r x=>ins L x r) r↔y∈r\/y∈l
 | [],r,h=>⟨h,fun z=>by simp[gi],rfl,fun y=>by simp⟩
 | x :: l,r,h=>by
  obtain⟨h1,h2,h3,h4⟩:=iV l (ins L x r) (xd L x h)
  refine⟨h1,fun z=>?_,?_,fun y=>?_⟩
  ·rw[List.foldl_cons,h2,ad7,aK];cases Mem L z r <;> cases mem L z x <;> simp
  ·rw[List.foldl_cons,h3,ad8,List.length_cons];omega
  ·rw[List.foldl_cons,h4,xc,List.mem_cons]
   constructor
   ·rintro ((h | h) | h)
    ·exact Or.inr (Or.inl h)
    ·exact Or.inl h
    ·exact Or.inr (Or.inr h)
   ·rintro (h | h | h)
    ·exact Or.inl (Or.inr h)
    ·exact Or.inl (Or.inl h)
    ·exact Or.inr h
theorem ad9 (l:List (P K)):Srt L (srt L l):=(iV L l [] trivial).1
theorem aea (l:List (P K))(z:K):Mem L z (srt L l)=Mem L z l:=by have:=(iV L l [] trivial).2.1 z;rw[gi,Bool.false_or] at this;exact this
theorem aeb (l:List (P K)):(srt L l).length=l.length:=by have:=(iV L l [] trivial).2.2.1;unfold srt;simpa using this
theorem oW (l:List (P K))(y:P K):y∈srt L l↔y∈l:=by have:=(iV L l [] trivial).2.2.2 y;unfold srt;simpa using this
def up (a b:K):K:=if lt L a b then b else a
def mrg (c:P K):List (P K)->List (P K)
 | []=>[c]
 | r :: t=>if L.le r.lo c.hi then mrg { c with hi:=up L c.hi r.hi } t else c :: mrg r t
theorem yz (a b:K):L.le a (up L a b)=true/\L.le b (up L a b)=true:=by
 unfold up
 split
 ·rename_i h;exact⟨le_of_lt L h,le_refl L _⟩
 ·rename_i h
  refine⟨le_refl L _,?_⟩
  unfold lt at h;revert h;cases L.le b a <;> simp
theorem abZ (c:P K)(t:List (P K)):∃ a u,mrg L c t=a :: u/\a.lo=c.lo:=by
 induction t generalizing c with
 | nil=>exact⟨c,[],rfl,rfl⟩
 | cons r t ih =>
  unfold mrg
  split
  ·obtain⟨a,u,h1,h2⟩:=ih { c with hi:=up L c.hi r.hi }
   exact⟨a,u,h1,h2⟩
  ·exact⟨c,_,rfl,rfl⟩
theorem oX:∀ (t:List (P K)) (c:P K),ok L c=true->(∀ y∈t,ok L y=true)->Srt L (c :: t)->Nrm L (mrg L c t)
 | [],c,h,_,_=>h
 | r :: t,c,h,hall,hs=>by
  unfold mrg
  split
  ·refine oX t _ ?_ (fun y hy=>hall y (List.mem_cons_of_mem _ hy)) ⟨fun y hy=>hs.1 y (List.mem_cons_of_mem _ hy),hs.2.2⟩
   exact lt_of_lt_of_le L h (yz L c.hi r.hi).1
  ·rename_i h1
   have hr:=hall r (List.mem_cons_self ..)
   have ih:=oX t r hr (fun y hy=>hall y (List.mem_cons_of_mem _ hy)) hs.2
   obtain⟨a,u,e,ha⟩:=abZ L r t
   rw[e] at ih ⊢
   refine⟨h,?_,ih⟩
   rw[ha];exact not_le L h1
theorem oY:∀ (t:List (P K)) (c:P K) (z:K),(∀ y∈t,L.le c.lo y.lo=true)->Srt L t->Mem L z (mrg L c t)=(mem L z c||Mem L z t)
 | [],c,z,_,_=>by unfold mrg;rw[aK,gi]
 | r :: t,c,z,hle,hs=>by
  unfold mrg
  split
  ·rename_i h1
   have hcr:=hle r (List.mem_cons_self ..)
   rw[oY t { c with hi:=up L c.hi r.hi } z (fun y hy=>hle y (List.mem_cons_of_mem _ hy)) hs.2,aK]
   have e:mem L z { c with hi:=up L c.hi r.hi }=(mem L z c||mem L z r):=by
    rw[Bool.eq_iff_iff,Bool.or_eq_true,mem_iff,mem_iff,mem_iff]
    constructor
    ·rintro⟨g1,g2⟩
     rcases lt_or_le L z c.hi with g3 | g3
     ·exact Or.inl ⟨g1,g3⟩
     ·right
      refine⟨L.trans _ _ _ h1 g3,?_⟩
      have aa:lt L z (up L c.hi r.hi)=true:=g2
      unfold up at aa
      split at aa
      ·exact aa
      ·exact absurd g3 ((lt_iff L).1 aa)
    ·rintro (⟨g1,g2⟩ | ⟨g1,g2⟩)
     ·exact⟨g1,lt_of_lt_of_le L g2 (yz L c.hi r.hi).1⟩
     ·exact⟨L.trans _ _ _ hcr g1,lt_of_lt_of_le L g2 (yz L c.hi r.hi).2⟩
   rw[e,Bool.or_assoc]
  ·rw[aK,oY t r z hs.1 hs.2,aK]
theorem oZ:∀ (t:List (P K)) (c:P K),(mrg L c t).length<=t.length+1
 | [],c=>by simp[mrg]
 | r :: t,c=>by
  unfold mrg
  split
  ·have:=oZ t { c with hi:=up L c.hi r.hi };simp;omega
  ·have:=oZ t r;simp;omega
def joinK (l:List (P K)):List (P K):=match srt L l with | []=>[] | a :: t=>mrg L a t
theorem nt (l:List (P K))(h:∀ y∈l,ok L y=true):Nrm L (joinK L l)/\(∀ z,Mem L z (joinK L l)=Mem L z l)/\(joinK L l).length<=l.length:=by
 have h1:=ad9 L l
 have h2:=aea L l
 have h3:=aeb L l
 have h4:=oW L l
 unfold joinK
 cases hs:srt L l with
 | nil =>
  rw[hs] at h2 h3
  exact⟨trivial,h2,by simp⟩
 | cons a t =>
  rw[hs] at h1 h2 h3 h4
  refine⟨oX L t a (h a ((h4 a).1 (List.mem_cons_self ..))) (fun y hy=>h y ((h4 y).1 (List.mem_cons_of_mem _ hy))) h1,fun z=>?_,?_⟩
  ·rw[oY L t a z h1.1 h1.2,<-aK,h2]
  ·have:=oZ L t a
   rw[<-h3,List.length_cons];exact this
def meet (a b:P K):P K:={ lo:=if lt L a.lo b.lo then b.lo else a.lo,hi:=if lt L b.hi a.hi then b.hi else a.hi }
theorem ab0 (x:K)(a b:P K):mem L x (meet L a b)=(mem L x a&&mem L x b):=by
 rw[Bool.eq_iff_iff,Bool.and_eq_true,mem_iff,mem_iff,mem_iff]
 unfold meet
 constructor
 ·rintro⟨g1,g2⟩
  have aa:L.le (if lt L a.lo b.lo then b.lo else a.lo) x=true:=g1
  have ab:lt L x (if lt L b.hi a.hi then b.hi else a.hi)=true:=g2
  have l1:L.le a.lo x=true/\L.le b.lo x=true:=by
   split at aa
   ·rename_i h;exact⟨L.trans _ _ _ (le_of_lt L h) aa,aa⟩
   ·rename_i h
    refine⟨aa,?_⟩
    have:L.le b.lo a.lo=true:=by unfold lt at h;revert h;cases L.le b.lo a.lo <;> simp
    exact L.trans _ _ _ this aa
  have l2:lt L x a.hi=true/\lt L x b.hi=true:=by
   split at ab
   ·rename_i h;exact⟨lt_of_lt_of_le L ab (le_of_lt L h),ab⟩
   ·rename_i h
    refine⟨ab,?_⟩
    have:L.le a.hi b.hi=true:=by unfold lt at h;revert h;cases L.le a.hi b.hi <;> simp
    exact lt_of_lt_of_le L ab this
  exact⟨⟨l1.1,l2.1⟩,l1.2,l2.2⟩
 ·rintro⟨⟨g1,g2⟩,g3,g4⟩
  refine⟨?_,?_⟩
  ·show L.le (if lt L a.lo b.lo then b.lo else a.lo) x=true
   split
   ·exact g3
   ·exact g1
  ·show lt L x (if lt L b.hi a.hi then b.hi else a.hi)=true
   split
   ·exact g4
   ·exact g2
def pairs (a b:List (P K)):List (P K):=a.flatMap fun x=>(b.map (meet L x)).filter (ok L)
def andK (a b:List (P K)):List (P K):=joinK L (pairs L a b)
theorem yA {p:P K}(h:ok L p=false)(x:K):mem L x p=false:=by
 rw[Bool.eq_false_iff];intro hx
 obtain⟨h1,h2⟩:=(mem_iff L).1 hx
 have:=lt_of_le_of_lt L h1 h2
 unfold ok at h;rw[h] at this;cases this
theorem yB (x:K)(l:List (P K)):Mem L x (l.filter (ok L))=Mem L x l:=by
 induction l with
 | nil=>rfl
 | cons a l ih =>
  rw[List.filter_cons]
  cases h:ok L a
  ·rw[if_neg Bool.false_ne_true,ih,aK,yA L h,Bool.false_or]
  ·rw[if_pos rfl,aK,aK,ih]
theorem zV (x:K)(p:P K)(b:List (P K)):Mem L x (b.map (meet L p))=(mem L x p&&Mem L x b):=by
 induction b with
 | nil=>simp[gi]
 | cons c b ih=>rw[List.map_cons,aK,aK,ih,ab0];cases mem L x p <;> simp
theorem zW (x:K)(a b:List (P K)):Mem L x (pairs L a b)=(Mem L x a&&Mem L x b):=by
 induction a with
 | nil=>rfl
 | cons p a ih =>
  unfold pairs at *
  rw[List.flatMap_cons,lB,yB,zV,ih,aK]
  cases mem L x p <;> cases Mem L x a <;> simp
theorem ab1 (a b:List (P K)):∀ y∈pairs L a b,ok L y=true:=by
 intro y hy
 unfold pairs at hy
 rw[List.mem_flatMap] at hy
 obtain⟨x,_,hx⟩:=hy
 exact (List.mem_filter.1 hx).2
theorem kh (a b:List (P K)):Nrm L (andK L a b)/\∀ z,Mem L z (andK L a b)=(Mem L z a&&Mem L z b):=by
 obtain⟨h1,h2,_⟩:=nt L (pairs L a b) (ab1 L a b)
 exact⟨h1,fun z=>by unfold andK;rw[h2,zW]⟩
theorem fS:∀ {l:List (P K)},Nrm L l->∀ y∈l,ok L y=true
 | [],_,y,hy=>by cases hy
 | a :: l,h,y,hy=>by
  rcases List.mem_cons.1 hy with rfl | hy
  ·exact dN L h
  ·exact fS (gu L h) y hy
def orK (a b:List (P K)):List (P K):=joinK L (a++b)
theorem mE (a b:List (P K))(ha:Nrm L a)(hb:Nrm L b):Nrm L (orK L a b)/\(∀ z,Mem L z (orK L a b)=(Mem L z a||Mem L z b))/\(orK L a b).length<=a.length+b.length:=by
 obtain⟨h1,h2,h3⟩:=nt L (a++b) (fun y hy=>by
  rcases List.mem_append.1 hy with h | h
  ·exact fS L ha y h
  ·exact fS L hb y h)
 rw[List.length_append] at h3
 exact⟨h1,fun z=>by unfold orK;rw[h2,lB],h3⟩
def hisIn (l:List (P K)) (hs:List K):Prop:=∀ y∈l,y.hi∈hs
theorem ki:∀ (t:List (P K)) (c:P K) (hs:List K),c.hi∈hs->hisIn t hs->hisIn (mrg L c t) hs
 | [],c,hs,h,_=>fun y hy=>by unfold mrg at hy;rw[List.mem_singleton] at hy;rw[hy];exact h
 | r :: t,c,hs,h,ht=>by
  have hr:=ht r (List.mem_cons_self ..)
  have aa:hisIn t hs:=fun y hy=>ht y (List.mem_cons_of_mem _ hy)
  unfold mrg
  split
  ·refine ki t _ hs ?_ aa
   show up L c.hi r.hi∈hs
   unfold up;split
   ·exact hr
   ·exact h
  ·intro y hy
   rcases List.mem_cons.1 hy with rfl | hy
   ·exact h
   ·exact ki t r hs hr aa y hy
theorem yE (l:List (P K))(hs:List K)(h:hisIn l hs):hisIn (joinK L l) hs:=by
 unfold joinK
 cases e:srt L l with
 | nil=>intro y hy;cases hy
 | cons a t =>
  have h4:∀ y∈a :: t,y.hi∈hs:=fun y hy=>h y ((oW L l y).1 (by rw[e];exact hy))
  exact ki L t a hs (h4 a (List.mem_cons_self ..)) (fun y hy=>h4 y (List.mem_cons_of_mem _ hy))
theorem vC (a b:List (P K)):hisIn (pairs L a b) (a.map (·.hi)++b.map (·.hi)):=by
 intro y hy
 unfold pairs at hy
 rw[List.mem_flatMap] at hy
 obtain⟨x,hx,hy⟩:=hy
 obtain⟨w,hw,rfl⟩:=List.mem_map.1 (List.mem_filter.1 hy).1
 rw[List.mem_append]
 show (if lt L w.hi x.hi then w.hi else x.hi)∈_\/(if lt L w.hi x.hi then w.hi else x.hi)∈_
 split
 ·exact Or.inr (List.mem_map.2 ⟨w,hw,rfl⟩)
 ·exact Or.inl (List.mem_map.2 ⟨x,hx,rfl⟩)
theorem qa:∀ {l:List (P K)} {a:P K},Nrm L (a :: l)->∀ y∈l,lt L a.hi y.hi=true
 | [],_,_,y,hy=>by cases hy
 | b :: t,a,h,y,hy=>by
  have hb:=dN L h.2.2
  have h1:lt L a.hi b.hi=true:=lt_of_lt_of_le L h.2.1 (le_of_lt L hb)
  rcases List.mem_cons.1 hy with rfl | hy
  ·exact h1
  ·exact lt_of_lt_of_le L h1 (le_of_lt L (qa h.2.2 y hy))
theorem zX [DecidableEq K] (hs:List K)(x:K)(h:x∈hs):(hs.erase x).length+1=hs.length:=by
 rw[List.length_erase_of_mem h]
 have:=List.length_pos_of_mem h
 omega
theorem xe [DecidableEq K]:∀ (l:List (P K)) (hs:List K),Nrm L l->hisIn l hs->l.length<=hs.length
 | [],_,_,_=>Nat.zero_le _
 | a :: l,hs,h,hi=>by
  have ha:=hi a (List.mem_cons_self ..)
  have ih:=xe l (hs.erase a.hi) (gu L h) (fun y hy=>by
   have h1:=hi y (List.mem_cons_of_mem _ hy)
   refine (List.mem_erase_of_ne ?_).2 h1
   intro e
   have h2:=qa L h y hy
   rw[e] at h2
   exact dM L _ h2)
  have:=zX hs a.hi ha
  rw[List.length_cons];omega
theorem ab2 [DecidableEq K] (a b:List (P K)):(andK L a b).length<=a.length+b.length:=by
 have h:=xe L (andK L a b) _ (kh L a b).1 (yE L _ _ (vC L a b))
 rw[List.length_append,List.length_map,List.length_map] at h
 exact h
end
end Rm
namespace Rm
section
variable {K:Type} (L:Line K)
def all1:List (P K):=[{ lo:=L.bot,hi:=L.top }]
theorem xf {l m:List (P K)}(hl:Nrm L l)(hm:Nrm L m)(h:∀ x,lt L x L.top=true->Mem L x l=Mem L x m):l=m:=ns L l m hl hm h
theorem aec (hbt:lt L L.bot L.top=true):Nrm L (all1 L):=hbt
end
end Rm
namespace Rm
section
variable {K:Type} (L:Line K)
def inC:List K->Bool->K->Bool
 | [],p,_=>p
 | c :: t,p,x=>if L.le c x then inC t (!p) x else p
def Asc:List K->Prop
 | []=>True
 | [_]=>True
 | a :: b :: t=>lt L a b=true/\Asc (b :: t)
theorem eO {a:K}{l:List K}(h:Asc L (a :: l)):Asc L l:=by cases l with
 | nil=>trivial
 | cons b t=>exact h.2
theorem br:∀ {l:List K} {a:K},Asc L (a :: l)->∀ y∈l,lt L a y=true
 | [],_,_,y,hy=>by cases hy
 | b :: t,a,h,y,hy=>by
  rcases List.mem_cons.1 hy with rfl | hy
  ·exact h.1
  ·exact lt_of_lt_of_le L h.1 (le_of_lt L (br h.2 y hy))
theorem zY {a:K}{l:List K}(h:Asc L l)(ha:∀ y∈l,lt L a y=true):Asc L (a :: l):=by cases l with
 | nil=>trivial
 | cons b t=>exact⟨ha b (List.mem_cons_self ..),h⟩
theorem bX {l:List K}{p:Bool}{x:K}(h:∀ y∈l,L.le y x=false):inC L l p x=p:=by
 cases l with
 | nil=>rfl
 | cons a t=>unfold inC;rw[h a (List.mem_cons_self ..)];rfl
theorem iW {c x:K}{l:List K}{p:Bool}(h:L.le c x=true):inC L (c :: l) p x=inC L l (!p) x:=by
 show (if L.le c x=true then inC L l (!p) x else p)=_
 rw[if_pos h]
def comb (op:Bool->Bool->Bool):List K->List K->Bool->Bool->List K
 | [],[],_,_=>[]
 | c :: a,[],pa,pb=>(if op (!pa) pb != op pa pb then [c] else [])++comb op a [] (!pa) pb
 | [],d :: b,pa,pb=>(if op pa (!pb) != op pa pb then [d] else [])++comb op [] b pa (!pb)
 | c :: a,d :: b,pa,pb =>
  if lt L c d then (if op (!pa) pb != op pa pb then [c] else [])++comb op a (d :: b) (!pa) pb
  else if lt L d c then (if op pa (!pb) != op pa pb then [d] else [])++comb op (c :: a) b pa (!pb)
  else (if op (!pa) (!pb) != op pa pb then [c] else [])++comb op a b (!pa) (!pb)
termination_by a b=>a.length+b.length
theorem gw (op:Bool->Bool->Bool)(a b:List K)(pa pb:Bool):∀ y∈comb L op a b pa pb,y∈a\/y∈b:=by
 fun_induction comb L op a b pa pb with
 | case1=>intro y hy;cases hy
 | case2 c a pa pb ih =>
  intro y hy
  rcases List.mem_append.1 hy with h | h
  ·split at h
   ·rw[List.mem_singleton] at h;subst h;simp
   ·cases h
  ·rcases ih y h with h | h <;> simp[h]
 | case3 d b pa pb ih =>
  intro y hy
  rcases List.mem_append.1 hy with h | h
  ·split at h
   ·rw[List.mem_singleton] at h;subst h;simp
   ·cases h
  ·rcases ih y h with h | h <;> simp[h]
 | case4 c a d b pa pb hc ih =>
  intro y hy
  rcases List.mem_append.1 hy with h | h
  ·split at h
   ·rw[List.mem_singleton] at h;subst h;simp
   ·cases h
  ·rcases ih y h with h | h
   ·simp[h]
   ·exact Or.inr h
 | case5 c a d b pa pb hc hd ih =>
  intro y hy
  rcases List.mem_append.1 hy with h | h
  ·split at h
   ·rw[List.mem_singleton] at h;subst h;simp
   ·cases h
  ·rcases ih y h with h | h
   ·exact Or.inl h
   ·simp[h]
 | case6 c a d b pa pb hc hd ih =>
  intro y hy
  rcases List.mem_append.1 hy with h | h
  ·split at h
   ·rw[List.mem_singleton] at h;subst h;simp
   ·cases h
  ·rcases ih y h with h | h <;> simp[h]
theorem dr {c x y:K}(h:lt L c y=true)(hx:L.le c x=false):L.le y x=false:=by
 rw[Bool.eq_false_iff]
 intro h2
 have:=le_of_lt L (lt_of_lt_of_le L h h2)
 rw[hx] at this;cases this
theorem gx {c x:K}{p q r:Bool}{l:List K}(hl:∀ y∈l,lt L c y=true)(hx:L.le c x=true->inC L l q x=r)(h0:L.le c x=false->p=r) :
  inC L ((if q != p then [c] else [])++l) p x=r:=by
 cases hc:L.le c x
 ·have hr:=h0 hc
  subst hr
  apply bX
  intro y hy
  rcases List.mem_append.1 hy with h | h
  ·split at h
   ·rw[List.mem_singleton] at h;subst h;exact hc
   ·cases h
  ·exact dr L (hl y h) hc
 ·have hr:=hx hc
  cases hq:q != p
  ·have e:q=p:=by simpa using hq
   subst e
   rw[if_neg Bool.false_ne_true];exact hr
  ·have e:(!p)=q:=by cases p <;> cases q <;> first | rfl | (simp at hq)
   rw[if_pos rfl]
   show inC L (c :: l) p x=r
   unfold inC;rw[hc,if_pos rfl,e];exact hr
theorem dt {c:K}{b:Bool}{l:List K}(hl:∀ y∈l,lt L c y=true)(h:Asc L l):Asc L ((if b then [c] else [])++l):=by
 cases b
 ·exact h
 ·exact zY L h hl
theorem zZ (op:Bool->Bool->Bool)(a b:List K)(pa pb:Bool):Asc L a->Asc L b->Asc L (comb L op a b pa pb)/\∀ x,inC L (comb L op a b pa pb) (op pa pb) x=op (inC L a pa x) (inC L b pb x):=by
 fun_induction comb L op a b pa pb with
 | case1=>intro _ _;exact⟨trivial,fun x=>rfl⟩
 | case2 c a pa pb ih =>
  intro ha hb
  obtain⟨h1,h2⟩:=ih (eO L ha) hb
  have hl:∀ y∈comb L op a [] (!pa) pb,lt L c y=true:=fun y hy=>by
   rcases gw L op a [] _ _ y hy with h | h
   ·exact br L ha y h
   ·cases h
  refine⟨dt L hl h1,fun x=>gx L hl (fun hc=>?_) (fun hc=>?_)⟩
  ·rw[h2 x,iW L hc]
  ·rw[bX L (l:=c :: a) (fun y hy=>?_)];rfl
   rcases List.mem_cons.1 hy with rfl | hy
   ·exact hc
   ·exact dr L (br L ha y hy) hc
 | case3 d b pa pb ih =>
  intro ha hb
  obtain⟨h1,h2⟩:=ih ha (eO L hb)
  have hl:∀ y∈comb L op [] b pa (!pb),lt L d y=true:=fun y hy=>by
   rcases gw L op [] b _ _ y hy with h | h
   ·cases h
   ·exact br L hb y h
  refine⟨dt L hl h1,fun x=>gx L hl (fun hc=>?_) (fun hc=>?_)⟩
  ·rw[h2 x,iW L hc]
  ·rw[bX L (l:=d :: b) (fun y hy=>?_)];rfl
   rcases List.mem_cons.1 hy with rfl | hy
   ·exact hc
   ·exact dr L (br L hb y hy) hc
 | case4 c a d b pa pb hc ih =>
  intro ha hb
  obtain⟨h1,h2⟩:=ih (eO L ha) hb
  have aa:∀ y∈d :: b,lt L c y=true:=fun y hy=>by
   rcases List.mem_cons.1 hy with rfl | hy
   ·exact hc
   ·exact lt_of_lt_of_le L hc (le_of_lt L (br L hb y hy))
  have hl:∀ y∈comb L op a (d :: b) (!pa) pb,lt L c y=true:=fun y hy=>by
   rcases gw L op a (d :: b) _ _ y hy with h | h
   ·exact br L ha y h
   ·exact aa y h
  refine⟨dt L hl h1,fun x=>gx L hl (fun hcx=>?_) (fun hcx=>?_)⟩
  ·rw[h2 x,iW L hcx]
  ·rw[bX L (l:=c :: a) (fun y hy=>?_),bX L (l:=d :: b) (fun y hy=>dr L (aa y hy) hcx)]
   rcases List.mem_cons.1 hy with rfl | hy
   ·exact hcx
   ·exact dr L (br L ha y hy) hcx
 | case5 c a d b pa pb hc hd ih =>
  intro ha hb
  obtain⟨h1,h2⟩:=ih ha (eO L hb)
  have ab:∀ y∈c :: a,lt L d y=true:=fun y hy=>by
   rcases List.mem_cons.1 hy with rfl | hy
   ·exact hd
   ·exact lt_of_lt_of_le L hd (le_of_lt L (br L ha y hy))
  have hl:∀ y∈comb L op (c :: a) b pa (!pb),lt L d y=true:=fun y hy=>by
   rcases gw L op (c :: a) b _ _ y hy with h | h
   ·exact ab y h
   ·exact br L hb y h
  refine⟨dt L hl h1,fun x=>gx L hl (fun hcx=>?_) (fun hcx=>?_)⟩
  ·rw[h2 x,iW L hcx]
  ·rw[bX L (l:=c :: a) (fun y hy=>dr L (ab y hy) hcx),bX L (l:=d :: b) (fun y hy=>?_)]
   rcases List.mem_cons.1 hy with rfl | hy
   ·exact hcx
   ·exact dr L (br L hb y hy) hcx
 | case6 c a d b pa pb hc hd ih =>
  intro ha hb
  obtain⟨h1,h2⟩:=ih (eO L ha) (eO L hb)
  have ac:c=d:=by
   have x1:L.le d c=true:=by
    rcases lt_or_le L c d with h | h
    ·exact absurd h hc
    ·exact h
   have x2:L.le c d=true:=by
    rcases lt_or_le L d c with h | h
    ·exact absurd h hd
    ·exact h
   exact L.anti _ _ x2 x1
  subst ac
  have hl:∀ y∈comb L op a b (!pa) (!pb),lt L c y=true:=fun y hy=>by
   rcases gw L op a b _ _ y hy with h | h
   ·exact br L ha y h
   ·exact br L hb y h
  refine⟨dt L hl h1,fun x=>gx L hl (fun hcx=>?_) (fun hcx=>?_)⟩
  ·rw[h2 x,iW L hcx,iW L hcx]
  ·rw[bX L (l:=c :: a) (fun y hy=>?_),bX L (l:=c :: b) (fun y hy=>?_)]
   ·rcases List.mem_cons.1 hy with rfl | hy
    ·exact hcx
    ·exact dr L (br L hb y hy) hcx
   ·rcases List.mem_cons.1 hy with rfl | hy
    ·exact hcx
    ·exact dr L (br L ha y hy) hcx
def par:Nat->Bool->Bool
 | 0,p=>p
 | n+1,p=>par n (!p)
theorem iX (m n:Nat)(p:Bool):par (m+n) p=par n (par m p):=by
 induction m generalizing p with
 | zero=>rw[Nat.zero_add];rfl
 | succ m ih=>rw[show m+1+n=(m+n)+1 by omega];exact ih _
theorem xg (n:Nat)(p:Bool):par n (!p) = !par n p:=by
 induction n generalizing p with
 | zero=>rfl
 | succ n ih=>exact ih _
theorem xh (n:Nat):par n false=decide (n % 2=1):=by
 induction n with
 | zero=>rfl
 | succ n ih =>
  show par n (!false)=_
  rw[xg,ih]
  by_cases h:n % 2=1
  ·rw[decide_eq_true h,decide_eq_false (by omega)];rfl
  ·rw[decide_eq_false h,decide_eq_true (by omega)];rfl
theorem iY {q p:Bool}{c:K}:par (if q != p then [c] else []).length p=q:=by cases q <;> cases p <;> rfl
theorem ab3 (op:Bool->Bool->Bool)(a b:List K)(pa pb:Bool):par (comb L op a b pa pb).length (op pa pb)=op (par a.length pa) (par b.length pb):=by
 fun_induction comb L op a b pa pb with
 | case1=>rfl
 | case2 c a pa pb ih=>rw[List.length_append,iX,iY];exact ih
 | case3 d b pa pb ih=>rw[List.length_append,iX,iY];exact ih
 | case4 c a d b pa pb hc ih=>rw[List.length_append,iX,iY];exact ih
 | case5 c a d b pa pb hc hd ih=>rw[List.length_append,iX,iY];exact ih
 | case6 c a d b pa pb hc hd ih=>rw[List.length_append,iX,iY];exact ih
def cuts (r:List (P K)):List K:=r.flatMap fun p=>[p.lo,p.hi]
def rows:List K->List (P K)
 | a :: b :: t=>{ lo:=a,hi:=b } :: rows t
 | _=>[]
theorem fo (p:P K)(r:List (P K)):cuts (p :: r)=p.lo :: p.hi :: cuts r:=rfl
theorem du:∀ r:List (P K),(cuts r).length=r.length*2
 | []=>rfl
 | p :: r=>by rw[fo,List.length_cons,List.length_cons,du r,List.length_cons];omega
theorem kj:∀ l:List K,par l.length false=false->cuts (rows l)=l
 | [],_=>rfl
 | [a],h=>by cases h
 | a :: b :: t,h=>by
  show a :: b :: cuts (rows t)=_
  rw[kj t h]
theorem jt:∀ {r:List (P K)},Nrm L r->Asc L (cuts r)/\∀ x,inC L (cuts r) false x=Mem L x r
 | [],_=>⟨trivial,fun _=>rfl⟩
 | p :: r,h=>by
  obtain⟨h1,h2⟩:=jt (gu L h)
  have ho:lt L p.lo p.hi=true:=dN L h
  rw[fo]
  have hb:∀ y∈cuts r,lt L p.hi y=true:=by
   cases r with
   | nil=>intro y hy;cases hy
   | cons q r =>
    have hq:lt L p.hi q.lo=true:=h.2.1
    intro y hy
    rw[fo] at hy h1
    rcases List.mem_cons.1 hy with rfl | hy
    ·exact hq
    ·exact lt_of_lt_of_le L hq (le_of_lt L (br L h1 y hy))
  refine⟨⟨ho,zY L h1 hb⟩,fun x=>?_⟩
  rw[aK]
  unfold inC
  cases h3:L.le p.lo x
  ·have h4:mem L x p=false:=by unfold mem;rw[h3];rfl
   rw[h4,<-h2 x,bX L (fun y hy=>dr L (hb y hy) (dr L ho h3))];rfl
  ·show inC L (p.hi :: cuts r) true x=_
   unfold inC
   cases h4:L.le p.hi x
   ·have h5:mem L x p=true:=by unfold mem lt;rw[h3,h4];rfl
    rw[h5];rfl
   ·have h5:mem L x p=false:=by unfold mem lt;rw[h3,h4];rfl
    rw[h5,if_pos rfl];exact h2 x
theorem sj:∀ {l:List K},Asc L l->Nrm L (rows l)
 | [],_=>trivial
 | [_],_=>trivial
 | [_,_],h=>h.1
 | [_,_,_],h=>h.1
 | _ :: _ :: c :: d :: t,h=>⟨h.1,h.2.1,sj (l:=c :: d :: t) h.2.2⟩
theorem qb {op:Bool->Bool->Bool}(h0:op false false=false){a b:List (P K)}(ha:Nrm L a)(hb:Nrm L b) :
  ∃ r,comb L op (cuts a) (cuts b) false false=cuts r/\Nrm L r/\∀ x,Mem L x r=op (Mem L x a) (Mem L x b):=by
 obtain⟨a1,a2⟩:=jt L ha
 obtain⟨b1,b2⟩:=jt L hb
 obtain⟨c1,c2⟩:=zZ L op (cuts a) (cuts b) false false a1 b1
 have hp:=ab3 L op (cuts a) (cuts b) false false
 have e2:∀ r:List (P K),par (cuts r).length false=false:=fun r=>by rw[xh,du];exact decide_eq_false (by omega)
 rw[e2,e2,h0] at hp
 have hn:=sj L c1
 refine⟨rows (comb L op (cuts a) (cuts b) false false),(kj _ hp).symm,hn,fun x=>?_⟩
 have:=(jt L hn).2 x
 rw[kj _ hp] at this
 rw[<-this,<-a2 x,<-b2 x,<-c2 x,h0]
theorem ab4 {a b:List (P K)}(ha:Nrm L a)(hb:Nrm L b):comb L (fun x y=>x&&y) (cuts a) (cuts b) false false=cuts (andK L a b):=by
 obtain⟨r,h1,h2,h3⟩:=qb L (op:=fun x y=>x&&y) rfl ha hb
 have s:=kh L a b
 rw[h1,xf L h2 s.1 fun x _=>by rw[h3,s.2]]
theorem aed {a b:List (P K)}(ha:Nrm L a)(hb:Nrm L b):comb L (fun x y=>x||y) (cuts a) (cuts b) false false=cuts (orK L a b):=by
 obtain⟨r,h1,h2,h3⟩:=qb L (op:=fun x y=>x||y) rfl ha hb
 have s:=mE L a b ha hb
 rw[h1,xf L h2 s.1 fun x _=>by rw[h3,s.2.1]]
end
end Rm
end Go.Proofs.YtgnaiidgjmicaaaGreatDoor
