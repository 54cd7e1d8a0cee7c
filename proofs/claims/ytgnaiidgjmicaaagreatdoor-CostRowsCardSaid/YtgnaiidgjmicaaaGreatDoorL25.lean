/- Part 25 of what the laws lean on. -/
import Derived.Test.YtgnaiidgjmicaaaGreatDoorL23
set_option maxRecDepth 100000
set_option maxHeartbeats 6400000
namespace Go.Proofs.YtgnaiidgjmicaaaGreatDoor
namespace Rg
open Go.RowKit Go.ChangeShapes Go.WideShapes
section
variable {α:Type} (enc:α->List Value) (K:Nat)
variable {enc K}
variable (enc K)
variable {enc K}
theorem jO {w:World}{a:Addr}{l:List α}(hf:Fits enc K)(h:∀ (i:Nat) (hi:i<l.length),At enc w (a.add (i*K)) l[i]):∀ j u,(flat enc l)[j]?=some u->w.cell? (a.add j)=some u:=by
 intro j u hu
 have hj:j<(flat enc l).length:=(List.getElem?_eq_some_iff.1 hu).1
 rw[aV hf] at hj
 have hK:0<K:=by rcases Nat.eq_zero_or_pos K with h0 | h0;(subst h0;simp at hj);exact h0
 have hi:j / K<l.length:=Nat.div_lt_of_lt_mul (by rw[Nat.mul_comm];exact hj)
 have hm:=Nat.mod_lt j hK
 have e:j=j / K*K+j % K:=by rw[Nat.mul_comm];exact (Nat.div_add_mod j K).symm
 rw[e] at hu ⊢
 rw[flat_get hf l _ hi _ hm] at hu
 rw[eM]
 exact h _ hi _ _ hu
end
end Rg
namespace Rg
open Go.RowKit Go.ChangeShapes Go.WideShapes
section
variable {α:Type} {P:Program} {enc:α->List Value} {K:Nat} {ST T:TypeId} {w:World}
theorem tT (w:World)(r:Option Nat):w.grownBy w r:=⟨rfl,rfl,rfl,Nat.le_refl _,fun _ _ _=>rfl⟩
theorem p9 (hT:SliceT P enc K ST T)(ty:TypeId)(B:Nat)(v:Value)(l m:List α)(hown:Own enc K w B T v l)(A:Option Addr)(c:Nat)(hrow:Row enc K w A m)
  (hsz:l.length+m.length<=1000000) (hB:B<=w.heap.size) :
  ∃ v' w',(Builtin.append_ #[ST,ST] ty #[v,.slice A m.length c]).run P w=.ok v' w'/\Own enc K w' B T v' (l++m)/\w.grownBy w' v.ownBlock/\w.heap.size<=w'.heap.size:=by
 obtain⟨i,z,hi,aa,ab,ac,hb⟩:=hT.info
 cases m with
 | nil =>
  obtain⟨A0,c0,rfl,_,hle,_⟩:=au hT.fits hown
  refine⟨.slice A0 l.length c0,w,?_,by rw[List.append_nil];exact hown,tT w _,Nat.le_refl _⟩
  refine run_append_nothing w ST ST ty T i hT.under hi A0 l.length c0 hle _ ?_
  cases A with
  | none=>exact Src.ofNil w hT.under c
  | some a=>exact Src.ofSlice w hT.under a 0 c [] (by simp) (fun j u h=>by simp at h) (fun u h=>by cases h)
 | cons x m =>
  obtain⟨a,rfl,_,hc⟩:=hrow (by simp)
  obtain⟨v',w',h1,h2,h3,_⟩:=run_append_own_at w B ST ty T i z K i.bytes hT.under hi aa ac rfl ab hT.pos v l.length (flat enc l) hown a (x :: m).length c (flat enc (x :: m))
   (aV hT.fits _) (jO hT.fits hc) (bd hT.fits _) (by unfold maxLen;omega) (by
    have:(l.length+(x :: m).length)*i.bytes<=1000000*1000:=Nat.mul_le_mul hsz hb
    omega) hB
  refine⟨v',w',h1,?_,h3,h3.size⟩
  unfold Own
  rw[bG,List.length_append]
  exact h2
end
end Rg
section
open Go.RowKit Rs At Pg
namespace Pg
def f6:List Sz.Fld:=[⟨kPkg,[97,112,112],0⟩,⟨kVer,[49,46,48,48],1⟩,⟨kDep,[108,105,98,32,40,62,61,32,50,41,32,111,114,32,97,108,116,59,32,120],2⟩,⟨kPro,[116,111,111,108,59,32,111,108,100,32,61,32,48,49],3⟩,⟨kWei,[51,112,45,49],4⟩]
end Pg
end
section
open Rs At Pg Rp Ck
namespace Ck
theorem aaa (x y:Int)(a b:List Int):cmpL (x :: a) (y :: b)<=0↔x<y\/x=y/\cmpL a b<=0:=by
 rw[cmpL]
 by_cases h:Vm.sgn x y=0
 ·rw[if_pos h]
  obtain rfl:=(Vm.cu x y).1 h
  exact⟨fun h=>Or.inr ⟨rfl,h⟩,fun h=>h.elim (fun h=>absurd h (Int.lt_irrefl x)) (fun h=>h.2)⟩
 ·rw[if_neg h,Vm.dE]
  have:=mt (Vm.cu x y).2 h
  exact⟨fun h=>Or.inl (by omega),fun h=>h.elim (fun h=>by omega) (fun h=>by omega)⟩
theorem lf:∀ a b c:List Int,cmpL a b<=0->cmpL b c<=0->cmpL a c<=0
 | [],_,[],_,_=>by rw[cmpL];decide
 | [],_,_ :: _,_,_=>by rw[cmpL];decide
 | _ :: _,[],_,h,_=>by rw[cmpL] at h;exact absurd h (by decide)
 | _ :: _,_ :: _,[],_,h=>by rw[cmpL] at h;exact absurd h (by decide)
 | x :: a,y :: b,z :: c,h1,h2=>by
  rw[aaa] at *
  rcases h1 with h1 | ⟨rfl,h1⟩ <;> rcases h2 with h2 | ⟨rfl,h2⟩
  ·exact Or.inl (Int.lt_trans h1 h2)
  ·exact Or.inl h1
  ·exact Or.inl h2
  ·exact Or.inr ⟨rfl,lf a b c h1 h2⟩
theorem iK:∀ a b:List Int,cmpL a b=0↔a=b
 | [],[]=>by rw[cmpL];exact⟨fun _=>rfl,fun _=>rfl⟩
 | [],_ :: _=>by rw[cmpL];exact⟨fun h=>absurd h (by decide),fun h=>by cases h⟩
 | _ :: _,[]=>by rw[cmpL];exact⟨fun h=>absurd h (by decide),fun h=>by cases h⟩
 | x :: a,y :: b=>by
  rw[cmpL]
  by_cases h:Vm.sgn x y=0
  ·rw[if_pos h,iK a b,(Vm.cu x y).1 h]
   exact⟨fun h=>by rw[h],fun h=>(List.cons.inj h).2⟩
  ·rw[if_neg h]
   exact⟨fun e=>absurd e h,fun e=>absurd ((Vm.cu x y).2 (List.cons.inj e).1) h⟩
theorem fh:∀ a:List Int,cmpL a (a++[5]) = -1
 | []=>rfl
 | x :: a=>by
  show cmpL (x :: a) (x :: (a++[5])) = -1
  rw[cmpL,if_pos ((Vm.cu x x).2 rfl),fh a]
end Ck
end
namespace Up
open Go.RowKit
section
variable {α:Type} {enc:α->List Value} {K:Nat} {P:Program} {ST T:TypeId} {w:World}
def Own0 (enc:α->List Value) (K:Nat) (w:World) (B:Nat) (T:TypeId) (v:Value) (l:List α):Prop:=(l=[]/\∃ a,v=.slice (some a) 0 0)\/Rg.Own enc K w B T v l
theorem gJ {w':World}{B:Nat}{v:Value}{l:List α}(h:Own0 enc K w B T v l)(hb:Below w.heap.size w w'):Own0 enc K w' B T v l:=h.imp_right fun h=>Rg.own_below h hb
theorem jP (hf:Rg.Fits enc K){B n:Nat}{v:Value}{l:List α}(h:Own0 enc K w B T v l)(hn:l.length=n):∃ C c,v=.slice C n c/\Rg.Row enc K w C l:=by
 rcases h with⟨rfl,a,rfl⟩ | h
 ·exact⟨some a,0,by rw[<-hn];rfl,Rg.bu _ _⟩
 ·obtain⟨C,c,rfl,hr,_⟩:=Rg.au hf h
  exact⟨C,c,by rw[hn],hr⟩
theorem yE (hT:Rg.SliceT P enc K ST T)(ty:TypeId)(B:Nat)(v:Value)(l m:List α)(hown:Own0 enc K w B T v l)(A:Option Addr)(c:Nat)(hrow:Rg.Row enc K w A m)
  (hsz:l.length+m.length<=1000000) (hB:B<=w.heap.size) :
  ∃ v' w',(Builtin.append_ #[ST,ST] ty #[v,.slice A m.length c]).run P w=.ok v' w'/\Own0 enc K w' B T v' (l++m)/\Below B w w':=by
 rcases hown with⟨rfl,⟨g,rfl⟩⟩ | hown
 ·cases m with
  | nil =>
   obtain⟨i,z,hi,ab,af,ac,hb⟩:=hT.info
   refine⟨.slice (some g) 0 0,w,?_,.inl ⟨rfl,g,rfl⟩,Below.refl _ _⟩
   refine run_append_nothing w ST ST ty T i hT.under hi (some g) 0 0 (Nat.le_refl _) _ ?_
   cases A with
   | none=>exact Src.ofNil w hT.under c
   | some a=>exact Src.ofSlice w hT.under a 0 c [] (by simp) (fun j u h=>by simp at h) (fun u h=>by cases h)
  | cons x m =>
   have aa:=hrow
   obtain⟨i,z,hi,ab,af,ac,hb⟩:=hT.info
   obtain⟨a,rfl,_,hc⟩:=hrow (by simp)
   have ad:(x :: m).length*i.bytes<=1000000*1000:=Nat.mul_le_mul (by simpa using hsz) hb
   have ae:(x :: m).length<=1000000:=by simpa using hsz
   have e1:=run_append_nil (P:=P) w ST ty T i z hT.under hi ab a (x :: m).length c (Rg.flat enc (x :: m)) (by rw[ac];exact Rg.aV hT.fits _) (Rg.jO hT.fits hc) (by simp) (by omega) (Nat.le_trans ad (by decide))
   have e2:=run_append_grow (P:=P) w ST ty T i z hT.under hi ab g 0 0 [] (by simp) (fun j u h=>by simp at h) a (x :: m).length c (Rg.flat enc (x :: m)) (by rw[ac];exact Rg.aV hT.fits _) (Rg.jO hT.fits hc) (by simp) (by simp only[Nat.zero_add];omega) (growslice_fits (need:=0+(x :: m).length) (old:=0) (by simp) (by rw[Nat.zero_add];exact Nat.le_trans ad (by decide)))
   have e3:(Builtin.append_ #[ST,ST] ty #[.slice (some g) 0 0,.slice (some a) (x :: m).length c]).run P w=(Builtin.append_ #[ST,ST] ty #[.slice none 0 0,.slice (some a) (x :: m).length c]).run P w:=by
    rw[e1,e2]
    simp only[Nat.zero_add,Array.empty_append]
   obtain⟨v',w',hr,h2,h3,h4⟩:=Rg.p9 hT ty B (.slice none 0 0) [] (x :: m) (Rg.an _ _ _) (some a) c aa hsz hB
   exact⟨v',w',e3.trans hr,.inr h2,Rg.ak (Rg.an (enc:=enc) (K:=K) w B T) hB h3⟩
 ·obtain⟨v',w',hr,h2,h3,h4⟩:=Rg.p9 hT ty B v l m hown A c hrow hsz hB
  exact⟨v',w',hr,.inr h2,Rg.ak hown hB h3⟩
end
theorem cg {α:Type}{enc:α->List Value}{K:Nat}{P:Program}{ST T:TypeId}{w:World}(hT:Rg.SliceT P enc K ST T){ops:Array Oper}{rest:List Oper}{o:Oper}{a:Act}{Q:Exit->Act->World->Prop}(hgd:o.guard=none)(sl x:Operand)
  (ho:o.op=.call { callee:=.builtin .append,args:=#[sl,x],argTypes:=#[ST,ST] })
  (B:Nat) (v:Value) (l m:List α) (hs:a.eval sl=v) (A:Option Addr) (n c:Nat) (hx:a.eval x=.slice A n c) (hn:m.length=n) (hown:Own0 enc K w B T v l)
  (hrow:Rg.Row enc K w A m) (hsz:l.length+m.length<=1000000) (hB:B<=w.heap.size)
  (h:∀ v' w',Own0 enc K w' B T v' (l++m)->Below B w w'->wpList P ops Q rest (a.put o.dst v') w'):wpList P ops Q (o :: rest) a w:=by
 subst hn
 refine wpList_plain hgd fun _ hK=>?_
 obtain⟨v',w',hr,h2,h3⟩:=yE hT o.type B v l m hown A c hrow hsz hB
 unfold Oper.wp execOp
 simp only[ho,resolve,invoke,builtin,Sem.run_bind,Sem.run_pure,Result.andThen_ok,List.map_toArray,List.map_cons,List.map_nil,hs,hx,hr]
 exact hK _ _ (h v' w' h2 h3)
end Up
section
open Go.RowKit Rs At Pg Rp Ck
attribute [local go_sem ↓] Go.wp_at_zero Go.wp_at_succ
attribute [local go_sem] Pg.aj
namespace Ck
theorem aab:bestG (costOf [] []) 0 0 [] [[],[]]=0:=by decide +kernel
theorem ma (K S:Option Addr)(kc sc:Nat)(w:World)(hw:MaxOk w)(hS:SetsRow w S [[],[]]) :
  Calls Tryz.prog 29 #[.slice none 0 0,.slice K 0 kc,.slice S 2 sc] w fun e w'=>e=.returned (.tuple #[.int .i64 0,.bool true])/\Below w.heap.size w w' :=
 (eJ none K S 0 0 0 kc 2 sc [] [] [[],[]] w hw rfl ⟨[],Rg.bu _ _,rfl,fun i d p h=>by simp at h⟩ (by decide) (fun p h=>by cases h) (fun p h=>by cases h) rfl (Rg.bu _ _) (by decide) (fun p h=>by cases h) rfl hS (by decide) (fun s h=>by simp at h;rw[h];decide)).mono fun e w' ⟨h1,h2⟩=>⟨by rw[h1,aab];rfl,h2⟩
end Ck
theorem lg (A B C:Option Addr)(n m q ca cb cc:Nat)(a b c:List Int)(w:World)(hk:KOk w)(hna:a.length=n)(hnb:b.length=m)(hnc:c.length=q)(ha:IRow w A a)(hb:IRow w B b)(hc:IRow w C c) :
  Calls Tryz.prog 6 #[.slice A n ca,.slice B m cb,.slice C q cc] w fun e w'=>e=.returned (.bool true)/\Below w.heap.size w w':=by
 have aP:=zh (jm w hk)
 have ae:=zh hna
 have ao:=zh hnb
 have aQ:=zh hnc
 have ap:Hid (∀ u,Below w.heap.size w u->MaxOk u/\IRow u A a/\IRow u B b/\IRow u C c):=fun u h=>⟨ab hk.1 h,Rg.ag ha h,Rg.ag hb h,Rg.ag hc h⟩
 clear hk hna hnb hnc ha hb hc
 go_enter Tryz.func6,Tryz.ntmps6
 go_wp2_with fail
 refine aP.out.mono ?_
 rintro _ u1 ⟨rfl,hb⟩
 have an:Hid (Below w.heap.size w u1):=hb
 have ac:Hid (∀ u,Below u1.heap.size u1 u->MaxOk u/\IRow u A a/\IRow u B b/\IRow u C c):=fun u h=>ap.out u (bt an.out h)
 clear hb aP ap
 by_cases h1:40<n
 ·have d0:decide ((40:Int)<(n:Int))=true:=decide_eq_true (by omega)
  have d1:decide (40<n)=true:=decide_eq_true h1
  clear h1
  go_wp2_with fail
  go_ret
  exact⟨rfl,an.out⟩
 have ad:Hid (n<=40):=by show n<=40;omega
 have d0:decide ((40:Int)<(n:Int))=false:=decide_eq_false (by omega)
 have d1:decide (40<n)=false:=decide_eq_false h1
 clear h1
 by_cases h2:40<m
 ·have d2:decide ((40:Int)<(m:Int))=true:=decide_eq_true (by omega)
  have d3:decide (40<m)=true:=decide_eq_true h2
  clear h2
  go_wp2_with fail
  go_ret
  exact⟨rfl,an.out⟩
 have aJ:Hid (m<=40):=by show m<=40;omega
 have d2:decide ((40:Int)<(m:Int))=false:=decide_eq_false (by omega)
 have d3:decide (40<m)=false:=decide_eq_false h2
 clear h2
 by_cases h3:40<q
 ·have d4:decide ((40:Int)<(q:Int))=true:=decide_eq_true (by omega)
  have d5:decide (40<q)=true:=decide_eq_true h3
  clear h3
  go_wp2_with fail
  go_ret
  exact⟨rfl,an.out⟩
 have d4:decide ((40:Int)<(q:Int))=false:=decide_eq_false (by omega)
 have d5:decide (40<q)=false:=decide_eq_false h3
 clear h3
 obtain⟨x1,aI⟩:=ex (cmpL a b)
 obtain⟨x2,aN⟩:=ex (cmpL b c)
 obtain⟨x3,aO⟩:=ex (cmpL a c)
 have aR:Hid (x1<=0->x2<=0->x3<=0):=by rw[<-aI,<-aN,<-aO];exact lf a b c
 obtain⟨R,hR⟩:=ex (decide (a=b))
 have aK:=zh hR
 have aL:Hid ((x1==0)=R):=by
  show (x1==0)=R
  rw[<-hR,<-aI]
  by_cases e:a=b
  ·rw[decide_eq_true e,(iK a b).2 e];rfl
  ·rw[decide_eq_false e];exact beq_eq_false_iff_ne.2 fun h=>e ((iK a b).1 h)
 have aF:=zh aI
 have aU:=zh aN
 have aV:=zh aO
 clear aI aN aO hR
 go_wp2_with fail
 clear d0 d1 d2 d3 d4 d5
 refine (aH A B n m ca cb a b u1 ae.out ao.out (ac.out _ (Below.refl _ _)).2.1 (ac.out _ (Below.refl _ _)).2.2.1 (Nat.le_trans ad.out (by decide))).mono ?_
 rintro _ _ ⟨rfl,rfl⟩
 rw[aF.out]
 by_cases g1:x1<=0
 case neg =>
  have d0:decide (x1<=0)=false:=decide_eq_false g1
  clear g1
  obtain⟨k1,aE⟩:=ex u1.heap.size
  obtain⟨V1,au⟩:=ex (u1.alloc (.cells #[] 107))
  obtain⟨k2,av⟩:=ex V1.heap.size
  obtain⟨V2,am⟩:=ex (V1.alloc (.cells #[.slice none 0 0,.slice none 0 0] 44))
  have ah:Below u1.heap.size u1 V1:=aa au
  have ai:Below V1.heap.size V1 V2:=aa am
  have aj:Hid (Below u1.heap.size u1 V2):=bt ah ai
  have aq:Hid (SetsRow V2 (some ⟨k2,0,none⟩) [[],[]]):=by
   refine⟨[(none,0,0),(none,0,0)],by rw[<-am];exact Rg.aG fitsO _ _ _ _ rfl av,rfl,fun i d s e1 e2=>?_⟩
   match i with
   | 0=>cases e1;cases e2;exact⟨rfl,Rg.bu _ _⟩
   | 1=>cases e1;cases e2;exact⟨rfl,Rg.bu _ _⟩
   | i+2=>simp at e1
  have ar:=zh (ma (some ⟨k1,0,none⟩) (some ⟨k2,0,none⟩) 0 2 V2 (ac.out _ aj.out).1 aq.out)
  clear ah ai aq
  go_wp2_with fail
  clear au am aE av
  refine ar.out.mono ?_
  rintro _ u9 ⟨rfl,hb⟩
  have ak:Hid (Below u1.heap.size u1 u9):=bt aj.out hb
  clear hb ar aj
  dsimp only
  go_wp2_with (at_builtin;refine Up.cg sliceI rfl (.tmp 47) (.tmp 48) rfl u9.heap.size _ [] a rfl _ n _ rfl ae.out (.inl ⟨rfl,_,rfl⟩) (ac.out _ (ak.out.alloc ak.out.size _)).2.1 (by have:=ad.out;have:=ae.out;simp;omega) ?b1 ?_)
  case b1=>simp
  intro v1 W1 aw ah
  have al:Hid (Below u9.heap.size u9 W1):=((Below.refl _ _).alloc (Nat.le_refl _) _).trans ah
  have az:Hid (Up.Own0 Rp.encI 1 W1 u9.heap.size 3 v1 a):=aw
  clear aw ah
  go_wp2_with (at_builtin;refine Up.cg sliceI rfl (.tmp 49) (.tmp 50) rfl u9.heap.size v1 a [5] rfl _ 1 _ rfl rfl (Up.gJ az.out ((Below.refl _ _).alloc (Nat.le_refl _) _)) (Rg.aG fitsI _ _ _ _ rfl rfl) (by have:=ad.out;have:=ae.out;simp;omega) ?b2 ?_)
  case b2=>have:=al.out.size;simp;omega
  intro v2 W2 ax ai
  have aA:Hid (Below u9.heap.size u9 W2):=(al.out.alloc al.out.size _).trans ai
  obtain⟨D,dd,rfl,ay⟩:=Up.jP fitsI ax (n:=n+1) (by rw[List.length_append,ae.out];rfl)
  have aB:=zh ay
  have af:Hid (Below u1.heap.size u1 W2):=bt ak.out aA.out
  clear ax ai ay
  go_wp2_with fail
  refine (aH A D n (n+1) ca dd a (a++[5]) W2 ae.out (by rw[List.length_append,ae.out];rfl) (ac.out _ af.out).2.1 aB.out (Nat.le_trans ad.out (by decide))).mono ?_
  rintro _ _ ⟨rfl,rfl⟩
  rw[fh]
  go_wp2_with fail
  refine (aH A B n m ca cb a b W2 ae.out ao.out (ac.out _ af.out).2.1 (ac.out _ af.out).2.2.1 (Nat.le_trans ad.out (by decide))).mono ?_
  rintro _ _ ⟨rfl,rfl⟩
  rw[aF.out]
  go_wp2_with fail
  refine (dB A B n m ca cb a b W2 ae.out ao.out (ac.out _ af.out).2.1 (ac.out _ af.out).2.2.1 (Nat.le_trans ad.out (by decide))).mono ?_
  rintro _ u3 ⟨rfl,hb⟩
  rw[aK.out]
  have aC:Hid (Below w.heap.size w u3):=an.out.trans ((bt af.out hb).mono an.out.size)
  clear hb
  have aS:=aL.out
  have aT:(R==R)=true:=by cases R <;> rfl
  go_wp2_with fail
  go_ret
  exact⟨rfl,aC.out⟩
 case pos =>
  have d0:decide (x1<=0)=true:=decide_eq_true g1
  have aD:Hid (x2<=0->x3<=0):=aR.out g1
  clear g1 aR
  go_wp2_with fail
  refine (aH B C m q cb cc b c u1 ao.out aQ.out (ac.out _ (Below.refl _ _)).2.2.1 (ac.out _ (Below.refl _ _)).2.2.2 (Nat.le_trans aJ.out (by decide))).mono ?_
  rintro _ _ ⟨rfl,rfl⟩
  rw[aU.out]
  by_cases g2:x2<=0
  case neg =>
   have d1:decide (x2<=0)=false:=decide_eq_false g2
   clear g2
   obtain⟨k1,aE⟩:=ex u1.heap.size
   obtain⟨V1,au⟩:=ex (u1.alloc (.cells #[] 107))
   obtain⟨k2,av⟩:=ex V1.heap.size
   obtain⟨V2,am⟩:=ex (V1.alloc (.cells #[.slice none 0 0,.slice none 0 0] 44))
   have ah:Below u1.heap.size u1 V1:=aa au
   have ai:Below V1.heap.size V1 V2:=aa am
   have aj:Hid (Below u1.heap.size u1 V2):=bt ah ai
   have aq:Hid (SetsRow V2 (some ⟨k2,0,none⟩) [[],[]]):=by
    refine⟨[(none,0,0),(none,0,0)],by rw[<-am];exact Rg.aG fitsO _ _ _ _ rfl av,rfl,fun i d s e1 e2=>?_⟩
    match i with
    | 0=>cases e1;cases e2;exact⟨rfl,Rg.bu _ _⟩
    | 1=>cases e1;cases e2;exact⟨rfl,Rg.bu _ _⟩
    | i+2=>simp at e1
   have ar:=zh (ma (some ⟨k1,0,none⟩) (some ⟨k2,0,none⟩) 0 2 V2 (ac.out _ aj.out).1 aq.out)
   clear ah ai aq
   go_wp2_with fail
   clear au am aE av
   refine ar.out.mono ?_
   rintro _ u9 ⟨rfl,hb⟩
   have ak:Hid (Below u1.heap.size u1 u9):=bt aj.out hb
   clear hb ar aj
   dsimp only
   go_wp2_with (at_builtin;refine Up.cg sliceI rfl (.tmp 47) (.tmp 48) rfl u9.heap.size _ [] a rfl _ n _ rfl ae.out (.inl ⟨rfl,_,rfl⟩) (ac.out _ (ak.out.alloc ak.out.size _)).2.1 (by have:=ad.out;have:=ae.out;simp;omega) ?b1 ?_)
   case b1=>simp
   intro v1 W1 aw ah
   have al:Hid (Below u9.heap.size u9 W1):=((Below.refl _ _).alloc (Nat.le_refl _) _).trans ah
   have az:Hid (Up.Own0 Rp.encI 1 W1 u9.heap.size 3 v1 a):=aw
   clear aw ah
   go_wp2_with (at_builtin;refine Up.cg sliceI rfl (.tmp 49) (.tmp 50) rfl u9.heap.size v1 a [5] rfl _ 1 _ rfl rfl (Up.gJ az.out ((Below.refl _ _).alloc (Nat.le_refl _) _)) (Rg.aG fitsI _ _ _ _ rfl rfl) (by have:=ad.out;have:=ae.out;simp;omega) ?b2 ?_)
   case b2=>have:=al.out.size;simp;omega
   intro v2 W2 ax ai
   have aA:Hid (Below u9.heap.size u9 W2):=(al.out.alloc al.out.size _).trans ai
   obtain⟨D,dd,rfl,ay⟩:=Up.jP fitsI ax (n:=n+1) (by rw[List.length_append,ae.out];rfl)
   have aB:=zh ay
   have af:Hid (Below u1.heap.size u1 W2):=bt ak.out aA.out
   clear ax ai ay
   go_wp2_with fail
   refine (aH A D n (n+1) ca dd a (a++[5]) W2 ae.out (by rw[List.length_append,ae.out];rfl) (ac.out _ af.out).2.1 aB.out (Nat.le_trans ad.out (by decide))).mono ?_
   rintro _ _ ⟨rfl,rfl⟩
   rw[fh]
   go_wp2_with fail
   refine (aH A B n m ca cb a b W2 ae.out ao.out (ac.out _ af.out).2.1 (ac.out _ af.out).2.2.1 (Nat.le_trans ad.out (by decide))).mono ?_
   rintro _ _ ⟨rfl,rfl⟩
   rw[aF.out]
   go_wp2_with fail
   refine (dB A B n m ca cb a b W2 ae.out ao.out (ac.out _ af.out).2.1 (ac.out _ af.out).2.2.1 (Nat.le_trans ad.out (by decide))).mono ?_
   rintro _ u3 ⟨rfl,hb⟩
   rw[aK.out]
   have aC:Hid (Below w.heap.size w u3):=an.out.trans ((bt af.out hb).mono an.out.size)
   clear hb
   have aS:=aL.out
   have aT:(R==R)=true:=by cases R <;> rfl
   go_wp2_with fail
   go_ret
   exact⟨rfl,aC.out⟩
  case pos =>
   have d1:decide (x2<=0)=true:=decide_eq_true g2
   have aM:Hid (x3<=0):=aD.out g2
   clear g2 aD
   go_wp2_with fail
   refine (aH A C n q ca cc a c u1 ae.out aQ.out (ac.out _ (Below.refl _ _)).2.1 (ac.out _ (Below.refl _ _)).2.2.2 (Nat.le_trans ad.out (by decide))).mono ?_
   rintro _ _ ⟨rfl,rfl⟩
   rw[aV.out]
   have d2:decide (0<x3)=false:=decide_eq_false (by have:=aM.out;omega)
   obtain⟨k1,aE⟩:=ex u1.heap.size
   obtain⟨V1,au⟩:=ex (u1.alloc (.cells #[] 107))
   obtain⟨k2,av⟩:=ex V1.heap.size
   obtain⟨V2,am⟩:=ex (V1.alloc (.cells #[.slice none 0 0,.slice none 0 0] 44))
   have ah:Below u1.heap.size u1 V1:=aa au
   have ai:Below V1.heap.size V1 V2:=aa am
   have aj:Hid (Below u1.heap.size u1 V2):=bt ah ai
   have aq:Hid (SetsRow V2 (some ⟨k2,0,none⟩) [[],[]]):=by
    refine⟨[(none,0,0),(none,0,0)],by rw[<-am];exact Rg.aG fitsO _ _ _ _ rfl av,rfl,fun i d s e1 e2=>?_⟩
    match i with
    | 0=>cases e1;cases e2;exact⟨rfl,Rg.bu _ _⟩
    | 1=>cases e1;cases e2;exact⟨rfl,Rg.bu _ _⟩
    | i+2=>simp at e1
   have ar:=zh (ma (some ⟨k1,0,none⟩) (some ⟨k2,0,none⟩) 0 2 V2 (ac.out _ aj.out).1 aq.out)
   clear ah ai aq
   go_wp2_with fail
   clear au am aE av
   refine ar.out.mono ?_
   rintro _ u9 ⟨rfl,hb⟩
   have ak:Hid (Below u1.heap.size u1 u9):=bt aj.out hb
   clear hb ar aj
   dsimp only
   go_wp2_with (at_builtin;refine Up.cg sliceI rfl (.tmp 47) (.tmp 48) rfl u9.heap.size _ [] a rfl _ n _ rfl ae.out (.inl ⟨rfl,_,rfl⟩) (ac.out _ (ak.out.alloc ak.out.size _)).2.1 (by have:=ad.out;have:=ae.out;simp;omega) ?b1 ?_)
   case b1=>simp
   intro v1 W1 aw ah
   have al:Hid (Below u9.heap.size u9 W1):=((Below.refl _ _).alloc (Nat.le_refl _) _).trans ah
   have az:Hid (Up.Own0 Rp.encI 1 W1 u9.heap.size 3 v1 a):=aw
   clear aw ah
   go_wp2_with (at_builtin;refine Up.cg sliceI rfl (.tmp 49) (.tmp 50) rfl u9.heap.size v1 a [5] rfl _ 1 _ rfl rfl (Up.gJ az.out ((Below.refl _ _).alloc (Nat.le_refl _) _)) (Rg.aG fitsI _ _ _ _ rfl rfl) (by have:=ad.out;have:=ae.out;simp;omega) ?b2 ?_)
   case b2=>have:=al.out.size;simp;omega
   intro v2 W2 ax ai
   have aA:Hid (Below u9.heap.size u9 W2):=(al.out.alloc al.out.size _).trans ai
   obtain⟨D,dd,rfl,ay⟩:=Up.jP fitsI ax (n:=n+1) (by rw[List.length_append,ae.out];rfl)
   have aB:=zh ay
   have af:Hid (Below u1.heap.size u1 W2):=bt ak.out aA.out
   clear ax ai ay
   go_wp2_with fail
   refine (aH A D n (n+1) ca dd a (a++[5]) W2 ae.out (by rw[List.length_append,ae.out];rfl) (ac.out _ af.out).2.1 aB.out (Nat.le_trans ad.out (by decide))).mono ?_
   rintro _ _ ⟨rfl,rfl⟩
   rw[fh]
   go_wp2_with fail
   refine (aH A B n m ca cb a b W2 ae.out ao.out (ac.out _ af.out).2.1 (ac.out _ af.out).2.2.1 (Nat.le_trans ad.out (by decide))).mono ?_
   rintro _ _ ⟨rfl,rfl⟩
   rw[aF.out]
   go_wp2_with fail
   refine (dB A B n m ca cb a b W2 ae.out ao.out (ac.out _ af.out).2.1 (ac.out _ af.out).2.2.1 (Nat.le_trans ad.out (by decide))).mono ?_
   rintro _ u3 ⟨rfl,hb⟩
   rw[aK.out]
   have aC:Hid (Below w.heap.size w u3):=an.out.trans ((bt af.out hb).mono an.out.size)
   clear hb
   have aS:=aL.out
   have aT:(R==R)=true:=by cases R <;> rfl
   go_wp2_with fail
   go_ret
   exact⟨rfl,aC.out⟩
end
namespace Rp
open Go.ChangeShapes Go.WideShapes Go.RowKit Rs At Pg
theorem gK {H:Type}{enc:TypeId × Value->H}{P:Program}{W:World}{b0:Nat}{t e:TypeId}{v:Value}{d:DataW H}{ps:List MemPlace}
  (ht:P.underlying t=some (.slice e)) (hs:P.underlying e=some (.int .i64)) (ce:P.cellsOf e=1)
  (hval:Value.okWide P W .any b0 t v) (h:DataW.Trod enc P W 0 (fun _=>true) true t v d ps) :
  ∃ (A:Option Addr) (c:Nat) (l:List Int),v=.slice A l.length c/\IRow W A l:=by
 obtain⟨a0,l0,k0,rfl⟩:=okWide_slice ht hval
 obtain⟨fuel,hf⟩:=h
 rcases Go.Deep.open_slice ht hf with⟨hcs,_⟩ | ⟨a,len,cap,m,n,D,Pl,hcs,_,hl,_,hmm,hx,hi⟩
 ·simp[Value.cells] at hcs
  obtain⟨rfl,rfl,rfl⟩:=hcs
  exact⟨none,0,[],rfl,fun h=>absurd h (by simp)⟩
 ·simp[Value.cells] at hcs
  obtain⟨rfl,rfl,rfl⟩:=hcs
  simp only[if_true] at hmm
  have each:∀ i,i<l0->∃ s:Int,Rg.At Rp.encI W (a.add (i*1)) s/\(a.add (i*1)).block<W.heap.size:=fun i hil=>by
   obtain⟨ab,hc,ac⟩:=hi i (by omega)
   rw[ce] at hc
   obtain⟨x,e0,_,wx⟩:=DataW.trod_int hs ac
   obtain⟨_,ad,ae⟩:=World.cells?_some hc
   have c0:=(ae 0 (by omega)).trans (show ab[0]?=some (.int .i64 x) by rw[e0];rfl)
   have ci:=bH c0
   rw[Rs.add_block] at ci
   refine⟨x,fun j u hu=>?_,ci⟩
   match j with
   | 0=>cases hu;rw[if_pos rfl];exact c0
   | j+1=>simp[Rp.encI] at hu
  obtain⟨f,aa⟩:=Go.Deep.choose_lt each
  have hlen:((List.range l0).map f).length=l0:=by simp
  refine⟨some a,k0,(List.range l0).map f,by rw[hlen],fun h=>?_⟩
  rw[hlen] at h
  refine⟨a,rfl,?_,fun i hi2=>?_⟩
  ·have:=(aa 0 h).2
   rwa [Rs.add_block] at this
  ·rw[hlen] at hi2
   have:=(aa i hi2).1
   simpa using this
end Rp
end Go.Proofs.YtgnaiidgjmicaaaGreatDoor
