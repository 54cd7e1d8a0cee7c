/- Part 9 of what the laws lean on. -/
import Derived.Test.YtgnaiidgjmicaaaGreatDoorL08
set_option maxRecDepth 100000
set_option maxHeartbeats 6400000
namespace Go.Proofs.YtgnaiidgjmicaaaGreatDoor
section
open Go.RowKit Rs At
attribute [local go_sem ↓] Go.wp_at_zero Go.wp_at_succ
theorem dI (s:List UInt8)(b:Bool)(r:List UInt8)(w:World)(hs:s.length<=10)(hr:(if b then s++[61] else s)=r) :
  Calls Tryz.prog 255 #[.string ⟨s.toArray⟩,.bool b] w fun e w'=>e=.returned (.string ⟨r.toArray⟩)/\w=w':=by
 subst hr;exact s7 s b w hs
theorem newsD (w:World)(c:Cond)(T:TypeId):∀ j u,(Rg.flat encD [c])[j]?=some u->(w.alloc (.cells #[.string ⟨c.1.toArray⟩,.string ⟨c.2.toArray⟩] T)).cell? ((⟨w.heap.size,0,none⟩:Addr).add j)=some u :=
 Rg.aw w T _ _ (by rfl)
theorem xn (w:World)(T:TypeId)(l:List Cond)(cs:Array Value)(h:cs.toList=Rg.flat encD l):DRow (w.alloc (.cells cs T)) (some ⟨w.heap.size,0,none⟩) l:=fun _=>by
 refine⟨_,rfl,by simp,fun i hi j v hv=>?_⟩
 have hj:j<2:=(List.getElem?_eq_some_iff.1 hv).1
 rw[<-Rg.eM]
 exact Rg.aw w T l cs h _ _ ((Rg.flat_get fitsD l i hi j hj).trans hv)
def Bx4 (b:Nat) (lo hi:List UInt8) (li hn:Bool) (u:World):Prop:=u.cell? ⟨b,0,none⟩=some (.string ⟨lo.toArray⟩)/\u.cell? ⟨b,1,none⟩=some (.string ⟨hi.toArray⟩)/\u.cell? ⟨b,2,none⟩=some (.bool li)/\u.cell? ⟨b,3,none⟩=some (.bool hn)
theorem aM {b B:Nat}{lo hi:List UInt8}{li hn:Bool}{u u':World}(h:Bx4 b lo hi li hn u)(hb:b<B)(hbl:Below B u u'):Bx4 b lo hi li hn u':=by
 obtain⟨h0,h1,h2,h3⟩:=h
 refine⟨?_,?_,?_,?_⟩
 ·rw[hbl.cell hb];exact h0
 ·rw[hbl.cell hb];exact h1
 ·rw[hbl.cell hb];exact h2
 ·rw[hbl.cell hb];exact h3
theorem ze (w:World)(lo hi:List UInt8)(li hn:Bool)(T:TypeId):Bx4 w.heap.size lo hi li hn (w.alloc (.cells #[.string ⟨lo.toArray⟩,.string ⟨hi.toArray⟩,.bool li,.bool hn] T)):=by
 refine⟨?_,?_,?_,?_⟩ <;> rw[World.cell?_alloc_mark] <;> rfl
theorem xo {lo hi:List UInt8}{li hn:Bool}(h1:(lo==hi)=true)(h2:lo.isEmpty=false):conds ⟨lo,hi,li,hn⟩=[([61],lo)]:=by
 unfold conds
 rw[if_pos ⟨by simpa using h1,by intro e;dsimp only at e;subst e;cases h2⟩]
theorem jw {lo hi:List UInt8}{li hn:Bool}(h1:(lo==hi)=false\/lo.isEmpty=true):conds ⟨lo,hi,li,hn⟩=(if lo.isEmpty then [] else [(if li then [62,61] else [62],lo)])++(if hi.isEmpty then [] else [(if hn then [60,61] else [60],hi)]):=by
 unfold conds
 rw[if_neg (by
  rintro⟨e1,e2⟩
  dsimp only at e1 e2
  rcases h1 with h1 | h1
  ·rw[e1] at h1;simp at h1
  ·exact e2 (List.isEmpty_iff.1 h1))]
 dsimp only
 congr 1
 ·cases lo <;> rfl
 ·cases hi <;> rfl
theorem jx (lo hi:List UInt8)(li hn:Bool)(w:World) :
  Calls Tryz.prog 218 #[.agg #[.string ⟨lo.toArray⟩,.string ⟨hi.toArray⟩,.bool li,.bool hn]] w (CondsRet w (conds ⟨lo,hi,li,hn⟩)):=by
 obtain⟨R,hR⟩:=ex (conds ⟨lo,hi,li,hn⟩)
 rw[hR]
 obtain⟨b,hb⟩:=ex w.heap.size
 obtain⟨W1,ak⟩:=ex (w.alloc (.cells #[.string ⟨lo.toArray⟩,.string ⟨hi.toArray⟩,.bool li,.bool hn] 145))
 have af:Hid (Bx4 b lo hi li hn W1):=by rw[<-ak,<-hb];exact ze w lo hi li hn _
 have ab:Hid (Below w.heap.size w W1):=by rw[<-ak];exact (Below.refl _ _).alloc (Nat.le_refl _) _
 have ag:b<W1.heap.size:=by rw[<-ak,<-hb];simp
 obtain⟨k0,k1,k2,k3⟩:=af.out
 cases he:lo==hi <;> cases hle:lo.isEmpty
 case true.false =>
  have HR:Hid (R=[([61],lo)]):=by rw[<-hR];exact xo he hle
  clear hR
  go_enter Tryz.func218,Tryz.ntmps218
  go_wp2_with fail
  skip
  clear hb ak
  go_wp2_with fail
  go_ret
  rw[HR.out]
  refine⟨_,_,_,rfl,rfl,?_,fun a ha=>by cases ha;exact ab.out.size,ab.out.alloc ab.out.size _⟩
  exact xn W1 _ _ _ (by rfl)
 case false.false =>
  obtain⟨sg,ac⟩:∃ s:List UInt8,(if li then [62,61] else [62])=s:=⟨_,rfl⟩
  obtain⟨sh,ad⟩:∃ s:List UInt8,(if hn then [60,61] else [60])=s:=⟨_,rfl⟩
  have HR:Hid (R=(if lo.isEmpty then [] else [(if li then [62,61] else [62],lo)])++(if hi.isEmpty then [] else [(if hn then [60,61] else [60],hi)])):=by rw[<-hR];exact jw (Or.inl he)
  have aB:Hid ((if li then [62]++[61] else [62])=sg):=ac
  have aw:Hid ((if hn then [60]++[61] else [60])=sh):=ad
  clear hR
  cases al:hi.isEmpty
  ·have ah:Hid (R=([(sg,lo)]++[(sh,hi)])):=by show _=_;rw[HR.out,hle,al,ac,ad];rfl
   clear ac ad HR
   go_enter Tryz.func218,Tryz.ntmps218
   go_wp2_with fail
   clear hb ak
   have HX:=af
   have HO:Hid (DOwn W1 W1.heap.size (.slice none 0 0) []):=Rg.an _ _ _
   have aa:Hid (Below W1.heap.size W1 W1/\W1.heap.size<=W1.heap.size):=⟨Below.refl _ _,Nat.le_refl _⟩
   have ae:b<W1.heap.size:=ag
   go_wp2_with fail
   go_region_held3 (fun w'=>w'.cell? ⟨b,0,none⟩=some (.string ⟨lo.toArray⟩)/\w'.cell? ⟨b,1,none⟩=some (.string ⟨hi.toArray⟩)/\w'.cell? ⟨b,2,none⟩=some (.bool li)/\w'.cell? ⟨b,3,none⟩=some (.bool hn))
    (first
     | exact aM HX.out ae (Below.refl _ _).drew
     | exact aM HX.out ae ((Below.refl _ _).drew.alloc (Nat.le_refl _) _)
     | exact au.out)
    (first
     | (go_at_call 255;refine (dI [62] li sg _ (by decide) aB.out).mono ?_;rintro _ w' ⟨rfl,rfl⟩)
     | (refine Rg.bT sliceD (by rfl) (.tmp 21) (.tmp 28) (by rfl) W1.heap.size (.slice none 0 0) [] [(sg,lo)] (by rfl) (Rg.own_below HO.out ((Below.refl _ _).drew.alloc (Nat.le_refl _) _)) _ _ (by rfl) (newsD _ (sg,lo) _) (Nat.zero_lt_succ _) (by simp) (fF aa) ?_;intro v5 W5 ay az aC;have am:=dH aa HO az;have au:=zh (aM af.out ag am.out.1)))
   have ax:=zh ay
   clear ay az aC HO aa HX
   obtain⟨k0,k1,k2,k3⟩:=au.out
   have HX:=au
   have HO:=ax
   have aa:=am
   have ae:b<W5.heap.size:=Nat.lt_of_lt_of_le ag am.out.2
   clear au ax am
   go_wp2_with fail
   go_region_held3 (fun w'=>w'.cell? ⟨b,0,none⟩=some (.string ⟨lo.toArray⟩)/\w'.cell? ⟨b,1,none⟩=some (.string ⟨hi.toArray⟩)/\w'.cell? ⟨b,2,none⟩=some (.bool li)/\w'.cell? ⟨b,3,none⟩=some (.bool hn))
    (first
     | exact aM HX.out ae (Below.refl _ _).drew
     | exact aM HX.out ae ((Below.refl _ _).drew.alloc (Nat.le_refl _) _)
     | exact ao.out)
    (first
     | (go_at_call 255;refine (dI [60] hn sh _ (by decide) aw.out).mono ?_;rintro _ w' ⟨rfl,rfl⟩)
     | (refine Rg.bT sliceD (by rfl) (.tmp 33) (.tmp 40) (by rfl) W1.heap.size v5 ([]++[(sg,lo)]) [(sh,hi)] (by rfl) (Rg.own_below HO.out ((Below.refl _ _).drew.alloc (Nat.le_refl _) _)) _ _ (by rfl) (newsD _ (sh,hi) _) (Nat.zero_lt_succ _) (by simp) (fF aa) ?_;intro v6 W6 aq ar aA;have ai:=dH aa HO ar;have ao:=zh (aM af.out ag ai.out.1)))
   have ap:=zh aq
   clear aq ar aA HO aa HX
   obtain⟨k0,k1,k2,k3⟩:=ao.out
   have aj:Hid (DOwn W6 W1.heap.size v6 R):=by show DOwn _ _ _ _;rw[ah.out];exact ap.out
   have av:=ai
   clear ap ai
   obtain⟨C,d,rfl,h1,h2⟩:=eE aj.out
   have H1:=zh h1
   have H2:=zh h2
   clear h1 h2 aj
   go_wp2_with fail
   go_ret
   refine⟨C,_,d,rfl,rfl,?_,fun a ha=>?_,?_⟩
   ·exact H1.out
   ·have:=H2.out a ha;have:=ab.out.size;omega
   ·exact ab.out.trans (av.out.1.mono ab.out.size)
  ·have ah:Hid (R=([(sg,lo)]++[])):=by show _=_;rw[HR.out,hle,al,ac,ad];rfl
   clear ac ad HR
   go_enter Tryz.func218,Tryz.ntmps218
   go_wp2_with fail
   clear hb ak
   have HX:=af
   have HO:Hid (DOwn W1 W1.heap.size (.slice none 0 0) []):=Rg.an _ _ _
   have aa:Hid (Below W1.heap.size W1 W1/\W1.heap.size<=W1.heap.size):=⟨Below.refl _ _,Nat.le_refl _⟩
   have ae:b<W1.heap.size:=ag
   go_wp2_with fail
   go_region_held3 (fun w'=>w'.cell? ⟨b,0,none⟩=some (.string ⟨lo.toArray⟩)/\w'.cell? ⟨b,1,none⟩=some (.string ⟨hi.toArray⟩)/\w'.cell? ⟨b,2,none⟩=some (.bool li)/\w'.cell? ⟨b,3,none⟩=some (.bool hn))
    (first
     | exact aM HX.out ae (Below.refl _ _).drew
     | exact aM HX.out ae ((Below.refl _ _).drew.alloc (Nat.le_refl _) _)
     | exact au.out)
    (first
     | (go_at_call 255;refine (dI [62] li sg _ (by decide) aB.out).mono ?_;rintro _ w' ⟨rfl,rfl⟩)
     | (refine Rg.bT sliceD (by rfl) (.tmp 21) (.tmp 28) (by rfl) W1.heap.size (.slice none 0 0) [] [(sg,lo)] (by rfl) (Rg.own_below HO.out ((Below.refl _ _).drew.alloc (Nat.le_refl _) _)) _ _ (by rfl) (newsD _ (sg,lo) _) (Nat.zero_lt_succ _) (by simp) (fF aa) ?_;intro v5 W5 ay az aC;have am:=dH aa HO az;have au:=zh (aM af.out ag am.out.1)))
   have ax:=zh ay
   clear ay az aC HO aa HX
   obtain⟨k0,k1,k2,k3⟩:=au.out
   have aj:Hid (DOwn W5 W1.heap.size v5 R):=by show DOwn _ _ _ _;rw[ah.out];exact ax.out
   have av:=am
   clear ax am
   obtain⟨C,d,rfl,h1,h2⟩:=eE aj.out
   have H1:=zh h1
   have H2:=zh h2
   clear h1 h2 aj
   go_wp2_with fail
   go_ret
   refine⟨C,_,d,rfl,rfl,?_,fun a ha=>?_,?_⟩
   ·exact H1.out
   ·have:=H2.out a ha;have:=ab.out.size;omega
   ·exact ab.out.trans (av.out.1.mono ab.out.size)
 case false.true =>
  obtain⟨sg,ac⟩:∃ s:List UInt8,(if li then [62,61] else [62])=s:=⟨_,rfl⟩
  obtain⟨sh,ad⟩:∃ s:List UInt8,(if hn then [60,61] else [60])=s:=⟨_,rfl⟩
  have HR:Hid (R=(if lo.isEmpty then [] else [(if li then [62,61] else [62],lo)])++(if hi.isEmpty then [] else [(if hn then [60,61] else [60],hi)])):=by rw[<-hR];exact jw (Or.inl he)
  have aB:Hid ((if li then [62]++[61] else [62])=sg):=ac
  have aw:Hid ((if hn then [60]++[61] else [60])=sh):=ad
  clear hR
  cases al:hi.isEmpty
  ·have ah:Hid (R=([]++[(sh,hi)])):=by show _=_;rw[HR.out,hle,al,ac,ad];rfl
   clear ac ad HR
   go_enter Tryz.func218,Tryz.ntmps218
   go_wp2_with fail
   clear hb ak
   have HX:=af
   have HO:Hid (DOwn W1 W1.heap.size (.slice none 0 0) []):=Rg.an _ _ _
   have aa:Hid (Below W1.heap.size W1 W1/\W1.heap.size<=W1.heap.size):=⟨Below.refl _ _,Nat.le_refl _⟩
   have ae:b<W1.heap.size:=ag
   go_wp2_with fail
   go_region_held3 (fun w'=>w'.cell? ⟨b,0,none⟩=some (.string ⟨lo.toArray⟩)/\w'.cell? ⟨b,1,none⟩=some (.string ⟨hi.toArray⟩)/\w'.cell? ⟨b,2,none⟩=some (.bool li)/\w'.cell? ⟨b,3,none⟩=some (.bool hn))
    (first
     | exact aM HX.out ae (Below.refl _ _).drew
     | exact aM HX.out ae ((Below.refl _ _).drew.alloc (Nat.le_refl _) _)
     | exact ao.out)
    (first
     | (go_at_call 255;refine (dI [60] hn sh _ (by decide) aw.out).mono ?_;rintro _ w' ⟨rfl,rfl⟩)
     | (refine Rg.bT sliceD (by rfl) (.tmp 33) (.tmp 40) (by rfl) W1.heap.size (.slice none 0 0) [] [(sh,hi)] (by rfl) (Rg.own_below HO.out ((Below.refl _ _).drew.alloc (Nat.le_refl _) _)) _ _ (by rfl) (newsD _ (sh,hi) _) (Nat.zero_lt_succ _) (by simp) (fF aa) ?_;intro v6 W6 aq ar aA;have ai:=dH aa HO ar;have ao:=zh (aM af.out ag ai.out.1)))
   have ap:=zh aq
   clear aq ar aA HO aa HX
   obtain⟨k0,k1,k2,k3⟩:=ao.out
   have aj:Hid (DOwn W6 W1.heap.size v6 R):=by show DOwn _ _ _ _;rw[ah.out];exact ap.out
   have av:=ai
   clear ap ai
   obtain⟨C,d,rfl,h1,h2⟩:=eE aj.out
   have H1:=zh h1
   have H2:=zh h2
   clear h1 h2 aj
   go_wp2_with fail
   go_ret
   refine⟨C,_,d,rfl,rfl,?_,fun a ha=>?_,?_⟩
   ·exact H1.out
   ·have:=H2.out a ha;have:=ab.out.size;omega
   ·exact ab.out.trans (av.out.1.mono ab.out.size)
  ·have ah:Hid (R=([]++[])):=by show _=_;rw[HR.out,hle,al,ac,ad];rfl
   clear ac ad HR
   go_enter Tryz.func218,Tryz.ntmps218
   go_wp2_with fail
   clear hb ak
   have HX:=af
   have HO:Hid (DOwn W1 W1.heap.size (.slice none 0 0) []):=Rg.an _ _ _
   have aa:Hid (Below W1.heap.size W1 W1/\W1.heap.size<=W1.heap.size):=⟨Below.refl _ _,Nat.le_refl _⟩
   have ae:b<W1.heap.size:=ag
   go_wp2_with fail
   go_ret
   rw[ah.out]
   exact⟨none,0,0,rfl,rfl,Rg.bu _ _,fun a ha=>(by cases ha),ab.out⟩
 case true.true =>
  obtain⟨sg,ac⟩:∃ s:List UInt8,(if li then [62,61] else [62])=s:=⟨_,rfl⟩
  obtain⟨sh,ad⟩:∃ s:List UInt8,(if hn then [60,61] else [60])=s:=⟨_,rfl⟩
  have HR:Hid (R=(if lo.isEmpty then [] else [(if li then [62,61] else [62],lo)])++(if hi.isEmpty then [] else [(if hn then [60,61] else [60],hi)])):=by rw[<-hR];exact jw (Or.inr hle)
  have aB:Hid ((if li then [62]++[61] else [62])=sg):=ac
  have aw:Hid ((if hn then [60]++[61] else [60])=sh):=ad
  clear hR
  cases al:hi.isEmpty
  ·have ah:Hid (R=([]++[(sh,hi)])):=by show _=_;rw[HR.out,hle,al,ac,ad];rfl
   clear ac ad HR
   go_enter Tryz.func218,Tryz.ntmps218
   go_wp2_with fail
   clear hb ak
   have HX:=af
   have HO:Hid (DOwn W1 W1.heap.size (.slice none 0 0) []):=Rg.an _ _ _
   have aa:Hid (Below W1.heap.size W1 W1/\W1.heap.size<=W1.heap.size):=⟨Below.refl _ _,Nat.le_refl _⟩
   have ae:b<W1.heap.size:=ag
   go_wp2_with fail
   go_region_held3 (fun w'=>w'.cell? ⟨b,0,none⟩=some (.string ⟨lo.toArray⟩)/\w'.cell? ⟨b,1,none⟩=some (.string ⟨hi.toArray⟩)/\w'.cell? ⟨b,2,none⟩=some (.bool li)/\w'.cell? ⟨b,3,none⟩=some (.bool hn))
    (first
     | exact aM HX.out ae (Below.refl _ _).drew
     | exact aM HX.out ae ((Below.refl _ _).drew.alloc (Nat.le_refl _) _)
     | exact ao.out)
    (first
     | (go_at_call 255;refine (dI [60] hn sh _ (by decide) aw.out).mono ?_;rintro _ w' ⟨rfl,rfl⟩)
     | (refine Rg.bT sliceD (by rfl) (.tmp 33) (.tmp 40) (by rfl) W1.heap.size (.slice none 0 0) [] [(sh,hi)] (by rfl) (Rg.own_below HO.out ((Below.refl _ _).drew.alloc (Nat.le_refl _) _)) _ _ (by rfl) (newsD _ (sh,hi) _) (Nat.zero_lt_succ _) (by simp) (fF aa) ?_;intro v6 W6 aq ar aA;have ai:=dH aa HO ar;have ao:=zh (aM af.out ag ai.out.1)))
   have ap:=zh aq
   clear aq ar aA HO aa HX
   obtain⟨k0,k1,k2,k3⟩:=ao.out
   have aj:Hid (DOwn W6 W1.heap.size v6 R):=by show DOwn _ _ _ _;rw[ah.out];exact ap.out
   have av:=ai
   clear ap ai
   obtain⟨C,d,rfl,h1,h2⟩:=eE aj.out
   have H1:=zh h1
   have H2:=zh h2
   clear h1 h2 aj
   go_wp2_with fail
   go_ret
   refine⟨C,_,d,rfl,rfl,?_,fun a ha=>?_,?_⟩
   ·exact H1.out
   ·have:=H2.out a ha;have:=ab.out.size;omega
   ·exact ab.out.trans (av.out.1.mono ab.out.size)
  ·have ah:Hid (R=([]++[])):=by show _=_;rw[HR.out,hle,al,ac,ad];rfl
   clear ac ad HR
   go_enter Tryz.func218,Tryz.ntmps218
   go_wp2_with fail
   clear hb ak
   have HX:=af
   have HO:Hid (DOwn W1 W1.heap.size (.slice none 0 0) []):=Rg.an _ _ _
   have aa:Hid (Below W1.heap.size W1 W1/\W1.heap.size<=W1.heap.size):=⟨Below.refl _ _,Nat.le_refl _⟩
   have ae:b<W1.heap.size:=ag
   go_wp2_with fail
   go_ret
   rw[ah.out]
   exact⟨none,0,0,rfl,rfl,Rg.bu _ _,fun a ha=>(by cases ha),ab.out⟩
end
section
open Go.RowKit Rs At
theorem tfresh {w:World}{B:Nat}{v:Value}{t:List (List Cond)}{C:Option Addr}{M:Nat}(h:TOwn w B v t)(hM:w.heap.size<=M)(hC:∀ a,C=some a->M<=a.block)(P:Prop):P->∀ a,C=some a->v.ownBlock≠some a.block:=fun _ a ha e=>by
 obtain⟨ds,h1,_,_⟩:=h
 have:=(Rg.aT h1 a.block e).2
 have:=hC a ha
 omega
theorem uK (l:List Sp)(k:Nat)(hk:k<l.length)(s:Sp)(hs:l[k]=s):(l.take (k+1)).map conds=(l.take k).map conds++[conds s]:=by
 rw[List.take_succ_eq_append_getElem hk,List.map_append,hs];rfl
theorem km (A:Option Addr)(n c:Nat)(l:List Sp)(w:World)(hn:l.length=n)(hr:SRow w A l)(hl:n<=1000) :
  Calls Tryz.prog 191 #[.slice A n c] w (TermRet w (termOf l)):=by
 have HR:=zh hr
 have HN:=zh hn
 clear hr hn
 go_enter Tryz.func191,Tryz.ntmps191
 go_wp2_with fail
 go_loopw [3,8] (fun v i wr=>∃ k:Nat,k<=n/\i=.int .i64 k/\Hid (TOwn wr w.heap.size v ((l.take k).map conds))/\Hid (Below w.heap.size w wr/\w.heap.size<=wr.heap.size)) (fun _ i _=>n-(intOf i).toNat)
 case atStart=>exact⟨0,Nat.zero_le _,rfl,oM _ _,Below.refl _ _,Nat.le_refl _⟩
 case round =>
  obtain⟨k,hk,rfl,HT,HB⟩:=hrel
  by_cases al:k<n
  ·have ae:k<l.length:=by rw[HN.out];exact al
   obtain⟨ad,lo,hi,li,hh,rfl,hs,_,c0,c1,c2,c3⟩:=iP (aL HR.out HB.out.1) k ae
   have HS:=zh (uK l k ae _ hs)
   have af:((l.take k).map conds).length+1<=1000000:=by rw[List.length_map,List.length_take];omega
   have ag:=zh af
   obtain⟨tk,ah⟩:=ex ((l.take k).map conds)
   rw[ah] at HS ag HT
   clear hs af ah
   go_wp2_with fail
   refine (jx lo hi li hh _).mono ?_
   rintro _ u2 ⟨C,m,d,rfl,hm,ac,hf,hb⟩
   have HM:=zh hm
   have aa:=zh ac
   have ab:Hid (Below wr.heap.size wr u2):=((Below.refl _ _).alloc (Nat.le_refl _) _).trans (hb.mono (by simp))
   have HF:Hid (∀ a,C=some a->wr.heap.size<=a.block):=fun a ha=>by have:=hf a ha;simp at this;omega
   clear hm ac hf hb c0 c1 c2 c3
   go_wp2_with (at_builtin;refine ja rfl (.tmp 12) (.tmp 15) rfl w.heap.size _ tk (conds ⟨lo,hi,li,hh⟩) C m d rfl rfl (kl HT.out ab.out) HM.out aa.out (tfresh HT.out (Nat.le_refl _) HF.out _) ag.out (Nat.le_trans HB.out.2 ab.out.size) ?_)
   intro v5 W5 ai aj ak
   have am:Hid (TOwn W5 w.heap.size v5 ((l.take (k+1)).map conds)):=by show TOwn _ _ _ _;rw[HS.out];exact ai
   have an:Hid (Below w.heap.size w W5/\w.heap.size<=W5.heap.size):=⟨(HB.out.1.trans (ab.out.mono HB.out.2)).trans aj,Nat.le_trans (Nat.le_trans HB.out.2 ab.out.size) ak⟩
   clear ai aj ak aa HF HM ab
   go_wp2_with fail
   go_roundw
   case rel=>exact⟨k+1,by omega,by go_num,am,an⟩
   case measure=>simp[intOf];omega
  ·obtain rfl:k=n:=by omega
   have hT:TOwn wr w.heap.size u3 (termOf l):=by
    have:=HT.out
    rw[List.take_of_length_le (by rw[HN.out];exact Nat.le_refl _)] at this
    exact this
   obtain⟨C,d,rfl,h1⟩:=oN hT
   have H1:=zh h1
   clear h1 hT HT
   go_wp2_with fail
   go_ret
   exact⟨C,_,d,rfl,rfl,H1.out,HB.out.1⟩
theorem uL (t:List (List Cond))(k:Nat)(hk:k<t.length):vers (t.take (k+1))=vers (t.take k)+t[k].length:=by
 unfold vers
 rw[List.take_succ_eq_append_getElem hk,List.map_append,List.sum_append,List.map_cons,List.map_nil,List.sum_cons,List.sum_nil,Nat.add_zero]
theorem uM (t:List (List Cond))(k:Nat):vers (t.take k)<=vers t:=by
 unfold vers
 conv=>rhs;rw[<-List.take_append_drop k t]
 rw[List.map_append,List.sum_append];omega
theorem il (A:Option Addr)(n c:Nat)(t:List (List Cond))(w:World)(hn:t.length=n)(hr:TRow w A t)(hl:n<=100000)(hv:vers t<=100000000) :
  Calls Tryz.prog 279 #[.slice A n c] w fun e w'=>e=.returned (.int .i64 (vers t))/\w=w':=by
 have HR:=zh hr
 have HN:=zh hn
 have HV:=zh hv
 clear hr hn hv
 go_enter Tryz.func279,Tryz.ntmps279
 go_wp2_with fail
 go_loop [3,8] (fun v i=>∃ k x:Nat,k<=n/\x<=100000000/\i=.int .i64 k/\v=.int .i64 x/\Hid (vers (t.take k)=x)) (fun _ i=>n-(intOf i).toNat)
 case atStart=>exact⟨0,0,Nat.zero_le _,Nat.zero_le _,rfl,rfl,rfl⟩
 case round =>
  obtain⟨k,x,hk,hx,rfl,rfl,HX⟩:=hrel
  by_cases ab:k<n
  ·have aa:k<t.length:=by rw[HN.out];exact ab
   obtain⟨ad,C,m,d,rfl,_,hc,hm,_⟩:=fH HR.out k aa
   have hs:=uL t k aa
   have ht:=uM t (k+1)
   rw[hs,HX.out,hm] at ht
   have hle:x+m<=100000000:=Nat.le_trans ht HV.out
   have HS:Hid (vers (t.take (k+1))=x+m):=by show _=_;rw[hs,HX.out,hm]
   clear hs ht hm
   go_wp2_with fail
   go_round
   case rel=>exact⟨k+1,x+m,by omega,hle,by go_num,by go_num,HS⟩
   case measure=>simp[intOf];omega
  ·obtain rfl:k=n:=by omega
   have HE:Hid (vers t=x):=by show _=_;rw[<-HX.out,List.take_of_length_le (by rw[HN.out];exact Nat.le_refl _)]
   go_wp2_with fail
   go_ret
   exact⟨by rw[HE.out];rfl,rfl⟩
def HoldRet (w0:World) (L:List Ent) (x:Int × List (Rm.P Cut)) (e:Ending) (u':World):Prop:=(x.1=0->∃ C n d,e=.returned (.slice C n d)/\St w0 u' (⟨C,n,x.2.map spOf⟩ :: L))/\(x.1≠0->e=pan x.1/\St w0 u' L)
theorem mz (r:List (Rm.P Cut))(c:Cond)(l:List Cond):hAlt r (c :: l)=if ofE c.1 c.2=0 then hAlt (andR r (ofR c.1 c.2)) l else (ofE c.1 c.2,[]):=rfl
theorem ko (r:List (Rm.P Cut))(a:List Cond)(t:List (List Cond)):hTerm r (a :: t)=if (hAlt allR a).1=0 then hTerm (orR r (hAlt allR a).2) t else ((hAlt allR a).1,[]):=rfl
theorem kp {w0 u:World}{x y:Ent}{L:List Ent}(h:St w0 u (x :: y :: L)):St w0 u (x :: L):=⟨h.1,h.2.1,fun z hz=>by
 rcases List.mem_cons.1 hz with rfl | hz
 ·exact h.2.2 _ (by simp)
 ·exact h.2.2 z (by simp[hz])⟩
theorem oO {w0 w:World}{L:List Ent}(hS:St w0 w L)(A:Option Addr)(n c:Nat)(l:List Cond)(hn:l.length=n)(hr:DRow w A l)(hl:n<=100000) :
  Calls Tryz.prog 312 #[.slice A n c] w (HoldRet w0 L (hAlt allR l)):=by
 have HR:=zh hr
 have HN:=zh hn
 obtain⟨R,hR⟩:=ex (hAlt allR l)
 rw[hR]
 have ao:=zh hR
 have af:Hid (St w w []):=⟨eD hS,Below.refl _ _,fun x hx=>(by cases hx)⟩
 have HS:=zh hS
 clear hr hn hR hS
 go_enter Tryz.func312,Tryz.ntmps312
 go_wp2_with fail
 refine (aaJ af.out allR rfl).mono ?_
 rintro _ u1 ⟨C1,n1,d1,rfl,hs⟩
 have aj:=zh hs
 clear hs af
 go_wp2_with fail
 go_loopw [3,11] (fun v i wr=>∃ (k:Nat) (C:Option Addr) (m d:Nat) (r:List (Rm.P Cut)),k<=n/\i=.int .i64 k/\v=.slice C m d/\Hid (St w wr [⟨C,m,r.map spOf⟩])/\Hid (Rs.Good r)/\Hid (hAlt r (l.drop k)=R)) (fun _ i _=>n-(intOf i).toNat)
 case atStart=>exact⟨0,C1,n1,d1,allR,Nat.zero_le _,rfl,rfl,aj,goodAll,ao.out⟩
 case round =>
  clear aj
  obtain⟨k,C,m,d,r,hk,rfl,rfl,HW,HG,HH⟩:=hrel
  by_cases ap:k<n
  ·have ak:k<l.length:=by rw[HN.out];exact ap
   obtain⟨ad,rfl,_,c0,c1⟩:=zd (Rg.ag HR.out HW.out.2.1) k ak
   have hd:l.drop k=l[k] :: l.drop (k+1):=List.drop_eq_getElem_cons ak
   obtain⟨sg,ab,hc⟩:∃ s v,l[k]=(s,v):=⟨_,_,rfl⟩
   rw[hc] at c0 c1 hd
   have hh:=HH.out
   rw[hd,mz] at hh
   dsimp only at hh c0 c1
   obtain⟨x,hx⟩:=ex (ofR sg ab)
   obtain⟨y,hy⟩:=ex (ofE sg ab)
   have al:Hid (Rs.Good x):=by show Rs.Good _;rw[<-hx];exact oJ _ _
   rw[hx,hy] at hh
   have HX:=zh hx
   have HY:=zh hy
   have am:=zh hh
   have an:=zh (xl HW.out (.cells #[.string ⟨sg.toArray⟩,.string ⟨ab.toArray⟩] 296))
   clear hd hc hh hx hy HH
   go_wp2_with fail
   refine (s_of an.out sg ab x y HX.out HY.out).mono ?_
   rintro _ u2 ⟨C2,n2,d2,rfl,hs⟩
   have ac:=zh hs
   clear hs an c0 c1
   by_cases aa:y=0
   ·subst aa
    go_wp2_with fail
    refine (ah _).mono ?_
    rintro _ u3 ⟨rfl,rfl⟩
    go_wp2_with fail
    refine (aaI ac.out 1 0 rfl rfl HG.out al.out _ _ _ rfl).mono ?_
    rintro _ u4 ⟨C4,n4,d4,rfl,hs⟩
    have aq:Hid (St w u4 [⟨C4,n4,(andR r x).map spOf⟩]):=kp (kp hs)
    have ar:Hid (Rs.Good (andR r x)):=goodA HG.out al.out
    have au:Hid (hAlt (andR r x) (l.drop (k+1))=R):=by show _=_;have h:=am.out;first | rwa [if_pos rfl] at h | rwa [if_pos trivial] at h
    clear hs ac
    go_wp2_with fail
    go_roundw
    case rel=>exact⟨k+1,C4,n4,d4,andR r x,by omega,by go_num,rfl,aq,ar,au⟩
    case measure=>simp[intOf];omega
   ·have aw:(y==0)=false:=by simpa using aa
    have ae:Hid (R=(y,[])):=by show _=_;have h:=am.out;rw[if_neg aa] at h;exact h.symm
    have av:=zh aa
    clear aa
    go_wp2_with fail
    refine (ai _).mono ?_
    rintro _ u3 ⟨rfl,rfl⟩
    go_wp2_with fail
    rw[ae.out]
    exact⟨rfl,fun h=>absurd h av.out,fun _=>⟨rfl,eh HS.out ac.out.2.1⟩⟩
  ·obtain rfl:k=n:=by omega
   have ae:Hid (R=(0,r)):=by show _=_;rw[<-HH.out,List.drop_eq_nil_of_le (by rw[HN.out];exact Nat.le_refl _)];rfl
   go_wp2_with fail
   go_ret
   rw[ae.out]
   exact⟨fun _=>⟨C,m,d,rfl,kh HS.out HW.out.2.1 (a7 HW.out 0 rfl).1 (a7 HW.out 0 rfl).2⟩,fun h=>absurd rfl h⟩
end
section
open Go.RowKit Rs At
theorem gj:Rs.Good []:=⟨trivial,fun p hp=>(by cases hp),by decide⟩
theorem im:∀ (l:List Cond) (r:List (Rm.P Cut)),Rs.Good r->Rs.Good (hAlt r l).2
 | [],r,h=>h
 | c :: l,r,h=>by
  rw[mz]
  split
  ·exact im l _ (goodA h (oJ _ _))
  ·exact gj
theorem kq:∀ (t:List (List Cond)) (r:List (Rm.P Cut)),Rs.Good r->Rs.Good (hTerm r t).2
 | [],r,h=>h
 | a :: t,r,h=>by
  rw[ko]
  split
  ·exact kq t _ (goodO h (im a _ goodAll))
  ·exact gj
theorem xp (w:World)(A:Option Addr):SRow w A []:=fun h=>absurd h (by simp)
theorem uN {w0 w:World}{L:List Ent}(hS:St w0 w L)(A:Option Addr)(n c:Nat)(t:List (List Cond))(hn:t.length=n)(hr:TRow w A t)(hl:n<=100000)(hv:∀ l∈t,l.length<=100000) :
  Calls Tryz.prog 296 #[.slice A n c] w (HoldRet w0 L (hTerm [] t)):=by
 have HR:=zh hr
 have HN:=zh hn
 have HV:=zh hv
 obtain⟨R,hR⟩:=ex (hTerm [] t)
 rw[hR]
 have an:=zh hR
 have aj:Hid (St w w [⟨none,0,([]:List (Rm.P Cut)).map spOf⟩]):=⟨eD hS,Below.refl _ _,fun x hx=>by rw[List.mem_singleton.1 hx];exact⟨xp _ _,rfl⟩⟩
 have HS:=zh hS
 clear hr hn hR hS hv
 go_enter Tryz.func296,Tryz.ntmps296
 go_wp2_with fail
 go_loopw [3,8] (fun v i wr=>∃ (k:Nat) (C:Option Addr) (m d:Nat) (r:List (Rm.P Cut)),k<=n/\i=.int .i64 k/\v=.slice C m d/\Hid (St w wr [⟨C,m,r.map spOf⟩])/\Hid (Rs.Good r)/\Hid (hTerm r (t.drop k)=R)) (fun _ i _=>n-(intOf i).toNat)
 case atStart=>exact⟨0,none,0,0,[],Nat.zero_le _,rfl,rfl,aj,gj,an.out⟩
 case round =>
  clear aj
  obtain⟨k,C,m,d,r,hk,rfl,rfl,HW,HG,HH⟩:=hrel
  by_cases ao:k<n
  ·have ae:k<t.length:=by rw[HN.out];exact ao
   obtain⟨ad,C1,n1,d1,rfl,_,c0,ac,aa⟩:=fH (kk HR.out HW.out.2.1) k ae
   have hd:t.drop k=t[k] :: t.drop (k+1):=List.drop_eq_getElem_cons ae
   have af:=HV.out _ (List.getElem_mem ae)
   obtain⟨l,am⟩:=ex (t[k])
   rw[am] at hd ac aa af
   have hh:=HH.out
   rw[hd,ko] at hh
   obtain⟨x,hx⟩:=ex (hAlt allR l)
   have ak:Hid (Rs.Good x.2):=by show Rs.Good _;rw[<-hx];exact im l _ goodAll
   rw[hx] at hh
   have HX:=zh hx
   have al:=zh hh
   have ap:=zh ac
   have ag:=zh aa
   have aq:n1<=100000:=by rw[<-ac];exact af
   clear hd am hh hx HH ac aa af
   go_wp2_with fail
   refine (oO HW.out C1 n1 d1 l ap.out ag.out aq).mono ?_
   rw[HX.out]
   rintro e u2 ⟨hy,ai⟩
   by_cases h0:x.1=0
   ·obtain⟨C2,n2,d2,rfl,hs⟩:=hy h0
    have ab:=zh hs
    have H0:=zh h0
    clear hs hy ai c0 h0
    go_wp2_with fail
    refine (s_or ab.out 1 0 rfl rfl HG.out ak.out _ _ _ rfl).mono ?_
    rintro _ u4 ⟨C4,n4,d4,rfl,hs⟩
    have ar:Hid (St w u4 [⟨C4,n4,(orR r x.2).map spOf⟩]):=kp (kp hs)
    have au:Hid (Rs.Good (orR r x.2)):=goodO HG.out ak.out
    have av:Hid (hTerm (orR r x.2) (t.drop (k+1))=R):=by show _=_;have h:=al.out;rwa [if_pos H0.out] at h
    clear hs ab
    go_wp2_with fail
    go_roundw
    case rel=>exact⟨k+1,C4,n4,d4,orR r x.2,by omega,by go_num,rfl,ar,au,av⟩
    case measure=>simp[intOf];omega
   ·obtain⟨rfl,hs⟩:=ai h0
    have ah:Hid (R=(x.1,[])):=by show _=_;have h:=al.out;rw[if_neg h0] at h;exact h.symm
    have ab:=zh hs
    have H0:=zh h0
    clear hs hy ai c0 h0
    go_wp2_with fail
    rw[ah.out]
    exact⟨rfl,fun h=>absurd h H0.out,fun _=>⟨rfl,eh HS.out ab.out.2.1⟩⟩
  ·obtain rfl:k=n:=by omega
   have ah:Hid (R=(0,r)):=by show _=_;rw[<-HH.out,List.drop_eq_nil_of_le (by rw[HN.out];exact Nat.le_refl _)];rfl
   go_wp2_with fail
   go_ret
   rw[ah.out]
   exact⟨fun _=>⟨C,m,d,rfl,kh HS.out HW.out.2.1 (a7 HW.out 0 rfl).1 (a7 HW.out 0 rfl).2⟩,fun h=>absurd rfl h⟩
def Bx2 (b:Nat) (name:List UInt8) (A:Option Addr) (n c:Nat) (u:World):Prop:=u.cell? ⟨b,0,none⟩=some (.string ⟨name.toArray⟩)/\u.cell? ⟨b,1,none⟩=some (.slice A n c)
theorem mA {b B:Nat}{name:List UInt8}{A:Option Addr}{n c:Nat}{u u':World}(h:Bx2 b name A n c u)(hb:b<B)(hbl:Below B u u'):Bx2 b name A n c u':=by
 obtain⟨h0,h1⟩:=h
 refine⟨?_,?_⟩
 ·rw[hbl.cell hb];exact h0
 ·rw[hbl.cell hb];exact h1
theorem rK (w:World)(name:List UInt8)(A:Option Addr)(n c:Nat)(T:TypeId):Bx2 w.heap.size name A n c (w.alloc (.cells #[.string ⟨name.toArray⟩,.slice A n c] T)):=by
 refine⟨?_,?_⟩ <;> rw[World.cell?_alloc_mark] <;> rfl
theorem uO (s:Sp):(conds s).length<=2:=by
 unfold conds
 split
 ·show 1<=2;decide
 ·have h1:∀ (p:Prop) [Decidable p] (c:Cond),(if p then [] else [c]).length<=1:=fun p _ c=>by split <;> simp
  have a1:=h1 (s.lo=[]) (if s.li then [62,61] else [62],s.lo)
  have a2:=h1 (s.hi=[]) (if s.hn then [60,61] else [60],s.hi)
  rw[List.length_append];omega
theorem rL:∀ l:List Sp,vers (termOf l)<=l.length*2
 | []=>by decide
 | s :: l=>by
  have h1:=rL l
  have h2:=uO s
  have e:vers (termOf (s :: l))=(conds s).length+vers (termOf l):=rfl
  rw[e,List.length_cons];omega
theorem kr (name:List UInt8)(A:Option Addr)(n c:Nat)(l:List Sp)(w:World)(hw:MaxOk w)(hm:name.length<=maxLen)(hn:l.length=n)(hr:SRow w A l)(hl:n<=1000) :
  Calls Tryz.prog 253 #[.agg #[.string ⟨name.toArray⟩,.slice A n c]] w fun e w'=>e=dy (checkA ⟨name,l⟩)/\Below w.heap.size w w':=by
 obtain⟨K,hK⟩:=ex (checkA ⟨name,l⟩)
 rw[hK]
 have al:Hid (nameB name=false->K=3):=fun h=>by rw[<-hK];unfold checkA;rw[if_neg (by rw[h];decide)]
 have ae:Hid (nameB name=true->checkR l≠0->K=checkR l):=fun h h2=>by rw[<-hK];unfold checkA;rw[if_pos h,if_neg h2]
 have af:Hid (nameB name=true->checkR l=0->K=if 16<vers (termOf l) then 4 else 0):=fun h h2=>by rw[<-hK];unfold checkA;rw[if_pos h,if_pos h2]
 obtain⟨b,hb⟩:=ex w.heap.size
 obtain⟨W1,aj⟩:=ex (w.alloc (.cells #[.string ⟨name.toArray⟩,.slice A n c] 51))
 have av:Hid (Bx2 b name A n c W1):=by rw[<-aj,<-hb];exact rK w name A n c _
 have am:Hid (Below w.heap.size w W1):=by rw[<-aj];exact (Below.refl _ _).alloc (Nat.le_refl _) _
 have an:Hid (St w W1 [⟨A,n,l⟩]):=⟨hw,am.out,fun x hx=>by rw[List.mem_singleton.1 hx];exact⟨aL hr am.out,hn⟩⟩
 have aw:b<W1.heap.size:=by rw[<-aj,<-hb];simp
 have aB:=zh hm
 have HN:=zh hn
 clear hw hr hK hm hn
 obtain⟨k0,k1⟩:=av.out
 obtain⟨nb,ar⟩:=ex (nameB name)
 obtain⟨cr,au⟩:=ex (checkR l)
 rw[ar] at al ae af
 rw[au] at ae af
 have aC:=zh ar
 have aD:=zh au
 clear ar au
 go_enter Tryz.func253,Tryz.ntmps253
 go_wp2_with fail
 clear hb aj
 refine (ig name _ aB.out).mono ?_
 rintro _ u1 ⟨rfl,rfl⟩
 rw[aC.out]
 cases nb
 ·have HK:=zh (al.out rfl)
  go_wp2_with fail
  refine (ai _).mono ?_
  rintro _ u2 ⟨rfl,rfl⟩
  go_wp2_with fail
  exact⟨rfl,by rw[HK.out];rfl,am.out⟩
 ·have aa:=zh (ae.out rfl)
  have ab:=zh (af.out rfl)
  clear ae af al
  go_wp2_with fail
  refine (ah _).mono ?_
  rintro _ u2 ⟨rfl,rfl⟩
  go_wp2_with fail
  refine (sW A n c l _ (eD an.out) HN.out (a7 an.out 0 rfl).1 hl).mono ?_
  rintro _ u3 ⟨rfl,ak⟩
  rw[aD.out]
  have ao:=zh (eh an.out ak)
  have aE:=zh (mA av.out aw ak)
  have aG:b<u3.heap.size:=Nat.lt_of_lt_of_le aw ak.size
  clear ak k0 k1
  obtain⟨k0,k1⟩:=aE.out
  by_cases ac:cr=0
  ·subst ac
   have HK:=zh (ab.out rfl)
   have ax:vers (termOf l)<=2000:=by have:=rL l;have:=HN.out;omega
   have ay:=zh ax
   clear ax
   go_wp2_with fail
   refine (ah _).mono ?_
   rintro _ u4 ⟨rfl,rfl⟩
   go_wp2_with fail
   refine (km A n c l _ HN.out (a7 ao.out 0 rfl).1 hl).mono ?_
   rintro _ u5 ⟨C,m,d,rfl,hm,ad,aA⟩
   have HM:=zh hm
   have ap:=zh ad
   have az:=zh (eh ao.out aA)
   clear hm ad aA
   have aH:m<=1000:=by rw[<-HM.out];show (l.map conds).length<=1000;rw[List.length_map,HN.out];exact hl
   obtain⟨x,hx⟩:=ex (vers (termOf l))
   rw[hx] at HK ay
   have HX:=zh hx
   clear hx
   go_wp2_with fail
   refine (il C m d (termOf l) _ HM.out ap.out (by omega) (by rw[HX.out];have:=ay.out;omega)).mono ?_
   rintro _ u6 ⟨rfl,rfl⟩
   rw[HX.out]
   by_cases ag:16<x
   ·have d0:decide ((x:Int)<=16)=false:=decide_eq_false (by omega)
    have aq:Hid (K=4):=by show _=_;rw[HK.out,if_pos ag]
    clear ag
    go_wp2_with fail
    refine (ai _).mono ?_
    rintro _ u7 ⟨rfl,rfl⟩
    go_wp2_with fail
    exact⟨rfl,by rw[aq.out];rfl,az.out.2.1⟩
   ·have d0:decide ((x:Int)<=16)=true:=decide_eq_true (by omega)
    have aq:Hid (K=0):=by show _=_;rw[HK.out,if_neg ag]
    clear ag
    go_wp2_with fail
    refine (ah _).mono ?_
    rintro _ u7 ⟨rfl,rfl⟩
    go_wp2_with fail
    go_end0
    exact⟨by rw[aq.out];rfl,az.out.2.1⟩
  ·have HK:=zh (aa.out ac)
   clear aa ab
   have aI:(cr==0)=false:=by simpa using ac
   have aF:=zh ac
   clear ac
   go_wp2_with fail
   refine (ai _).mono ?_
   rintro _ u4 ⟨rfl,rfl⟩
   go_wp2_with fail
   exact⟨rfl,by rw[HK.out,bZ aF.out],ao.out.2.1⟩
end
section
open Go.RowKit Rs At
theorem cD (p:Addr)(x:Int)(n:Int)(w:World)(hc:w.cell? p=some (.int .i64 x))(hz:w.frozen? p=false) :
  CallsD Tryz.prog 294 #[.pointer (some p)] (.panicking [{ v:=.iface 77 (.int .i64 n),recovered:=false }]) w fun e u' w' =>
   e=.returned (.tuple #[])/\u'=.panicking [{ v:=.iface 77 (.int .i64 n),recovered:=true }]/\w'=w.setCell p (.int .i64 n):=by
 refine callsD_of_wpS Tryz.func294 rfl fun c₀ cs hu=>?_
 apply wpS_region
 simp[wpOpsS,go_sem,recoverD,hu,Tryz.ntmps294]
 refine (db n _).mono ?_
 rintro e w' ⟨rfl,rfl⟩
 simp[go_sem,hc,hz,bodyPostS,results,Tryz.results294]
theorem qL (p:Addr)(x:Int)(w:World)(hc:w.cell? p=some (.int .i64 x))(hz:w.frozen? p=false) :
  CallsD Tryz.prog 294 #[.pointer (some p)] .returning w fun e u' w'=>e=.returned (.tuple #[])/\u'=.returning/\w'=w.setCell p (.int .i64 0):=by
 refine callsD_of_wpS Tryz.func294 rfl fun c₀ cs hu=>?_
 apply wpS_region
 simp[wpOpsS,go_sem,recoverD,hu,Tryz.ntmps294]
 refine (da _).mono ?_
 rintro e w' ⟨rfl,rfl⟩
 cases c₀
 simp_all [go_sem,bodyPostS,results,Tryz.results294]
end
end Go.Proofs.YtgnaiidgjmicaaaGreatDoor
