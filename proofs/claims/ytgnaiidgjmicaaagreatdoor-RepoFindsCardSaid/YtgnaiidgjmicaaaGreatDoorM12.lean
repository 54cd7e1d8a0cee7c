/- Part 12 of what the laws lean on. -/
import Derived.Test.YtgnaiidgjmicaaaGreatDoorM11
set_option maxRecDepth 100000
set_option maxHeartbeats 6400000
namespace Go.Proofs.YtgnaiidgjmicaaaGreatDoor
section
open Go.RowKit Rs At
attribute [local go_sem ↓] Go.wp_at_zero Go.wp_at_succ
theorem fu (s:List UInt8)(b:Bool)(r:List UInt8)(w:World)(hs:s.length<=10)(hr:(if b then s++[61] else s)=r) :
  Calls Tryz.prog 255 #[.string ⟨s.toArray⟩,.bool b] w fun e w'=>e=.returned (.string ⟨r.toArray⟩)/\w=w':=by
 subst hr;exact zg s b w hs
theorem newsD (w:World)(c:Cond)(T:TypeId):∀ j u,(Rg.flat encD [c])[j]?=some u->(w.alloc (.cells #[.string ⟨c.1.toArray⟩,.string ⟨c.2.toArray⟩] T)).cell? ((⟨w.heap.size,0,none⟩:Addr).add j)=some u :=
 Rg.az w T _ _ (by rfl)
theorem acK (w:World)(T:TypeId)(l:List Cond)(cs:Array Value)(h:cs.toList=Rg.flat encD l):DRow (w.alloc (.cells cs T)) (some ⟨w.heap.size,0,none⟩) l:=fun _=>by
 refine⟨_,rfl,by simp,fun i hi j v hv=>?_⟩
 have hj:j<2:=(List.getElem?_eq_some_iff.1 hv).1
 rw[<-Rg.lF]
 exact Rg.az w T l cs h _ _ ((Rg.flat_get fitsD l i hi j hj).trans hv)
def Bx4 (b:Nat) (lo hi:List UInt8) (li hn:Bool) (u:World):Prop:=u.cell? ⟨b,0,none⟩=some (.string ⟨lo.toArray⟩)/\u.cell? ⟨b,1,none⟩=some (.string ⟨hi.toArray⟩)/\u.cell? ⟨b,2,none⟩=some (.bool li)/\u.cell? ⟨b,3,none⟩=some (.bool hn)
theorem bm {b B:Nat}{lo hi:List UInt8}{li hn:Bool}{u u':World}(h:Bx4 b lo hi li hn u)(hb:b<B)(hbl:Below B u u'):Bx4 b lo hi li hn u':=by
 obtain⟨h0,h1,h2,h3⟩:=h
 refine⟨?_,?_,?_,?_⟩
 ·rw[hbl.cell hb];exact h0
 ·rw[hbl.cell hb];exact h1
 ·rw[hbl.cell hb];exact h2
 ·rw[hbl.cell hb];exact h3
theorem aev (w:World)(lo hi:List UInt8)(li hn:Bool)(T:TypeId):Bx4 w.heap.size lo hi li hn (w.alloc (.cells #[.string ⟨lo.toArray⟩,.string ⟨hi.toArray⟩,.bool li,.bool hn] T)):=by
 refine⟨?_,?_,?_,?_⟩ <;> rw[World.cell?_alloc_mark] <;> rfl
theorem acL {lo hi:List UInt8}{li hn:Bool}(h1:(lo==hi)=true)(h2:lo.isEmpty=false):conds ⟨lo,hi,li,hn⟩=[([61],lo)]:=by
 unfold conds
 rw[if_pos ⟨by simpa using h1,by intro e;dsimp only at e;subst e;cases h2⟩]
theorem mN {lo hi:List UInt8}{li hn:Bool}(h1:(lo==hi)=false\/lo.isEmpty=true):conds ⟨lo,hi,li,hn⟩=(if lo.isEmpty then [] else [(if li then [62,61] else [62],lo)])++(if hi.isEmpty then [] else [(if hn then [60,61] else [60],hi)]):=by
 unfold conds
 rw[if_neg (by
  rintro⟨e1,e2⟩
  dsimp only at e1 e2
  rcases h1 with h1 | h1
  ·rw[e1] at h1;simp at h1
  ·exact e2 (List.isEmpty_iff.1 h1))]
 dsimp only
 congr 1
 ·cases lo <;> rfl
 ·cases hi <;> rfl
theorem mO (lo hi:List UInt8)(li hn:Bool)(w:World) :
  Calls Tryz.prog 218 #[.agg #[.string ⟨lo.toArray⟩,.string ⟨hi.toArray⟩,.bool li,.bool hn]] w (CondsRet w (conds ⟨lo,hi,li,hn⟩)):=by
 obtain⟨R,hR⟩:=ex (conds ⟨lo,hi,li,hn⟩)
 rw[hR]
 obtain⟨b,hb⟩:=ex w.heap.size
 obtain⟨W1,ak⟩:=ex (w.alloc (.cells #[.string ⟨lo.toArray⟩,.string ⟨hi.toArray⟩,.bool li,.bool hn] 145))
 have af:Hid (Bx4 b lo hi li hn W1):=by rw[<-ak,<-hb];exact aev w lo hi li hn _
 have ab:Hid (Below w.heap.size w W1):=by rw[<-ak];exact (Below.refl _ _).alloc (Nat.le_refl _) _
 have ag:b<W1.heap.size:=by rw[<-ak,<-hb];simp
 obtain⟨k0,k1,k2,k3⟩:=af.out
 cases he:lo==hi <;> cases hle:lo.isEmpty
 case true.false =>
  have HR:Hid (R=[([61],lo)]):=by rw[<-hR];exact acL he hle
  clear hR
  go_enter Tryz.func218,Tryz.ntmps218
  go_wp2_with fail
  skip
  clear hb ak
  go_wp2_with fail
  go_ret
  rw[HR.out]
  refine⟨_,_,_,rfl,rfl,?_,fun a ha=>by cases ha;exact ab.out.size,ab.out.alloc ab.out.size _⟩
  exact acK W1 _ _ _ (by rfl)
 case false.false =>
  obtain⟨sg,ac⟩:∃ s:List UInt8,(if li then [62,61] else [62])=s:=⟨_,rfl⟩
  obtain⟨sh,ad⟩:∃ s:List UInt8,(if hn then [60,61] else [60])=s:=⟨_,rfl⟩
  have HR:Hid (R=(if lo.isEmpty then [] else [(if li then [62,61] else [62],lo)])++(if hi.isEmpty then [] else [(if hn then [60,61] else [60],hi)])):=by rw[<-hR];exact mN (Or.inl he)
  have aA:Hid ((if li then [62]++[61] else [62])=sg):=ac
  have av:Hid ((if hn then [60]++[61] else [60])=sh):=ad
  clear hR
  cases al:hi.isEmpty
  ·have ah:Hid (R=([(sg,lo)]++[(sh,hi)])):=by show _=_;rw[HR.out,hle,al,ac,ad];rfl
   clear ac ad HR
   go_enter Tryz.func218,Tryz.ntmps218
   go_wp2_with fail
   clear hb ak
   have HX:=af
   have HO:Hid (DOwn W1 W1.heap.size (.slice none 0 0) []):=Rg.aB _ _ _
   have aa:Hid (Below W1.heap.size W1 W1/\W1.heap.size<=W1.heap.size):=⟨Below.refl _ _,Nat.le_refl _⟩
   have ae:b<W1.heap.size:=ag
   go_wp2_with fail
   go_region_held3 (fun w'=>w'.cell? ⟨b,0,none⟩=some (.string ⟨lo.toArray⟩)/\w'.cell? ⟨b,1,none⟩=some (.string ⟨hi.toArray⟩)/\w'.cell? ⟨b,2,none⟩=some (.bool li)/\w'.cell? ⟨b,3,none⟩=some (.bool hn))
    (first
     | exact bm HX.out ae (Below.refl _ _).drew
     | exact bm HX.out ae ((Below.refl _ _).drew.alloc (Nat.le_refl _) _)
     | exact ar.out)
    (first
     | (go_at_call 255;refine (fu [62] li sg _ (by decide) aA.out).mono ?_;rintro _ w' ⟨rfl,rfl⟩)
     | (refine Rg.cH sliceD (by rfl) (.tmp 21) (.tmp 28) (by rfl) W1.heap.size (.slice none 0 0) [] [(sg,lo)] (by rfl) (Rg.own_below HO.out ((Below.refl _ _).drew.alloc (Nat.le_refl _) _)) _ _ (by rfl) (newsD _ (sg,lo) _) (Nat.zero_lt_succ _) (by simp) (gm aa) ?_;intro v5 W5 ax ay aC;have am:=ej aa HO ay;have ar:=zh (bm af.out ag am.out.1)))
   have aw:=zh ax
   clear ax ay aC HO aa HX
   obtain⟨k0,k1,k2,k3⟩:=ar.out
   have HX:=ar
   have HO:=aw
   have aa:=am
   have ae:b<W5.heap.size:=Nat.lt_of_lt_of_le ag am.out.2
   clear ar aw am
   go_wp2_with fail
   go_region_held3 (fun w'=>w'.cell? ⟨b,0,none⟩=some (.string ⟨lo.toArray⟩)/\w'.cell? ⟨b,1,none⟩=some (.string ⟨hi.toArray⟩)/\w'.cell? ⟨b,2,none⟩=some (.bool li)/\w'.cell? ⟨b,3,none⟩=some (.bool hn))
    (first
     | exact bm HX.out ae (Below.refl _ _).drew
     | exact bm HX.out ae ((Below.refl _ _).drew.alloc (Nat.le_refl _) _)
     | exact an.out)
    (first
     | (go_at_call 255;refine (fu [60] hn sh _ (by decide) av.out).mono ?_;rintro _ w' ⟨rfl,rfl⟩)
     | (refine Rg.cH sliceD (by rfl) (.tmp 33) (.tmp 40) (by rfl) W1.heap.size v5 ([]++[(sg,lo)]) [(sh,hi)] (by rfl) (Rg.own_below HO.out ((Below.refl _ _).drew.alloc (Nat.le_refl _) _)) _ _ (by rfl) (newsD _ (sh,hi) _) (Nat.zero_lt_succ _) (by simp) (gm aa) ?_;intro v6 W6 ap aq az;have ai:=ej aa HO aq;have an:=zh (bm af.out ag ai.out.1)))
   have ao:=zh ap
   clear ap aq az HO aa HX
   obtain⟨k0,k1,k2,k3⟩:=an.out
   have aj:Hid (DOwn W6 W1.heap.size v6 R):=by show DOwn _ _ _ _;rw[ah.out];exact ao.out
   have au:=ai
   clear ao ai
   obtain⟨C,d,rfl,h1,h2⟩:=gJ aj.out
   have H1:=zh h1
   have H2:=zh h2
   clear h1 h2 aj
   go_wp2_with fail
   go_ret
   refine⟨C,_,d,rfl,rfl,?_,fun a ha=>?_,?_⟩
   ·exact H1.out
   ·have:=H2.out a ha;have:=ab.out.size;omega
   ·exact ab.out.trans (au.out.1.mono ab.out.size)
  ·have ah:Hid (R=([(sg,lo)]++[])):=by show _=_;rw[HR.out,hle,al,ac,ad];rfl
   clear ac ad HR
   go_enter Tryz.func218,Tryz.ntmps218
   go_wp2_with fail
   clear hb ak
   have HX:=af
   have HO:Hid (DOwn W1 W1.heap.size (.slice none 0 0) []):=Rg.aB _ _ _
   have aa:Hid (Below W1.heap.size W1 W1/\W1.heap.size<=W1.heap.size):=⟨Below.refl _ _,Nat.le_refl _⟩
   have ae:b<W1.heap.size:=ag
   go_wp2_with fail
   go_region_held3 (fun w'=>w'.cell? ⟨b,0,none⟩=some (.string ⟨lo.toArray⟩)/\w'.cell? ⟨b,1,none⟩=some (.string ⟨hi.toArray⟩)/\w'.cell? ⟨b,2,none⟩=some (.bool li)/\w'.cell? ⟨b,3,none⟩=some (.bool hn))
    (first
     | exact bm HX.out ae (Below.refl _ _).drew
     | exact bm HX.out ae ((Below.refl _ _).drew.alloc (Nat.le_refl _) _)
     | exact ar.out)
    (first
     | (go_at_call 255;refine (fu [62] li sg _ (by decide) aA.out).mono ?_;rintro _ w' ⟨rfl,rfl⟩)
     | (refine Rg.cH sliceD (by rfl) (.tmp 21) (.tmp 28) (by rfl) W1.heap.size (.slice none 0 0) [] [(sg,lo)] (by rfl) (Rg.own_below HO.out ((Below.refl _ _).drew.alloc (Nat.le_refl _) _)) _ _ (by rfl) (newsD _ (sg,lo) _) (Nat.zero_lt_succ _) (by simp) (gm aa) ?_;intro v5 W5 ax ay aC;have am:=ej aa HO ay;have ar:=zh (bm af.out ag am.out.1)))
   have aw:=zh ax
   clear ax ay aC HO aa HX
   obtain⟨k0,k1,k2,k3⟩:=ar.out
   have aj:Hid (DOwn W5 W1.heap.size v5 R):=by show DOwn _ _ _ _;rw[ah.out];exact aw.out
   have au:=am
   clear aw am
   obtain⟨C,d,rfl,h1,h2⟩:=gJ aj.out
   have H1:=zh h1
   have H2:=zh h2
   clear h1 h2 aj
   go_wp2_with fail
   go_ret
   refine⟨C,_,d,rfl,rfl,?_,fun a ha=>?_,?_⟩
   ·exact H1.out
   ·have:=H2.out a ha;have:=ab.out.size;omega
   ·exact ab.out.trans (au.out.1.mono ab.out.size)
 case false.true =>
  obtain⟨sg,ac⟩:∃ s:List UInt8,(if li then [62,61] else [62])=s:=⟨_,rfl⟩
  obtain⟨sh,ad⟩:∃ s:List UInt8,(if hn then [60,61] else [60])=s:=⟨_,rfl⟩
  have HR:Hid (R=(if lo.isEmpty then [] else [(if li then [62,61] else [62],lo)])++(if hi.isEmpty then [] else [(if hn then [60,61] else [60],hi)])):=by rw[<-hR];exact mN (Or.inl he)
  have aA:Hid ((if li then [62]++[61] else [62])=sg):=ac
  have av:Hid ((if hn then [60]++[61] else [60])=sh):=ad
  clear hR
  cases al:hi.isEmpty
  ·have ah:Hid (R=([]++[(sh,hi)])):=by show _=_;rw[HR.out,hle,al,ac,ad];rfl
   clear ac ad HR
   go_enter Tryz.func218,Tryz.ntmps218
   go_wp2_with fail
   clear hb ak
   have HX:=af
   have HO:Hid (DOwn W1 W1.heap.size (.slice none 0 0) []):=Rg.aB _ _ _
   have aa:Hid (Below W1.heap.size W1 W1/\W1.heap.size<=W1.heap.size):=⟨Below.refl _ _,Nat.le_refl _⟩
   have ae:b<W1.heap.size:=ag
   go_wp2_with fail
   go_region_held3 (fun w'=>w'.cell? ⟨b,0,none⟩=some (.string ⟨lo.toArray⟩)/\w'.cell? ⟨b,1,none⟩=some (.string ⟨hi.toArray⟩)/\w'.cell? ⟨b,2,none⟩=some (.bool li)/\w'.cell? ⟨b,3,none⟩=some (.bool hn))
    (first
     | exact bm HX.out ae (Below.refl _ _).drew
     | exact bm HX.out ae ((Below.refl _ _).drew.alloc (Nat.le_refl _) _)
     | exact an.out)
    (first
     | (go_at_call 255;refine (fu [60] hn sh _ (by decide) av.out).mono ?_;rintro _ w' ⟨rfl,rfl⟩)
     | (refine Rg.cH sliceD (by rfl) (.tmp 33) (.tmp 40) (by rfl) W1.heap.size (.slice none 0 0) [] [(sh,hi)] (by rfl) (Rg.own_below HO.out ((Below.refl _ _).drew.alloc (Nat.le_refl _) _)) _ _ (by rfl) (newsD _ (sh,hi) _) (Nat.zero_lt_succ _) (by simp) (gm aa) ?_;intro v6 W6 ap aq az;have ai:=ej aa HO aq;have an:=zh (bm af.out ag ai.out.1)))
   have ao:=zh ap
   clear ap aq az HO aa HX
   obtain⟨k0,k1,k2,k3⟩:=an.out
   have aj:Hid (DOwn W6 W1.heap.size v6 R):=by show DOwn _ _ _ _;rw[ah.out];exact ao.out
   have au:=ai
   clear ao ai
   obtain⟨C,d,rfl,h1,h2⟩:=gJ aj.out
   have H1:=zh h1
   have H2:=zh h2
   clear h1 h2 aj
   go_wp2_with fail
   go_ret
   refine⟨C,_,d,rfl,rfl,?_,fun a ha=>?_,?_⟩
   ·exact H1.out
   ·have:=H2.out a ha;have:=ab.out.size;omega
   ·exact ab.out.trans (au.out.1.mono ab.out.size)
  ·have ah:Hid (R=([]++[])):=by show _=_;rw[HR.out,hle,al,ac,ad];rfl
   clear ac ad HR
   go_enter Tryz.func218,Tryz.ntmps218
   go_wp2_with fail
   clear hb ak
   have HX:=af
   have HO:Hid (DOwn W1 W1.heap.size (.slice none 0 0) []):=Rg.aB _ _ _
   have aa:Hid (Below W1.heap.size W1 W1/\W1.heap.size<=W1.heap.size):=⟨Below.refl _ _,Nat.le_refl _⟩
   have ae:b<W1.heap.size:=ag
   go_wp2_with fail
   go_ret
   rw[ah.out]
   exact⟨none,0,0,rfl,rfl,Rg.xo _ _,fun a ha=>(by cases ha),ab.out⟩
 case true.true =>
  obtain⟨sg,ac⟩:∃ s:List UInt8,(if li then [62,61] else [62])=s:=⟨_,rfl⟩
  obtain⟨sh,ad⟩:∃ s:List UInt8,(if hn then [60,61] else [60])=s:=⟨_,rfl⟩
  have HR:Hid (R=(if lo.isEmpty then [] else [(if li then [62,61] else [62],lo)])++(if hi.isEmpty then [] else [(if hn then [60,61] else [60],hi)])):=by rw[<-hR];exact mN (Or.inr hle)
  have aA:Hid ((if li then [62]++[61] else [62])=sg):=ac
  have av:Hid ((if hn then [60]++[61] else [60])=sh):=ad
  clear hR
  cases al:hi.isEmpty
  ·have ah:Hid (R=([]++[(sh,hi)])):=by show _=_;rw[HR.out,hle,al,ac,ad];rfl
   clear ac ad HR
   go_enter Tryz.func218,Tryz.ntmps218
   go_wp2_with fail
   clear hb ak
   have HX:=af
   have HO:Hid (DOwn W1 W1.heap.size (.slice none 0 0) []):=Rg.aB _ _ _
   have aa:Hid (Below W1.heap.size W1 W1/\W1.heap.size<=W1.heap.size):=⟨Below.refl _ _,Nat.le_refl _⟩
   have ae:b<W1.heap.size:=ag
   go_wp2_with fail
   go_region_held3 (fun w'=>w'.cell? ⟨b,0,none⟩=some (.string ⟨lo.toArray⟩)/\w'.cell? ⟨b,1,none⟩=some (.string ⟨hi.toArray⟩)/\w'.cell? ⟨b,2,none⟩=some (.bool li)/\w'.cell? ⟨b,3,none⟩=some (.bool hn))
    (first
     | exact bm HX.out ae (Below.refl _ _).drew
     | exact bm HX.out ae ((Below.refl _ _).drew.alloc (Nat.le_refl _) _)
     | exact an.out)
    (first
     | (go_at_call 255;refine (fu [60] hn sh _ (by decide) av.out).mono ?_;rintro _ w' ⟨rfl,rfl⟩)
     | (refine Rg.cH sliceD (by rfl) (.tmp 33) (.tmp 40) (by rfl) W1.heap.size (.slice none 0 0) [] [(sh,hi)] (by rfl) (Rg.own_below HO.out ((Below.refl _ _).drew.alloc (Nat.le_refl _) _)) _ _ (by rfl) (newsD _ (sh,hi) _) (Nat.zero_lt_succ _) (by simp) (gm aa) ?_;intro v6 W6 ap aq az;have ai:=ej aa HO aq;have an:=zh (bm af.out ag ai.out.1)))
   have ao:=zh ap
   clear ap aq az HO aa HX
   obtain⟨k0,k1,k2,k3⟩:=an.out
   have aj:Hid (DOwn W6 W1.heap.size v6 R):=by show DOwn _ _ _ _;rw[ah.out];exact ao.out
   have au:=ai
   clear ao ai
   obtain⟨C,d,rfl,h1,h2⟩:=gJ aj.out
   have H1:=zh h1
   have H2:=zh h2
   clear h1 h2 aj
   go_wp2_with fail
   go_ret
   refine⟨C,_,d,rfl,rfl,?_,fun a ha=>?_,?_⟩
   ·exact H1.out
   ·have:=H2.out a ha;have:=ab.out.size;omega
   ·exact ab.out.trans (au.out.1.mono ab.out.size)
  ·have ah:Hid (R=([]++[])):=by show _=_;rw[HR.out,hle,al,ac,ad];rfl
   clear ac ad HR
   go_enter Tryz.func218,Tryz.ntmps218
   go_wp2_with fail
   clear hb ak
   have HX:=af
   have HO:Hid (DOwn W1 W1.heap.size (.slice none 0 0) []):=Rg.aB _ _ _
   have aa:Hid (Below W1.heap.size W1 W1/\W1.heap.size<=W1.heap.size):=⟨Below.refl _ _,Nat.le_refl _⟩
   have ae:b<W1.heap.size:=ag
   go_wp2_with fail
   go_ret
   rw[ah.out]
   exact⟨none,0,0,rfl,rfl,Rg.xo _ _,fun a ha=>(by cases ha),ab.out⟩
end
section
open Go.RowKit Rs At
theorem tfresh {w:World}{B:Nat}{v:Value}{t:List (List Cond)}{C:Option Addr}{M:Nat}(h:TOwn w B v t)(hM:w.heap.size<=M)(hC:∀ a,C=some a->M<=a.block)(P:Prop):P->∀ a,C=some a->v.ownBlock≠some a.block:=fun _ a ha e=>by
 obtain⟨ds,h1,_,_⟩:=h
 have:=(Rg.bw h1 a.block e).2
 have:=hC a ha
 omega
theorem aaF (l:List Sp)(k:Nat)(hk:k<l.length)(s:Sp)(hs:l[k]=s):(l.take (k+1)).map conds=(l.take k).map conds++[conds s]:=by
 rw[List.take_succ_eq_append_getElem hk,List.map_append,hs];rfl
theorem jN (A:Option Addr)(n c:Nat)(l:List Sp)(w:World)(hn:l.length=n)(hr:SRow w A l)(hl:n<=1000) :
  Calls Tryz.prog 191 #[.slice A n c] w (TermRet w (termOf l)):=by
 have HR:=zh hr
 have HN:=zh hn
 clear hr hn
 go_enter Tryz.func191,Tryz.ntmps191
 go_wp2_with fail
 go_loopw [3,8] (fun v i wr=>∃ k:Nat,k<=n/\i=.int .i64 k/\Hid (TOwn wr w.heap.size v ((l.take k).map conds))/\Hid (Below w.heap.size w wr/\w.heap.size<=wr.heap.size)) (fun _ i _=>n-(intOf i).toNat)
 case atStart=>exact⟨0,Nat.zero_le _,rfl,tH _ _,Below.refl _ _,Nat.le_refl _⟩
 case round =>
  obtain⟨k,hk,rfl,HT,HB⟩:=hrel
  by_cases al:k<n
  ·have ae:k<l.length:=by rw[HN.out];exact al
   obtain⟨ad,lo,hi,li,hh,rfl,hs,_,c0,c1,c2,c3⟩:=bM (ao HR.out HB.out.1) k ae
   have HS:=zh (aaF l k ae _ hs)
   have af:((l.take k).map conds).length+1<=1000000:=by rw[List.length_map,List.length_take];omega
   have ag:=zh af
   obtain⟨tk,ah⟩:=ex ((l.take k).map conds)
   rw[ah] at HS ag HT
   clear hs af ah
   go_wp2_with fail
   refine (mO lo hi li hh _).mono ?_
   rintro _ u2 ⟨C,m,d,rfl,hm,ac,hf,hb⟩
   have HM:=zh hm
   have aa:=zh ac
   have ab:Hid (Below wr.heap.size wr u2):=((Below.refl _ _).alloc (Nat.le_refl _) _).trans (hb.mono (by simp))
   have HF:Hid (∀ a,C=some a->wr.heap.size<=a.block):=fun a ha=>by have:=hf a ha;simp at this;omega
   clear hm ac hf hb c0 c1 c2 c3
   go_wp2_with (at_builtin;refine mi rfl (.tmp 12) (.tmp 15) rfl w.heap.size _ tk (conds ⟨lo,hi,li,hh⟩) C m d rfl rfl (nT HT.out ab.out) HM.out aa.out (tfresh HT.out (Nat.le_refl _) HF.out _) ag.out (Nat.le_trans HB.out.2 ab.out.size) ?_)
   intro v5 W5 ai aj ak
   have am:Hid (TOwn W5 w.heap.size v5 ((l.take (k+1)).map conds)):=by show TOwn _ _ _ _;rw[HS.out];exact ai
   have an:Hid (Below w.heap.size w W5/\w.heap.size<=W5.heap.size):=⟨(HB.out.1.trans (ab.out.mono HB.out.2)).trans aj,Nat.le_trans (Nat.le_trans HB.out.2 ab.out.size) ak⟩
   clear ai aj ak aa HF HM ab
   go_wp2_with fail
   go_roundw
   case rel=>exact⟨k+1,by omega,by go_num,am,an⟩
   case measure=>simp[intOf];omega
  ·obtain rfl:k=n:=by omega
   have hT:TOwn wr w.heap.size u3 (termOf l):=by
    have:=HT.out
    rw[List.take_of_length_le (by rw[HN.out];exact Nat.le_refl _)] at this
    exact this
   obtain⟨C,d,rfl,h1⟩:=tI hT
   have H1:=zh h1
   clear h1 hT HT
   go_wp2_with fail
   go_ret
   exact⟨C,_,d,rfl,rfl,H1.out,HB.out.1⟩
theorem aaG (t:List (List Cond))(k:Nat)(hk:k<t.length):vers (t.take (k+1))=vers (t.take k)+t[k].length:=by
 unfold vers
 rw[List.take_succ_eq_append_getElem hk,List.map_append,List.sum_append,List.map_cons,List.map_nil,List.sum_cons,List.sum_nil,Nat.add_zero]
theorem aaH (t:List (List Cond))(k:Nat):vers (t.take k)<=vers t:=by
 unfold vers
 conv=>rhs;rw[<-List.take_append_drop k t]
 rw[List.map_append,List.sum_append];omega
theorem kN (A:Option Addr)(n c:Nat)(t:List (List Cond))(w:World)(hn:t.length=n)(hr:TRow w A t)(hl:n<=100000)(hv:vers t<=100000000) :
  Calls Tryz.prog 279 #[.slice A n c] w fun e w'=>e=.returned (.int .i64 (vers t))/\w=w':=by
 have HR:=zh hr
 have HN:=zh hn
 have HV:=zh hv
 clear hr hn hv
 go_enter Tryz.func279,Tryz.ntmps279
 go_wp2_with fail
 go_loop [3,8] (fun v i=>∃ k x:Nat,k<=n/\x<=100000000/\i=.int .i64 k/\v=.int .i64 x/\Hid (vers (t.take k)=x)) (fun _ i=>n-(intOf i).toNat)
 case atStart=>exact⟨0,0,Nat.zero_le _,Nat.zero_le _,rfl,rfl,rfl⟩
 case round =>
  obtain⟨k,x,hk,hx,rfl,rfl,HX⟩:=hrel
  by_cases ab:k<n
  ·have aa:k<t.length:=by rw[HN.out];exact ab
   obtain⟨ad,C,m,d,rfl,_,hc,hm,_⟩:=pw HR.out k aa
   have hs:=aaG t k aa
   have ht:=aaH t (k+1)
   rw[hs,HX.out,hm] at ht
   have hle:x+m<=100000000:=Nat.le_trans ht HV.out
   have HS:Hid (vers (t.take (k+1))=x+m):=by show _=_;rw[hs,HX.out,hm]
   clear hs ht hm
   go_wp2_with fail
   go_round
   case rel=>exact⟨k+1,x+m,by omega,hle,by go_num,by go_num,HS⟩
   case measure=>simp[intOf];omega
  ·obtain rfl:k=n:=by omega
   have HE:Hid (vers t=x):=by show _=_;rw[<-HX.out,List.take_of_length_le (by rw[HN.out];exact Nat.le_refl _)]
   go_wp2_with fail
   go_ret
   exact⟨by rw[HE.out];rfl,rfl⟩
def HoldRet (w0:World) (L:List Ent) (x:Int × List (Rm.P Cut)) (e:Ending) (u':World):Prop:=(x.1=0->∃ C n d,e=.returned (.slice C n d)/\St w0 u' (⟨C,n,x.2.map spOf⟩ :: L))/\(x.1≠0->e=pan x.1/\St w0 u' L)
theorem qA (r:List (Rm.P Cut))(c:Cond)(l:List Cond):hAlt r (c :: l)=if ofE c.1 c.2=0 then hAlt (andR r (ofR c.1 c.2)) l else (ofE c.1 c.2,[]):=rfl
theorem nU (r:List (Rm.P Cut))(a:List Cond)(t:List (List Cond)):hTerm r (a :: t)=if (hAlt allR a).1=0 then hTerm (orR r (hAlt allR a).2) t else ((hAlt allR a).1,[]):=rfl
theorem acM {w0 u:World}{x:Ent}{L:List Ent}(h:St w0 u (x :: L)):St w0 u L:=⟨h.1,h.2.1,fun y hy=>h.2.2 y (List.mem_cons_of_mem _ hy)⟩
theorem nV {w0 u:World}{x y:Ent}{L:List Ent}(h:St w0 u (x :: y :: L)):St w0 u (x :: L):=⟨h.1,h.2.1,fun z hz=>by
 rcases List.mem_cons.1 hz with rfl | hz
 ·exact h.2.2 _ (by simp)
 ·exact h.2.2 z (by simp[hz])⟩
theorem tJ {w0 w:World}{L:List Ent}(hS:St w0 w L)(A:Option Addr)(n c:Nat)(l:List Cond)(hn:l.length=n)(hr:DRow w A l)(hl:n<=100000) :
  Calls Tryz.prog 312 #[.slice A n c] w (HoldRet w0 L (hAlt allR l)):=by
 have HR:=zh hr
 have HN:=zh hn
 obtain⟨R,hR⟩:=ex (hAlt allR l)
 rw[hR]
 have an:=zh hR
 have af:Hid (St w w []):=⟨fq hS,Below.refl _ _,fun x hx=>(by cases hx)⟩
 have HS:=zh hS
 clear hr hn hR hS
 go_enter Tryz.func312,Tryz.ntmps312
 go_wp2_with fail
 refine (zd af.out allR rfl).mono ?_
 rintro _ u1 ⟨C1,n1,d1,rfl,hs⟩
 have ag:=zh hs
 clear hs af
 go_wp2_with fail
 go_loopw [3,11] (fun v i wr=>∃ (k:Nat) (C:Option Addr) (m d:Nat) (r:List (Rm.P Cut)),k<=n/\i=.int .i64 k/\v=.slice C m d/\Hid (St w wr [⟨C,m,r.map spOf⟩])/\Hid (Rs.Good r)/\Hid (hAlt r (l.drop k)=R)) (fun _ i _=>n-(intOf i).toNat)
 case atStart=>exact⟨0,C1,n1,d1,allR,Nat.zero_le _,rfl,rfl,ag,goodAll,an.out⟩
 case round =>
  clear ag
  obtain⟨k,C,m,d,r,hk,rfl,rfl,HW,HG,HH⟩:=hrel
  by_cases ao:k<n
  ·have ah:k<l.length:=by rw[HN.out];exact ao
   obtain⟨ad,rfl,_,c0,c1⟩:=xz (Rg.aj HR.out HW.out.2.1) k ah
   have hd:l.drop k=l[k] :: l.drop (k+1):=List.drop_eq_getElem_cons ah
   obtain⟨sg,ab,hc⟩:∃ s v,l[k]=(s,v):=⟨_,_,rfl⟩
   rw[hc] at c0 c1 hd
   have hh:=HH.out
   rw[hd,qA] at hh
   dsimp only at hh c0 c1
   obtain⟨x,hx⟩:=ex (ofR sg ab)
   obtain⟨y,hy⟩:=ex (ofE sg ab)
   have ai:Hid (Rs.Good x):=by show Rs.Good _;rw[<-hx];exact tD _ _
   rw[hx,hy] at hh
   have HX:=zh hx
   have HY:=zh hy
   have al:=zh hh
   have am:=zh (tC HW.out (.cells #[.string ⟨sg.toArray⟩,.string ⟨ab.toArray⟩] 296))
   clear hd hc hh hx hy HH
   go_wp2_with fail
   refine (s_of am.out sg ab x y HX.out HY.out).mono ?_
   rintro _ u2 ⟨C2,n2,d2,rfl,hs⟩
   have ac:=zh hs
   clear hs am c0 c1
   by_cases aa:y=0
   ·subst aa
    go_wp2_with fail
    refine (ak _).mono ?_
    rintro _ u3 ⟨rfl,rfl⟩
    go_wp2_with fail
    refine (af1 ac.out 1 0 rfl rfl HG.out ai.out _ _ _ rfl).mono ?_
    rintro _ u4 ⟨C4,n4,d4,rfl,hs⟩
    have ap:Hid (St w u4 [⟨C4,n4,(andR r x).map spOf⟩]):=nV (nV hs)
    have aq:Hid (Rs.Good (andR r x)):=goodA HG.out ai.out
    have ar:Hid (hAlt (andR r x) (l.drop (k+1))=R):=by show _=_;have h:=al.out;first | rwa [if_pos rfl] at h | rwa [if_pos trivial] at h
    clear hs ac
    go_wp2_with fail
    go_roundw
    case rel=>exact⟨k+1,C4,n4,d4,andR r x,by omega,by go_num,rfl,ap,aq,ar⟩
    case measure=>simp[intOf];omega
   ·have aw:(y==0)=false:=by simpa using aa
    have ae:Hid (R=(y,[])):=by show _=_;have h:=al.out;rw[if_neg aa] at h;exact h.symm
    have av:=zh aa
    clear aa
    go_wp2_with fail
    refine (au _).mono ?_
    rintro _ u3 ⟨rfl,rfl⟩
    go_wp2_with fail
    rw[ae.out]
    exact⟨rfl,fun h=>absurd h av.out,fun _=>⟨rfl,dj HS.out ac.out.2.1⟩⟩
  ·obtain rfl:k=n:=by omega
   have ae:Hid (R=(0,r)):=by show _=_;rw[<-HH.out,List.drop_eq_nil_of_le (by rw[HN.out];exact Nat.le_refl _)];rfl
   go_wp2_with fail
   go_ret
   rw[ae.out]
   exact⟨fun _=>⟨C,m,d,rfl,nQ HS.out HW.out.2.1 (aI HW.out 0 rfl).1 (aI HW.out 0 rfl).2⟩,fun h=>absurd rfl h⟩
end
section
open Go.RowKit Rs At
theorem jO:Rs.Good []:=⟨trivial,fun p hp=>(by cases hp),by decide⟩
theorem kO:∀ (l:List Cond) (r:List (Rm.P Cut)),Rs.Good r->Rs.Good (hAlt r l).2
 | [],r,h=>h
 | c :: l,r,h=>by
  rw[qA]
  split
  ·exact kO l _ (goodA h (tD _ _))
  ·exact jO
theorem nW:∀ (t:List (List Cond)) (r:List (Rm.P Cut)),Rs.Good r->Rs.Good (hTerm r t).2
 | [],r,h=>h
 | a :: t,r,h=>by
  rw[nU]
  split
  ·exact nW t _ (goodO h (kO a _ goodAll))
  ·exact jO
theorem acN (w:World)(A:Option Addr):SRow w A []:=fun h=>absurd h (by simp)
theorem aaI {w0 w:World}{L:List Ent}(hS:St w0 w L)(A:Option Addr)(n c:Nat)(t:List (List Cond))(hn:t.length=n)(hr:TRow w A t)(hl:n<=100000)(hv:∀ l∈t,l.length<=100000) :
  Calls Tryz.prog 296 #[.slice A n c] w (HoldRet w0 L (hTerm [] t)):=by
 have HR:=zh hr
 have HN:=zh hn
 have HV:=zh hv
 obtain⟨R,hR⟩:=ex (hTerm [] t)
 rw[hR]
 have an:=zh hR
 have aj:Hid (St w w [⟨none,0,([]:List (Rm.P Cut)).map spOf⟩]):=⟨fq hS,Below.refl _ _,fun x hx=>by rw[List.mem_singleton.1 hx];exact⟨acN _ _,rfl⟩⟩
 have HS:=zh hS
 clear hr hn hR hS hv
 go_enter Tryz.func296,Tryz.ntmps296
 go_wp2_with fail
 go_loopw [3,8] (fun v i wr=>∃ (k:Nat) (C:Option Addr) (m d:Nat) (r:List (Rm.P Cut)),k<=n/\i=.int .i64 k/\v=.slice C m d/\Hid (St w wr [⟨C,m,r.map spOf⟩])/\Hid (Rs.Good r)/\Hid (hTerm r (t.drop k)=R)) (fun _ i _=>n-(intOf i).toNat)
 case atStart=>exact⟨0,none,0,0,[],Nat.zero_le _,rfl,rfl,aj,jO,an.out⟩
 case round =>
  clear aj
  obtain⟨k,C,m,d,r,hk,rfl,rfl,HW,HG,HH⟩:=hrel
  by_cases ao:k<n
  ·have ae:k<t.length:=by rw[HN.out];exact ao
   obtain⟨ad,C1,n1,d1,rfl,_,c0,ac,aa⟩:=pw (jM HR.out HW.out.2.1) k ae
   have hd:t.drop k=t[k] :: t.drop (k+1):=List.drop_eq_getElem_cons ae
   have af:=HV.out _ (List.getElem_mem ae)
   obtain⟨l,am⟩:=ex (t[k])
   rw[am] at hd ac aa af
   have hh:=HH.out
   rw[hd,nU] at hh
   obtain⟨x,hx⟩:=ex (hAlt allR l)
   have ak:Hid (Rs.Good x.2):=by show Rs.Good _;rw[<-hx];exact kO l _ goodAll
   rw[hx] at hh
   have HX:=zh hx
   have al:=zh hh
   have ap:=zh ac
   have ag:=zh aa
   have aq:n1<=100000:=by rw[<-ac];exact af
   clear hd am hh hx HH ac aa af
   go_wp2_with fail
   refine (tJ HW.out C1 n1 d1 l ap.out ag.out aq).mono ?_
   rw[HX.out]
   rintro e u2 ⟨hy,ai⟩
   by_cases h0:x.1=0
   ·obtain⟨C2,n2,d2,rfl,hs⟩:=hy h0
    have ab:=zh hs
    have H0:=zh h0
    clear hs hy ai c0 h0
    go_wp2_with fail
    refine (s_or ab.out 1 0 rfl rfl HG.out ak.out _ _ _ rfl).mono ?_
    rintro _ u4 ⟨C4,n4,d4,rfl,hs⟩
    have ar:Hid (St w u4 [⟨C4,n4,(orR r x.2).map spOf⟩]):=nV (nV hs)
    have au:Hid (Rs.Good (orR r x.2)):=goodO HG.out ak.out
    have av:Hid (hTerm (orR r x.2) (t.drop (k+1))=R):=by show _=_;have h:=al.out;rwa [if_pos H0.out] at h
    clear hs ab
    go_wp2_with fail
    go_roundw
    case rel=>exact⟨k+1,C4,n4,d4,orR r x.2,by omega,by go_num,rfl,ar,au,av⟩
    case measure=>simp[intOf];omega
   ·obtain⟨rfl,hs⟩:=ai h0
    have ah:Hid (R=(x.1,[])):=by show _=_;have h:=al.out;rw[if_neg h0] at h;exact h.symm
    have ab:=zh hs
    have H0:=zh h0
    clear hs hy ai c0 h0
    go_wp2_with fail
    rw[ah.out]
    exact⟨rfl,fun h=>absurd h H0.out,fun _=>⟨rfl,dj HS.out ab.out.2.1⟩⟩
  ·obtain rfl:k=n:=by omega
   have ah:Hid (R=(0,r)):=by show _=_;rw[<-HH.out,List.drop_eq_nil_of_le (by rw[HN.out];exact Nat.le_refl _)];rfl
   go_wp2_with fail
   go_ret
   rw[ah.out]
   exact⟨fun _=>⟨C,m,d,rfl,nQ HS.out HW.out.2.1 (aI HW.out 0 rfl).1 (aI HW.out 0 rfl).2⟩,fun h=>absurd rfl h⟩
def Bx2 (b:Nat) (name:List UInt8) (A:Option Addr) (n c:Nat) (u:World):Prop:=u.cell? ⟨b,0,none⟩=some (.string ⟨name.toArray⟩)/\u.cell? ⟨b,1,none⟩=some (.slice A n c)
theorem aR {b B:Nat}{name:List UInt8}{A:Option Addr}{n c:Nat}{u u':World}(h:Bx2 b name A n c u)(hb:b<B)(hbl:Below B u u'):Bx2 b name A n c u':=by
 obtain⟨h0,h1⟩:=h
 refine⟨?_,?_⟩
 ·rw[hbl.cell hb];exact h0
 ·rw[hbl.cell hb];exact h1
theorem dk (w:World)(name:List UInt8)(A:Option Addr)(n c:Nat)(T:TypeId):Bx2 w.heap.size name A n c (w.alloc (.cells #[.string ⟨name.toArray⟩,.slice A n c] T)):=by
 refine⟨?_,?_⟩ <;> rw[World.cell?_alloc_mark] <;> rfl
theorem il (s:Sp):(conds s).length<=2:=by
 unfold conds
 split
 ·show 1<=2;decide
 ·have h1:∀ (p:Prop) [Decidable p] (c:Cond),(if p then [] else [c]).length<=1:=fun p _ c=>by split <;> simp
  have a1:=h1 (s.lo=[]) (if s.li then [62,61] else [62],s.lo)
  have a2:=h1 (s.hi=[]) (if s.hn then [60,61] else [60],s.hi)
  rw[List.length_append];omega
theorem xA:∀ l:List Sp,vers (termOf l)<=l.length*2
 | []=>by decide
 | s :: l=>by
  have h1:=xA l
  have h2:=il s
  have e:vers (termOf (s :: l))=(conds s).length+vers (termOf l):=rfl
  rw[e,List.length_cons];omega
theorem im (name:List UInt8)(A:Option Addr)(n c:Nat)(l:List Sp)(w:World)(hw:MaxOk w)(hm:name.length<=maxLen)(hn:l.length=n)(hr:SRow w A l)(hl:n<=1000) :
  Calls Tryz.prog 253 #[.agg #[.string ⟨name.toArray⟩,.slice A n c]] w fun e w'=>e=bB (checkA ⟨name,l⟩)/\Below w.heap.size w w':=by
 obtain⟨K,hK⟩:=ex (checkA ⟨name,l⟩)
 rw[hK]
 have aj:Hid (nameB name=false->K=3):=fun h=>by rw[<-hK];unfold checkA;rw[if_neg (by rw[h];decide)]
 have ae:Hid (nameB name=true->checkR l≠0->K=checkR l):=fun h h2=>by rw[<-hK];unfold checkA;rw[if_pos h,if_neg h2]
 have af:Hid (nameB name=true->checkR l=0->K=if 16<vers (termOf l) then 4 else 0):=fun h h2=>by rw[<-hK];unfold checkA;rw[if_pos h,if_pos h2]
 obtain⟨b,hb⟩:=ex w.heap.size
 obtain⟨W1,ah⟩:=ex (w.alloc (.cells #[.string ⟨name.toArray⟩,.slice A n c] 51))
 have aw:Hid (Bx2 b name A n c W1):=by rw[<-ah,<-hb];exact dk w name A n c _
 have al:Hid (Below w.heap.size w W1):=by rw[<-ah];exact (Below.refl _ _).alloc (Nat.le_refl _) _
 have am:Hid (St w W1 [⟨A,n,l⟩]):=⟨hw,al.out,fun x hx=>by rw[List.mem_singleton.1 hx];exact⟨ao hr al.out,hn⟩⟩
 have ax:b<W1.heap.size:=by rw[<-ah,<-hb];simp
 have aC:=zh hm
 have HN:=zh hn
 clear hw hr hK hm hn
 obtain⟨k0,k1⟩:=aw.out
 obtain⟨nb,ar⟩:=ex (nameB name)
 obtain⟨cr,av⟩:=ex (checkR l)
 rw[ar] at aj ae af
 rw[av] at ae af
 have aD:=zh ar
 have aE:=zh av
 clear ar av
 go_enter Tryz.func253,Tryz.ntmps253
 go_wp2_with fail
 clear hb ah
 refine (ft name _ aC.out).mono ?_
 rintro _ u1 ⟨rfl,rfl⟩
 rw[aD.out]
 cases nb
 ·have HK:=zh (aj.out rfl)
  go_wp2_with fail
  refine (au _).mono ?_
  rintro _ u2 ⟨rfl,rfl⟩
  go_wp2_with fail
  exact⟨rfl,by rw[HK.out];rfl,al.out⟩
 ·have aa:=zh (ae.out rfl)
  have ab:=zh (af.out rfl)
  clear ae af aj
  go_wp2_with fail
  refine (ak _).mono ?_
  rintro _ u2 ⟨rfl,rfl⟩
  go_wp2_with fail
  refine (zb A n c l _ (fq am.out) HN.out (aI am.out 0 rfl).1 hl).mono ?_
  rintro _ u3 ⟨rfl,ai⟩
  rw[aE.out]
  have an:=zh (dj am.out ai)
  have aF:=zh (aR aw.out ax ai)
  have aH:b<u3.heap.size:=Nat.lt_of_lt_of_le ax ai.size
  clear ai k0 k1
  obtain⟨k0,k1⟩:=aF.out
  by_cases ac:cr=0
  ·subst ac
   have HK:=zh (ab.out rfl)
   have ay:vers (termOf l)<=2000:=by have:=xA l;have:=HN.out;omega
   have az:=zh ay
   clear ay
   go_wp2_with fail
   refine (ak _).mono ?_
   rintro _ u4 ⟨rfl,rfl⟩
   go_wp2_with fail
   refine (jN A n c l _ HN.out (aI an.out 0 rfl).1 hl).mono ?_
   rintro _ u5 ⟨C,m,d,rfl,hm,ad,aB⟩
   have HM:=zh hm
   have ap:=zh ad
   have aA:=zh (dj an.out aB)
   clear hm ad aB
   have aJ:m<=1000:=by rw[<-HM.out];show (l.map conds).length<=1000;rw[List.length_map,HN.out];exact hl
   obtain⟨x,hx⟩:=ex (vers (termOf l))
   rw[hx] at HK az
   have HX:=zh hx
   clear hx
   go_wp2_with fail
   refine (kN C m d (termOf l) _ HM.out ap.out (by omega) (by rw[HX.out];have:=az.out;omega)).mono ?_
   rintro _ u6 ⟨rfl,rfl⟩
   rw[HX.out]
   by_cases ag:16<x
   ·have d0:decide ((x:Int)<=16)=false:=decide_eq_false (by omega)
    have aq:Hid (K=4):=by show _=_;rw[HK.out,if_pos ag]
    clear ag
    go_wp2_with fail
    refine (au _).mono ?_
    rintro _ u7 ⟨rfl,rfl⟩
    go_wp2_with fail
    exact⟨rfl,by rw[aq.out];rfl,aA.out.2.1⟩
   ·have d0:decide ((x:Int)<=16)=true:=decide_eq_true (by omega)
    have aq:Hid (K=0):=by show _=_;rw[HK.out,if_neg ag]
    clear ag
    go_wp2_with fail
    refine (ak _).mono ?_
    rintro _ u7 ⟨rfl,rfl⟩
    go_wp2_with fail
    go_end0
    exact⟨by rw[aq.out];rfl,aA.out.2.1⟩
  ·have HK:=zh (aa.out ac)
   clear aa ab
   have aK:(cr==0)=false:=by simpa using ac
   have aG:=zh ac
   clear ac
   go_wp2_with fail
   refine (au _).mono ?_
   rintro _ u4 ⟨rfl,rfl⟩
   go_wp2_with fail
   exact⟨rfl,by rw[HK.out,a7 aG.out],an.out.2.1⟩
end
section
open Go.RowKit Rs At
theorem tK (p:Addr)(x:Int)(n:Int)(w:World)(hc:w.cell? p=some (.int .i64 x))(hz:w.frozen? p=false) :
  CallsD Tryz.prog 252 #[.pointer (some p)] (.panicking [{ v:=.iface 77 (.int .i64 n),recovered:=false }]) w fun e u' w' =>
   e=.returned (.tuple #[])/\u'=.panicking [{ v:=.iface 77 (.int .i64 n),recovered:=true }]/\w'=w.setCell p (.int .i64 n):=by
 refine callsD_of_wpS Tryz.func252 rfl fun c₀ cs hu=>?_
 apply wpS_region
 simp[wpOpsS,go_sem,recoverD,hu,Tryz.ntmps252]
 refine (bU n _).mono ?_
 rintro e w' ⟨rfl,rfl⟩
 simp[go_sem,hc,hz,bodyPostS,results,Tryz.results252]
theorem wj (p:Addr)(x:Int)(w:World)(hc:w.cell? p=some (.int .i64 x))(hz:w.frozen? p=false) :
  CallsD Tryz.prog 252 #[.pointer (some p)] .returning w fun e u' w'=>e=.returned (.tuple #[])/\u'=.returning/\w'=w.setCell p (.int .i64 0):=by
 refine callsD_of_wpS Tryz.func252 rfl fun c₀ cs hu=>?_
 apply wpS_region
 simp[wpOpsS,go_sem,recoverD,hu,Tryz.ntmps252]
 refine (bT _).mono ?_
 rintro e w' ⟨rfl,rfl⟩
 cases c₀
 simp_all [go_sem,bodyPostS,results,Tryz.results252]
theorem dy (p:Addr)(x:Int)(n:Int)(w:World)(hc:w.cell? p=some (.int .i64 x))(hz:w.frozen? p=false) :
  CallsD Tryz.prog 294 #[.pointer (some p)] (.panicking [{ v:=.iface 77 (.int .i64 n),recovered:=false }]) w fun e u' w' =>
   e=.returned (.tuple #[])/\u'=.panicking [{ v:=.iface 77 (.int .i64 n),recovered:=true }]/\w'=w.setCell p (.int .i64 n):=by
 refine callsD_of_wpS Tryz.func294 rfl fun c₀ cs hu=>?_
 apply wpS_region
 simp[wpOpsS,go_sem,recoverD,hu,Tryz.ntmps294]
 refine (bU n _).mono ?_
 rintro e w' ⟨rfl,rfl⟩
 simp[go_sem,hc,hz,bodyPostS,results,Tryz.results294]
theorem wk (p:Addr)(x:Int)(w:World)(hc:w.cell? p=some (.int .i64 x))(hz:w.frozen? p=false) :
  CallsD Tryz.prog 294 #[.pointer (some p)] .returning w fun e u' w'=>e=.returned (.tuple #[])/\u'=.returning/\w'=w.setCell p (.int .i64 0):=by
 refine callsD_of_wpS Tryz.func294 rfl fun c₀ cs hu=>?_
 apply wpS_region
 simp[wpOpsS,go_sem,recoverD,hu,Tryz.ntmps294]
 refine (bT _).mono ?_
 rintro e w' ⟨rfl,rfl⟩
 cases c₀
 simp_all [go_sem,bodyPostS,results,Tryz.results294]
theorem rD (name:List UInt8)(A:Option Addr)(n c:Nat)(l:List Sp)(w:World)(hw:MaxOk w)(hm:name.length<=maxLen)(hn:l.length=n)(hr:SRow w A l)(hl:n<=1000) :
  Calls Tryz.prog 216 #[.agg #[.string ⟨name.toArray⟩,.slice A n c]] w fun e w'=>e=.returned (.int .i64 (checkA ⟨name,l⟩))/\Below w.heap.size w w':=by
 have aw:∀ (fn:Fn) (first cap:Array Value) (w:World),(Instr.makeFunc fn first cap).run Tryz.prog w=.ok (.func fn first cap) w:=fun _ _ _ _=>rfl
 obtain⟨K,hK⟩:=ex (checkA ⟨name,l⟩)
 rw[hK]
 obtain⟨W1,ac⟩:=ex (w.alloc (.cells #[.string ⟨name.toArray⟩,.slice A n c] 51))
 have ah:Hid (Bx2 w.heap.size name A n c W1):=by rw[<-ac];exact dk w name A n c _
 have am:=zh (ai ac)
 have aj:W1.heap.size=w.heap.size+1:=by rw[<-ac];simp
 obtain⟨W2,af⟩:=ex (W1.alloc (.cells #[.int .i64 0] 77))
 have ad:=zh (ai af)
 have an:Hid (Bx2 w.heap.size name A n c W2):=aR ah.out (by omega) ad.out
 have ae:Hid (Below w.heap.size w W2):=bt am.out ad.out
 have ap:Hid (MaxOk W2):=ag hw ae.out
 have aq:Hid (SRow W2 A l):=ao hr ae.out
 have HN:=zh hn
 have ar:=zh hm
 have HK:=zh hK
 have hq:=ad
 obtain⟨k0,k1⟩:=an.out
 have au:=zh af
 clear hw hr hK hn hm hq ah
 go_enter_defers Tryz.func216,Tryz.ntmps216
 go_wp2_with fail
 have av:=zh aj
 clear ac af aj
 refine (im name A n c l _ ap.out ar.out HN.out aq.out hl).mono ?_
 rintro _ w1 ⟨rfl,hb⟩
 rw[HK.out]
 have ak:Below (W1.heap.size+1) (W1.alloc (.cells #[.int .i64 0] 77)) w1:=by have h:=hb;rw[<-au.out] at h;simpa using h
 obtain⟨aa,ab⟩:=bj W1 w1 _ _ ak
 have al:Hid (Below w.heap.size w w1):=bt ae.out hb
 rw[av.out] at aa ab
 clear hb ak k0 k1
 by_cases hk:K=0
 ·subst hk
  rw[a8]
  go_wp2_with fail
  refine leaves_cons (f:=252) (args:=#[.pointer (some ⟨w.heap.size+1,0,none⟩)]) (by simp) (by simp[go_sem]) ?_
  refine (wj ⟨w.heap.size+1,0,none⟩ 0 _ ?_ ?_).mono ?_
  ·simp[go_sem,aa]
  ·simp[go_sem,ab]
  rintro e u' w3 ⟨rfl,rfl,rfl⟩
  simp[Leaves,settle,results,Tryz.results216,go_sem,aa]
  exact (al.out.setCell (Nat.le_succ _) _).setCell (Nat.le_succ _) _
 ·rw[a7 hk]
  go_wp2_with fail
  refine leaves_cons (f:=252) (args:=#[.pointer (some ⟨w.heap.size+1,0,none⟩)]) (by simp) (by simp[go_sem]) ?_
  refine (tK ⟨w.heap.size+1,0,none⟩ 0 _ _ ?_ ?_).mono ?_
  ·simp[go_sem,aa]
  ·simp[go_sem,ab]
  rintro e u' w3 ⟨rfl,rfl,rfl⟩
  simp[Leaves,settle,results,Tryz.results216,go_sem,aa]
  exact al.out.setCell (Nat.le_succ _) _
theorem kP (na nb:List UInt8)(A B:Option Addr)(n m c d:Nat)(l k:List Sp)(w:World)(hn:l.length=n)(hm:k.length=m)(hr:SRow w A l)(hq:SRow w B k)(hl:n<=1000)(hk:m<=1000) :
  Calls Tryz.prog 116 #[.agg #[.string ⟨na.toArray⟩,.slice A n c],.agg #[.string ⟨nb.toArray⟩,.slice B m d]] w fun e w'=>e=.returned (.bool (decide ((⟨na,l⟩:Atm)=⟨nb,k⟩)))/\Below w.heap.size w w':=by
 obtain⟨R,hR⟩:=ex (decide ((⟨na,l⟩:Atm)=⟨nb,k⟩))
 rw[hR]
 have aa:Below w.heap.size w ((w.alloc (.cells #[.string ⟨na.toArray⟩,.slice A n c] 51)).alloc (.cells #[.string ⟨nb.toArray⟩,.slice B m d] 51)):=((Below.refl _ _).alloc (Nat.le_refl _) _).alloc (by simp) _
 have HB:=zh aa
 have HR:=zh (ao hr aa)
 have HQ:=zh (ao hq aa)
 subst hn hm
 clear aa hr hq
 cases he:na==nb
 ·have HF:Hid (R=false):=by
   show _=_;rw[<-hR];refine decide_eq_false fun e=>?_
   have:=(Atm.mk.inj e).1
   rw[this] at he;simp at he
  clear hR
  go_enter Tryz.func116,Tryz.ntmps116
  go_wp2_with fail
  go_ret
  exact⟨by rw[HF.out];rfl,HB.out⟩
 ·have HT:Hid (R=decide (l=k)):=by
   show _=_;rw[<-hR]
   have e1:na=nb:=by simpa using he
   rw[Bool.eq_iff_iff];simp[e1]
  clear hR
  go_enter Tryz.func116,Tryz.ntmps116
  go_wp2_with fail
  refine (tn A c l B d k _ HR.out HQ.out (by omega) (by omega)).mono ?_
  rintro _ u ⟨rfl,hb⟩
  have ab:Hid (Below w.heap.size w u):=bt HB.out hb
  rw[<-HT.out]
  clear hb
  go_wp2_with fail
  go_ret
  exact⟨rfl,ab.out⟩
end
end Go.Proofs.YtgnaiidgjmicaaaGreatDoor
