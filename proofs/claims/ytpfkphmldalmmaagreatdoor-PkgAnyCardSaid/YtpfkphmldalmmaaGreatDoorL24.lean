/- Part 24 of what the laws lean on. -/
import Derived.Test.YtpfkphmldalmmaaGreatDoorL23
set_option maxRecDepth 100000
set_option maxHeartbeats 3200000
namespace Go.Proofs.YtpfkphmldalmmaaGreatDoor
section
open Go.RowKit Go.Maps Sz
attribute [local go_sem ↓] Go.wp_at_zero Go.wp_at_succ
section
variable {α:Type} {P:Program} {enc:α->List Value} {K:Nat} {ST T:TypeId} {w:World}
theorem Rg.iC (hf:Rg.Fits enc K)(hT:Rg.SliceT P enc K ST T){ops:Array Oper}{o:Oper}{a:Act}{G:Act->World->Prop}{Q:Exit->Act->World->Prop}{E:Prop}(hgd:o.guard=none)(sl x:Operand)
  (ho:o.op=.call { callee:=.builtin .append,args:=#[sl,x],argTypes:=#[ST,ST] })
  (B:Nat) (v:Value) (l m:List α) (hs:a.eval sl=v) (hown:Rg.Own enc K w B T v l) (ad:Addr) (c:Nat) (hx:a.eval x=.slice (some ad) m.length c)
  (hnews:∀ j u,(Rg.flat enc m)[j]?=some u->w.cell? (ad.add j)=some u) (hm:0<m.length) (hsz:l.length+m.length<=1000000) (hB:B<=w.heap.size)
  (h:∀ g cap w',Rg.Own enc K w' B T (.slice (some ⟨g,0,none⟩) (l.length+m.length) cap) (l++m)->w.grownBy w' v.ownBlock->(v.ownBlock=some g\/g=w.heap.size)->G (a.put o.dst (.slice (some ⟨g,0,none⟩) (l.length+m.length) cap)) w') :
  if Region.wanted o (yielded ops a.tmps)=true then Oper.wp P o a w G Q else E:=by
 obtain⟨i,z,hi,aa,ab,ac,hb⟩:=hT.info
 refine step_append_lies w hgd sl x ST ho B T i z K i.bytes hT.under hi aa ac rfl ab hT.pos v l.length (Rg.flat enc l) hs hown ad m.length c (Rg.flat enc m) hx (Rg.dj hf m) hnews (Rg.cE hf m) hm (by unfold maxLen;omega) (by
  have:(l.length+m.length)*i.bytes<=1000000*1000:=Nat.mul_le_mul hsz hb
  omega) hB _ rfl ?_
 intro g cap w' h1 h2 h3 _
 refine h g cap w' ?_ h2 h3
 unfold Rg.Own
 rw[Rg.eP,List.length_append]
 exact h1
end
theorem Sz.pN {w u W:World}{B d:Nat}{v0 v1 v2:Value}{ds:List Desc}{acc:List (List Fld)}{last:List Fld}{row:Option Nat}(h:DrO w B d v0 v1 v2 ds acc last)(hb:Below w.heap.size w u)(hg:u.grownBy W row)(hne:row≠some d) :
  W.cell? ⟨d,0,none⟩=some v0/\W.cell? ⟨d,1,none⟩=some v1/\W.cell? ⟨d,2,none⟩=some v2/\W.frozen? ⟨d,0,none⟩=false/\W.frozen? ⟨d,1,none⟩=false/\W.frozen? ⟨d,2,none⟩=false:=by
 have aa:=gH h
 have ab:W.heap[d]?=some (.cells #[v0,v1,v2] 157 (0,0)):=(hg.block d (Nat.lt_of_lt_of_le aa hb.size) (fun e=>hne e.symm)).trans ((hb.block d aa).trans h.2.1)
 refine⟨?_,?_,?_,?_,?_,?_⟩ <;> simp[World.cell?,World.frozen?,ab]
theorem Sz.m8 {α:Type}{enc:α->List Value}{K:Nat}{w u W:World}{B:Nat}{T:TypeId}{v:Value}{l:List α}(ho:Rg.Own enc K w B T v l)(hB:B<=w.heap.size)(hb:Below w.heap.size w u)(hg:u.grownBy W v.ownBlock):Below B w W:=by
 exact (hb.mono hB).trans (Rg.aw (Rg.own_below ho hb) (Nat.le_trans hB hb.size) hg)
theorem Sz.grown_of {w u W:World}{row:Option Nat}(hb:Below w.heap.size w u)(hg:u.grownBy W row):w.grownBy W row:=by
 have aa:=hb
 have ab:=hg
 obtain⟨b1,b2,b3,b4,b5⟩:=aa
 obtain⟨g1,g2,g3,g4,g5⟩:=ab
 refine⟨?_,?_,?_,Nat.le_trans b4 g4,fun k hk hne=>(g5 k (Nat.lt_of_lt_of_le hk b4) hne).trans (b5 k hk)⟩
 ·first | exact g1.trans b1 | exact b1.trans g1
 ·first | exact g2.trans b2 | exact b2.trans g2
 ·first | exact g3.trans b3 | exact b3.trans g3
def Sz.EndRet (w:World) (B d:Nat) (v2:Value) (acc:List (List Fld)) (last:List Fld) (e:Ending) (w':World):Prop :=
 e=.returned (.tuple #[])/\Keeps B d w w'/\w.heap.size<=w'.heap.size/\∃ u0 u1 ds,DrO w' B d u0 u1 v2 ds (if last=[] then acc else acc++[last]) []
theorem eJ {w:World}{B d:Nat}{v0 v1 v2:Value}{ds:List Desc}{acc:List (List Fld)}{last:List Fld}(h:DrO w B d v0 v1 v2 ds acc last)(hsz:ds.length+1<=1000000)(hB:B<=w.heap.size) :
  Calls Tryz.prog 96 #[.pointer (some ⟨d,0,none⟩)] w (Sz.EndRet w B d v2 acc last):=by
 obtain⟨A,c,hv,ad,_,_⟩:=Rg.aE fitsF h.2.2.2.2.2.1
 obtain⟨n,hn⟩:=ex last.length
 rw[hn] at hv
 subst hv
 have H:=zh h
 have HN:=zh hn
 have ak:=zh hsz
 have af:=zh hB
 obtain⟨d0,d1,d2,f0,f1,f2⟩:=aY h
 clear h hn hsz ad hB
 by_cases h0:n=0
 ·subst h0
  have hl:Hid (last=[]):=List.length_eq_zero_iff.1 HN.out
  go_enter Tryz.func96,Tryz.ntmps96
  go_wp2_with fail
  exact bodyPost_ret (v:=.tuple #[]) (by simp[results,Tryz.results96,go_sem]) rfl ⟨rfl,bA (Below.refl _ _),Nat.le_refl _,v0,_,ds,by rw[if_pos hl.out,<-hl.out];exact H.out⟩
 ·have al:(0:Int)<(n:Int):=by omega
  have hl:Hid (last≠[]):=fun e=>h0 (by rw[<-HN.out,e];rfl)
  clear h0
  go_enter Tryz.func96,Tryz.ntmps96
  go_wp2_with fail
  have ag:Below w.heap.size w (w.alloc (.cells #[.slice A n c] 42)):=(Below.refl _ _).alloc (Nat.le_refl _) _
  have a0:=(aY (a6 H.out ag)).1
  clear ag
  have am:Hid (v0.ownBlock≠some d):=aJ H.out.2.2.1 H.out.2.1 neS
  go_region_law (refine Rg.iC fitsO sliceE (by rfl) (.tmp 12) (.tmp 17) (by rfl) B v0 ds [(A,n,c)] (by rfl) (Rg.own_below H.out.2.2.1 ((Below.refl _ _).drew.alloc (Nat.le_refl _) _)) _ _ (by rfl) (Rg.ay _ _ [(A,n,c)] _ (by rfl)) (Nat.zero_lt_succ _) ak.out (Nat.le_trans af.out (by simp)) ?_;intro g cap W5 ai ae aj;have an:=zh ai;have aa:=zh ae;have ao:=zh aj;obtain⟨e0,e1,e2,k0,k1,k2⟩:=pN H.out ((Below.refl _ _).drew.alloc (Nat.le_refl _) _) ae am.out;clear ai ae aj)
  all_goals (
   have ah:=m8 H.out.2.2.1 af.out ((Below.refl _ _).drew.alloc (Nat.le_refl _) _) aa.out
   have ab:Hid (w.heap.size<=W5.heap.size):=Nat.le_trans (by simp) aa.out.size
   have ac:=zh ah
   have HD:=zh (adN (w:=w) (g:=g) (n:=ds.length+1) (cap:=cap) H.out HN.out an.out (grown_of ((Below.refl _ _).drew.alloc (Nat.le_refl _) _) aa.out) (ao.out.imp id (fun h=>by rw[h];simp)))
   clear ah
   go_wp2_with fail
   exact bodyPost_ret (v:=.tuple #[]) (by simp[results,Tryz.results96,go_sem]) rfl ⟨rfl,fm (fm (bA ac.out) _) _,by simpa using ab.out,_,_,_,by rw[if_neg hl.out];exact HD.out⟩)
end
section
open Go.RowKit Go.Maps Sz
attribute [local go_sem ↓] Go.wp_at_zero Go.wp_at_succ
def Sz.AddRet (w:World) (B d:Nat) (v0:Value) (ds:List Desc) (acc:List (List Fld)) (last:List Fld) (f:Fld) (e:Ending) (w':World):Prop :=
 Keeps B d w w'/\w.heap.size<=w'.heap.size/\if (last.map Fld.key).contains f.key then e=panAt f.line 6 else
  e=.returned (.tuple #[])/\∃ u1 m,B<=m/\DrO w' B d v0 u1 (.map (some m)) ds acc (last++[f])/\KSet w' m ((last++[f]).map Fld.key)
def Sz.FB (b:Nat) (f:Fld) (u:World):Prop:=u.cell? ⟨b,0,none⟩=some (.string ⟨f.key.toArray⟩)/\u.cell? ⟨b,1,none⟩=some (.string ⟨f.val.toArray⟩)/\u.cell? ⟨b,2,none⟩=some (.int .i64 f.line)/\u.heap[b]?=some (.cells #[.string ⟨f.key.toArray⟩,.string ⟨f.val.toArray⟩,.int .i64 f.line] 56 (0,0))
theorem Sz.fJ {b:Nat}{f:Fld}{u:World}(h:u.heap[b]?=some (.cells #[.string ⟨f.key.toArray⟩,.string ⟨f.val.toArray⟩,.int .i64 f.line] 56 (0,0))):FB b f u:=by
 refine⟨?_,?_,?_,h⟩ <;> simp[World.cell?,h]
theorem Sz.lh {u W:World}{B m:Nat}(hg:u.grownBy W (some m))(hm:B<=m)(hB:B<=u.heap.size):Below B u W:=by
 obtain⟨g1,g2,g3,g4,g5⟩:=hg
 refine⟨?_,?_,?_,g4,fun k hk=>g5 k (Nat.lt_of_lt_of_le hk hB) (fun e=>by have:=Option.some.inj e;omega)⟩
 ·first | exact g1 | exact g1.symm
 ·first | exact g2 | exact g2.symm
 ·first | exact g3 | exact g3.symm
theorem Sz.tQ {w W:World}{B d m:Nat}{v0 v1 v2:Value}{ds:List Desc}{acc:List (List Fld)}{last:List Fld}{ks:List (List UInt8)}(h:DrO w B d v0 v1 v2 ds acc last)(hk:KSet w m ks)(hg:w.grownBy W v1.ownBlock)(x:Value):KSet (W.setCell ⟨d,1,none⟩ x) m ks:=by
 have ab:=hk
 obtain⟨n,D,⟨es,clock,hm,_⟩,_⟩:=hk
 have aa:m<w.heap.size:=(Array.getElem?_eq_some_iff.1 hm).1
 have ac:d≠m:=fun e=>by
  have h1:=h.2.1
  rw[e,hm] at h1;cases h1
 have n1:v1.ownBlock≠some m:=fun e=>by
  obtain⟨cs,fr,hc⟩:=cm h.2.2.2.2.2.1 e
  rw[hm] at hc;cases hc
 exact ij ab (((cp W ⟨d,1,none⟩ x).block m (Nat.lt_of_lt_of_le aa hg.size) (fun e=>ac (Option.some.inj e).symm)).trans (hg.block m aa (fun e=>n1 e.symm)))
theorem ke {w:World}{B d:Nat}{v0 v1 v2:Value}{ds:List Desc}{acc:List (List Fld)}{last:List Fld}(f:Fld)(h:DrO w B d v0 v1 v2 ds acc last)(hsz:last.length+1<=1000000)(hk:f.key.length<=1000000)(hB:B<=w.heap.size)
  (hl:last≠[]) (hm:∃ m,v2=.map (some m)/\B<=m/\KSet w m (last.map Fld.key)) :
  Calls Tryz.prog 97 #[.pointer (some ⟨d,0,none⟩),.agg #[.string ⟨f.key.toArray⟩,.string ⟨f.val.toArray⟩,.int .i64 f.line]] w (Sz.AddRet w B d v0 ds acc last f):=by
 obtain⟨W1,ak⟩:=ex (w.alloc (.cells #[.string ⟨f.key.toArray⟩,.string ⟨f.val.toArray⟩,.int .i64 f.line] 56))
 have af:Hid (Below w.heap.size w W1):=ai ak
 have aw:Hid (FB w.heap.size f W1):=fJ (by rw[<-ak];exact heap_alloc_new w _)
 have aO:W1.heap.size=w.heap.size+1:=by rw[<-ak];simp
 have ax:Hid (w.heap.size<W1.heap.size):=by show _<_;omega
 have H1:=zh (a6 h af.out)
 have ag:Hid (B<=w.heap.size/\d<w.heap.size):=⟨hB,gH h⟩
 have HK:=zh hk
 have az:=zh hsz
 obtain⟨A,c,hv,aq,_,_⟩:=Rg.aE fitsF h.2.2.2.2.2.1
 obtain⟨n,hn⟩:=ex last.length
 rw[hn] at hv
 subst hv
 have HN:=zh hn
 obtain⟨d0,d1,d2,f0,f1,f2⟩:=aY H1.out
 obtain⟨m,rfl,ad,ar⟩:=hm
 have aA:m<w.heap.size:=by
  obtain⟨_,_,⟨_,_,hh,_⟩,_⟩:=ar
  exact (Array.getElem?_eq_some_iff.1 hh).1
 have HM:Hid (B<=m/\m<W1.heap.size/\w.heap.size≠m):=⟨ad,by omega,by omega⟩
 have ah:Hid (KSet W1 m (last.map Fld.key)):=bV ar af.out aA
 have aQ:((n:Int)==0)=false:=by
  have:last.length≠0:=fun e=>hl (List.length_eq_zero_iff.1 e)
  rw[hn] at this
  simp;omega
 clear h hn hsz hk hB aq hl ad ar aO aA
 go_enter Tryz.func97,Tryz.ntmps97
 go_wp2_with fail
 clear ak aQ
 have aj:Hid (Keeps B d w W1/\w.heap.size<=W1.heap.size):=⟨bA <| af.out.mono ag.out.1,af.out.size⟩
 have HX:=H1
 have aB:=aw
 have aC:=ax
 clear H1 aw ax
 generalize W1=WX at *
 obtain⟨b0,b1,b2,_⟩:=aB.out
 obtain⟨tw,au⟩:=ex ((last.map Fld.key).contains f.key)
 have aD:=zh au
 have l0:=ig (bV ah.out (Below.refl WX.heap.size WX).drew (HM.out.2.1)) HK.out
 have l1:=ig (w:=(WX.alloc (.cells #[] 204)).drew) (bV ah.out ((Below.refl WX.heap.size WX).alloc (Nat.le_refl _) (.cells #[] 204)).drew (HM.out.2.1)) HK.out
 rw[au] at l0 l1
 clear au
 go_region_held3 (fun w'=>w'.cell? ⟨d,2,none⟩=some (.map (some m))/\w'.cell? ⟨w.heap.size,0,none⟩=some (.string ⟨f.key.toArray⟩)) (go_keep) (fail)
 clear l0 l1
 all_goals (
  have ac:Hid (Below WX.heap.size WX ((WX.alloc (.cells #[] 204)).drew)):=((Below.refl WX.heap.size WX).alloc (Nat.le_refl _) (.cells #[] 204)).drew
  generalize (WX.alloc (.cells #[] 204)).drew=W3 at *
  have H3:=zh (a6 HX.out ac.out)
  have aF:Hid (FB w.heap.size f W3):=fJ ((ac.out.block _ aC.out).trans aB.out.2.2.2)
  have aR:Hid (KSet W3 m (last.map Fld.key)):=bV ah.out ac.out (HM.out.2.1)
  have aa:Hid (Keeps B d w W3/\w.heap.size<=W3.heap.size):=⟨aP aj.out.1 <| bA (ac.out.mono (Nat.le_trans ag.out.1 aj.out.2)),Nat.le_trans aj.out.2 ac.out.size⟩
  clear d0 d1 d2 f0 f1 f2 b0 b1 b2 aj ah
  obtain⟨d0,d1,d2,f0,f1,f2⟩:=aY H3.out
  obtain⟨b0,b1,b2,_⟩:=aF.out
  cases tw
  case true =>
   go_wp2_with fail
   refine (aK _).mono ?_
   rintro _ z ⟨rfl,rfl⟩
   go_wp2_with fail
   exact⟨rfl,by show AddRet w B d v0 ds acc last f _ _;exact⟨aa.out.1,aa.out.2,by rw[if_pos aD.out]⟩⟩
  case false =>
   go_wp2_with fail
   refine (aS _).mono ?_
   rintro _ z ⟨rfl,rfl⟩
   have ab:KSet W3.drew m (last.map Fld.key):=ij aR.out rfl
   obtain⟨W5,a0,aL,ae⟩:=tP ab HK.out (by rw[List.length_map];have:=az.out;omega)
   have H5:=zh (xc (a6 H3.out (Below.refl _ _).drew) ab ae)
   have aT:=zh aL
   have ad:w.heap.size≠m:=HM.out.2.2
   have al:Hid (FB w.heap.size f W5):=fJ ((ae.grown.block w.heap.size (by have:=aC.out;have:=ac.out.size;show _<W3.heap.size;omega) (fun e=>ad (Option.some.inj e))).trans aF.out.2.2.2)
   have am:Hid (Keeps B d w W5/\w.heap.size<=W5.heap.size):=⟨aP aa.out.1 <| bA <| (Below.refl _ W3).drew.trans (lh ae.grown HM.out.1 (Nat.le_trans ag.out.1 aa.out.2)),Nat.le_trans aa.out.2 ae.grown.size⟩
   obtain⟨e0,e1,e2,k0,k1,k2⟩:=aY H5.out
   obtain⟨g0,g1,g2,_⟩:=al.out
   clear ab aL ae ad
   go_wp2_with fail
   go_region_held3 (fun w'=>w'.cell? ⟨d,2,none⟩=some (.map (some m))/\w'.cell? ⟨w.heap.size,0,none⟩=some (.string ⟨f.key.toArray⟩)) (go_keep) (fail)
   all_goals (
    clear d0 d1 d2 f0 f1 f2 b0 b1 b2 a0
    have aG:Hid (B<=W5.heap.size):=Nat.le_trans ag.out.1 am.out.2
    have an:Below W5.heap.size W5 (W5.alloc (.cells #[.string ⟨f.key.toArray⟩,.string ⟨f.val.toArray⟩,.int .i64 f.line] 56)):=(Below.refl _ _).alloc (Nat.le_refl _) _
    have a1:=(aY (a6 H5.out an)).2.1
    have aU:Hid ((Value.slice A n c).ownBlock≠some d):=aJ H5.out.2.2.2.2.2.1 H5.out.2.1 neF
    have aH:w.heap.size<W5.heap.size:=(Array.getElem?_eq_some_iff.1 al.out.2.2.2).1
    have aV:=fJ ((an.block _ aH).trans al.out.2.2.2)
    obtain⟨q0,q1,q2,_⟩:=aV
    clear an aH
    go_wp2_with fail
    go_region_law (refine Rg.iC fitsF sliceF (by rfl) (.tmp 42) (.tmp 44) (by rfl) B (.slice A n c) last [f] (by rfl) (Rg.own_below H5.out.2.2.2.2.2.1 ((Below.refl _ _).drew.alloc (Nat.le_refl _) _)) _ _ (by rfl) (Rg.ay _ _ [f] _ (by rfl)) (Nat.zero_lt_succ _) az.out (Nat.le_trans aG.out (by simp)) ?_;intro g cap W6 aM av aN;have aW:=zh aM;have aI:=zh av;have aX:=zh aN;obtain⟨x0,x1,x2,y0,y1,y2⟩:=pN H5.out ((Below.refl _ _).drew.alloc (Nat.le_refl _) _) av aU.out;clear aM av aN)
    all_goals (
     have ao:Hid (W5.grownBy W6 (Value.slice A n c).ownBlock):=grown_of ((Below.refl _ _).drew.alloc (Nat.le_refl _) _) aI.out
     have ap:=zh (m8 H5.out.2.2.2.2.2.1 aG.out ((Below.refl _ _).drew.alloc (Nat.le_refl _) _) aI.out)
     have HD:=zh (xd H5.out aW.out ao.out (aX.out.imp id (fun h=>by rw[h];simp)))
     have aZ:=zh (tQ H5.out aT.out ao.out (.slice (some ⟨g,0,none⟩) (last.length+[f].length) cap))
     go_wp2_with fail
     exact bodyPost_ret (v:=.tuple #[]) (by simp[results,Tryz.results97,go_sem]) rfl ⟨fm (aP am.out.1 (bA ap.out)) _,Nat.le_trans am.out.2 (by simpa using ao.out.size),by rw[if_neg (by rw[aD.out];decide)];exact⟨rfl,_,m,HM.out.1,HD.out,by rw[List.map_append];exact aZ.out⟩⟩)))
theorem iW {w:World}{B d:Nat}{v0 v1 v2:Value}{ds:List Desc}{acc:List (List Fld)}{last:List Fld}(f:Fld)(h:DrO w B d v0 v1 v2 ds acc last)(hsz:last.length+1<=1000000)(hk:f.key.length<=1000000)(hB:B<=w.heap.size)
  (hl:last=[]) :
  Calls Tryz.prog 97 #[.pointer (some ⟨d,0,none⟩),.agg #[.string ⟨f.key.toArray⟩,.string ⟨f.val.toArray⟩,.int .i64 f.line]] w (Sz.AddRet w B d v0 ds acc last f):=by
 obtain⟨W1,ap⟩:=ex (w.alloc (.cells #[.string ⟨f.key.toArray⟩,.string ⟨f.val.toArray⟩,.int .i64 f.line] 56))
 have aq:Hid (Below w.heap.size w W1):=ai ap
 have aD:Hid (FB w.heap.size f W1):=fJ (by rw[<-ap];exact heap_alloc_new w _)
 have a3:W1.heap.size=w.heap.size+1:=by rw[<-ap];simp
 have al:Hid (w.heap.size<W1.heap.size):=by show _<_;omega
 have H1:=zh (a6 h aq.out)
 have ac:Hid (B<=w.heap.size/\d<w.heap.size):=⟨hB,gH h⟩
 have HK:=zh hk
 have aF:=zh hsz
 obtain⟨A,c,hv,aA,_,_⟩:=Rg.aE fitsF h.2.2.2.2.2.1
 obtain⟨n,hn⟩:=ex last.length
 rw[hn] at hv
 subst hv
 have HN:=zh hn
 obtain⟨d0,d1,d2,f0,f1,f2⟩:=aY H1.out
 have aG:=zh (ach (a6 H1.out ((Below.refl W1.heap.size W1).alloc (Nat.le_refl _) (.map #[] 0))) (.map (some W1.heap.size)))
 have a4:=cp (W1.alloc (.map #[] 0)) ⟨d,2,none⟩ (.map (some W1.heap.size))
 have a5:d<W1.heap.size:=by have:=ac.out.2;omega
 have ar:∀ k,k≠d->((W1.alloc (.map #[] 0)).setCell ⟨d,2,none⟩ (.map (some W1.heap.size))).heap[k]?=(W1.alloc (.map #[] 0)).heap[k]?:=fun k hk=>by
  exact Below.heap_setCell _ _ _ _ (fun e=>hk (by simp[e]))
 have af:KSet ((W1.alloc (.map #[] 0)).setCell ⟨d,2,none⟩ (.map (some W1.heap.size))) W1.heap.size []:=ij (aam W1) (ar _ (by omega))
 have aH:FB w.heap.size f ((W1.alloc (.map #[] 0)).setCell ⟨d,2,none⟩ (.map (some W1.heap.size))):=fJ ((ar _ (by have:=ac.out.2;omega)).trans ((((Below.refl W1.heap.size W1).alloc (Nat.le_refl _) (.map #[] 0)).block _ al.out).trans aD.out.2.2.2))
 have aI:((W1.alloc (.map #[] 0)).setCell ⟨d,2,none⟩ (.map (some W1.heap.size))).heap.size=W1.heap.size+1:=by simp[World.setCell]
 have aL:Keeps B d w ((W1.alloc (.map #[] 0)).setCell ⟨d,2,none⟩ (.map (some W1.heap.size))):=fm (bA ((aq.out.mono ac.out.1).alloc (by have:=ac.out;omega) _)) _
 have aM:Hid (B<=W1.heap.size/\w.heap.size≠W1.heap.size):=⟨by have:=ac.out;omega,by omega⟩
 have ag:=zh af
 have ah:=zh aH
 have aj:=zh aL
 have am:=zh aI
 subst hl
 obtain rfl:n=0:=by rw[<-hn];rfl
 clear h hn hsz hk hB aA a3 a4 a5 ar af aH aI aL
 have a7:(Instr.makeMap 155 none).run Tryz.prog W1=.ok (.map (some W1.heap.size)) (W1.alloc (.map #[] 0)):=rfl
 obtain⟨_,_,m2,_,_,m5⟩:=aY (a6 H1.out ((Below.refl W1.heap.size W1).alloc (Nat.le_refl _) (.map #[] 0)))
 go_enter Tryz.func97,Tryz.ntmps97
 go_wp2_with fail
 clear ap a7 m2 m5 d0 d1 d2 f0 f1 f2
 obtain⟨m,hm⟩:=ex W1.heap.size
 obtain⟨WX,ab⟩:=ex ((W1.alloc (.map #[] 0)).setCell ⟨d,2,none⟩ (.map (some W1.heap.size)))
 have HX:Hid (DrO WX B d v0 (.slice A 0 c) (.map (some m)) ds acc []):=by show DrO _ _ _ _ _ _ _ _ _;rw[<-ab,<-hm];exact aG.out
 have an:Hid (KSet WX m (([]:List Fld).map Fld.key)):=by show KSet _ _ _;rw[<-ab,<-hm];exact ag.out
 have aN:Hid (FB w.heap.size f WX):=by show FB _ _ _;rw[<-ab];exact ah.out
 have ao:Hid (Keeps B d w WX/\w.heap.size<=WX.heap.size):=by
  have h1:=al.out
  have h2:=am.out
  rw[ab] at h2
  exact⟨by rw[<-ab];exact aj.out,by omega⟩
 have aO:Hid (w.heap.size<WX.heap.size):=by
  have h1:=al.out
  have h2:=am.out
  rw[ab] at h2
  show _<_
  omega
 have HM:Hid (B<=m/\m<WX.heap.size/\w.heap.size≠m):=by
  have h2:=am.out
  rw[ab] at h2
  have h3:=aM.out
  rw[hm] at h2 h3
  exact⟨h3.1,by omega,h3.2⟩
 rw[ab]
 clear aG aM ag ah aj am H1 aD aq al
 have aQ:Hid (([]:List Fld).length=0):=rfl
 clear ab hm HN
 have HN:=aQ
 clear aQ
 obtain⟨d0,d1,d2,f0,f1,f2⟩:=aY HX.out
 obtain⟨b0,b1,b2,_⟩:=aN.out
 obtain⟨tw,aB⟩:=ex ((([]:List Fld).map Fld.key).contains f.key)
 have aR:=zh aB
 have l0:=ig (bV an.out (Below.refl WX.heap.size WX).drew (HM.out.2.1)) HK.out
 have l1:=ig (w:=(WX.alloc (.cells #[] 204)).drew) (bV an.out ((Below.refl WX.heap.size WX).alloc (Nat.le_refl _) (.cells #[] 204)).drew (HM.out.2.1)) HK.out
 rw[aB] at l0 l1
 clear aB
 go_region_held3 (fun w'=>w'.cell? ⟨d,2,none⟩=some (.map (some m))/\w'.cell? ⟨w.heap.size,0,none⟩=some (.string ⟨f.key.toArray⟩)) (go_keep) (fail)
 clear l0 l1
 all_goals (
  have ae:Hid (Below WX.heap.size WX ((WX.alloc (.cells #[] 204)).drew)):=((Below.refl WX.heap.size WX).alloc (Nat.le_refl _) (.cells #[] 204)).drew
  generalize (WX.alloc (.cells #[] 204)).drew=W3 at *
  have H3:=zh (a6 HX.out ae.out)
  have aT:Hid (FB w.heap.size f W3):=fJ ((ae.out.block _ aO.out).trans aN.out.2.2.2)
  have a8:Hid (KSet W3 m (([]:List Fld).map Fld.key)):=bV an.out ae.out (HM.out.2.1)
  have aa:Hid (Keeps B d w W3/\w.heap.size<=W3.heap.size):=⟨aP ao.out.1 <| bA (ae.out.mono (Nat.le_trans ac.out.1 ao.out.2)),Nat.le_trans ao.out.2 ae.out.size⟩
  clear d0 d1 d2 f0 f1 f2 b0 b1 b2 ao an
  obtain⟨d0,d1,d2,f0,f1,f2⟩:=aY H3.out
  obtain⟨b0,b1,b2,_⟩:=aT.out
  cases tw
  case true =>
   go_wp2_with fail
   refine (aK _).mono ?_
   rintro _ z ⟨rfl,rfl⟩
   go_wp2_with fail
   exact⟨rfl,by show AddRet w B d v0 ds acc ([]:List Fld) f _ _;exact⟨aa.out.1,aa.out.2,by rw[if_pos aR.out]⟩⟩
  case false =>
   go_wp2_with fail
   refine (aS _).mono ?_
   rintro _ z ⟨rfl,rfl⟩
   have ad:KSet W3.drew m (([]:List Fld).map Fld.key):=ij a8.out rfl
   obtain⟨W5,bf,aZ,ak⟩:=tP ad HK.out (by rw[List.length_map];have:=aF.out;omega)
   have H5:=zh (xc (a6 H3.out (Below.refl _ _).drew) ad ak)
   have a9:=zh aZ
   have aU:w.heap.size≠m:=HM.out.2.2
   have au:Hid (FB w.heap.size f W5):=fJ ((ak.grown.block w.heap.size (by have:=aO.out;have:=ae.out.size;show _<W3.heap.size;omega) (fun e=>aU (Option.some.inj e))).trans aT.out.2.2.2)
   have av:Hid (Keeps B d w W5/\w.heap.size<=W5.heap.size):=⟨aP aa.out.1 <| bA <| (Below.refl _ W3).drew.trans (lh ak.grown HM.out.1 (Nat.le_trans ac.out.1 aa.out.2)),Nat.le_trans aa.out.2 ak.grown.size⟩
   obtain⟨e0,e1,e2,k0,k1,k2⟩:=aY H5.out
   obtain⟨g0,g1,g2,_⟩:=au.out
   clear ad aZ ak aU
   go_wp2_with fail
   go_region_held3 (fun w'=>w'.cell? ⟨d,2,none⟩=some (.map (some m))/\w'.cell? ⟨w.heap.size,0,none⟩=some (.string ⟨f.key.toArray⟩)) (go_keep) (fail)
   all_goals (
    clear d0 d1 d2 f0 f1 f2 b0 b1 b2 bf
    have aV:Hid (B<=W5.heap.size):=Nat.le_trans ac.out.1 av.out.2
    have aw:Below W5.heap.size W5 (W5.alloc (.cells #[.string ⟨f.key.toArray⟩,.string ⟨f.val.toArray⟩,.int .i64 f.line] 56)):=(Below.refl _ _).alloc (Nat.le_refl _) _
    have a1:=(aY (a6 H5.out aw)).2.1
    have ba:Hid ((Value.slice A 0 c).ownBlock≠some d):=aJ H5.out.2.2.2.2.2.1 H5.out.2.1 neF
    have aW:w.heap.size<W5.heap.size:=(Array.getElem?_eq_some_iff.1 au.out.2.2.2).1
    have bb:=fJ ((aw.block _ aW).trans au.out.2.2.2)
    obtain⟨q0,q1,q2,_⟩:=bb
    clear aw aW
    go_wp2_with fail
    go_region_law (refine Rg.iC fitsF sliceF (by rfl) (.tmp 42) (.tmp 44) (by rfl) B (.slice A 0 c) ([]:List Fld) [f] (by rfl) (Rg.own_below H5.out.2.2.2.2.2.1 ((Below.refl _ _).drew.alloc (Nat.le_refl _) _)) _ _ (by rfl) (Rg.ay _ _ [f] _ (by rfl)) (Nat.zero_lt_succ _) aF.out (Nat.le_trans aV.out (by simp)) ?_;intro g cap W6 a0 aC a2;have bc:=zh a0;have aX:=zh aC;have bd:=zh a2;obtain⟨x0,x1,x2,y0,y1,y2⟩:=pN H5.out ((Below.refl _ _).drew.alloc (Nat.le_refl _) _) aC ba.out;clear a0 aC a2)
    all_goals (
     have ax:Hid (W5.grownBy W6 (Value.slice A 0 c).ownBlock):=grown_of ((Below.refl _ _).drew.alloc (Nat.le_refl _) _) aX.out
     have az:=zh (m8 H5.out.2.2.2.2.2.1 aV.out ((Below.refl _ _).drew.alloc (Nat.le_refl _) _) aX.out)
     have HD:=zh (xd H5.out bc.out ax.out (bd.out.imp id (fun h=>by rw[h];simp)))
     have be:=zh (tQ H5.out a9.out ax.out (.slice (some ⟨g,0,none⟩) (([]:List Fld).length+[f].length) cap))
     go_wp2_with fail
     exact bodyPost_ret (v:=.tuple #[]) (by simp[results,Tryz.results97,go_sem]) rfl ⟨fm (aP av.out.1 (bA az.out)) _,Nat.le_trans av.out.2 (by simpa using ax.out.size),by rw[if_neg (by rw[aR.out];decide)];exact⟨rfl,_,m,HM.out.1,HD.out,by rw[List.map_append];exact be.out⟩⟩)))
end
namespace Sz
open Go.RowKit Go.Maps
theorem yo (s:List UInt8):Lib.hasSuffix s [10]=(s.getLast? == some 10):=by
 unfold Lib.hasSuffix
 rcases List.eq_nil_or_concat s with rfl | ⟨t,c,rfl⟩
 ·rfl
 ·unfold List.isSuffixOf
  rw[List.concat_eq_append,List.reverse_append]
  show (10==c&&true)=_
  rw[Bool.and_true,List.getLast?_concat]
  show (10==c)=(c==10)
  rw[Bool.eq_iff_iff,beq_iff_eq,beq_iff_eq];exact eq_comm
theorem oM {B d:Nat}{w w':World}(h:Keeps B d w w'){a:Addr}(h1:a.block<B)(h2:a.block≠d):w'.cell? a=w.cell? a:=by
 unfold World.cell?
 rw[h.2 _ h1 h2]
theorem kf {w:World}{B d:Nat}{v0 v1 v2:Value}{ds:List Desc}{acc:List (List Fld)}{last:List Fld}(h:DrO w B d v0 v1 v2 ds acc last)(h0:∀ x,v0≠.string x)(h1:∀ x,v1≠.string x)(h2:∀ x,v2≠.string x)
  {a:Addr} {x:ByteArray} (hc:w.cell? a=some (.string x)):a.block≠d:=fun e=>by
 have hb:=h.2.1
 unfold World.cell? at hc
 rw[e,hb] at hc
 dsimp only at hc
 split at hc
 ·cases hc
 ·match h3:a.off with
  | 0=>rw[h3] at hc;exact h0 x (Option.some.inj hc)
  | 1=>rw[h3] at hc;exact h1 x (Option.some.inj hc)
  | 2=>rw[h3] at hc;exact h2 x (Option.some.inj hc)
  | k+3=>rw[h3] at hc;simp at hc
end Sz
end Go.Proofs.YtpfkphmldalmmaaGreatDoor
