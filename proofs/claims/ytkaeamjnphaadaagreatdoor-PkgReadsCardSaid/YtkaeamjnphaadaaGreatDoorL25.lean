/- Part 25 of what the laws lean on. -/
import Derived.Test.YtkaeamjnphaadaaGreatDoorL24
set_option maxRecDepth 100000
set_option maxHeartbeats 3200000
namespace Go.Proofs.YtkaeamjnphaadaaGreatDoor
section
open Go.RowKit Go.Maps Sz
attribute [local go_sem ↓] Go.wp_at_zero Go.wp_at_succ
def Sz.AddRet (w:World) (B d:Nat) (v0:Value) (ds:List Desc) (acc:List (List Fld)) (last:List Fld) (f:Fld) (e:Ending) (w':World):Prop :=
 Keeps B d w w'/\w.heap.size<=w'.heap.size/\if (last.map Fld.key).contains f.key then e=panAt f.line 6 else
  e=.returned (.tuple #[])/\∃ u1 m,B<=m/\DrO w' B d v0 u1 (.map (some m)) ds acc (last++[f])/\KSet w' m ((last++[f]).map Fld.key)
def Sz.FB (b:Nat) (f:Fld) (u:World):Prop:=u.cell? ⟨b,0,none⟩=some (.string ⟨f.key.toArray⟩)/\u.cell? ⟨b,1,none⟩=some (.string ⟨f.val.toArray⟩)/\u.cell? ⟨b,2,none⟩=some (.int .i64 f.line)/\u.heap[b]?=some (.cells #[.string ⟨f.key.toArray⟩,.string ⟨f.val.toArray⟩,.int .i64 f.line] 53 (0,0))
theorem Sz.gi {b:Nat}{f:Fld}{u:World}(h:u.heap[b]?=some (.cells #[.string ⟨f.key.toArray⟩,.string ⟨f.val.toArray⟩,.int .i64 f.line] 53 (0,0))):FB b f u:=by
 refine⟨?_,?_,?_,h⟩ <;> simp[World.cell?,h]
theorem Sz.lJ {u W:World}{B m:Nat}(hg:u.grownBy W (some m))(hm:B<=m)(hB:B<=u.heap.size):Below B u W:=by
 obtain⟨g1,g2,g3,g4,g5⟩:=hg
 refine⟨?_,?_,?_,g4,fun k hk=>g5 k (Nat.lt_of_lt_of_le hk hB) (fun e=>by have:=Option.some.inj e;omega)⟩
 ·first | exact g1 | exact g1.symm
 ·first | exact g2 | exact g2.symm
 ·first | exact g3 | exact g3.symm
theorem Sz.tG {w W:World}{B d m:Nat}{v0 v1 v2:Value}{ds:List Desc}{acc:List (List Fld)}{last:List Fld}{ks:List (List UInt8)}(h:DrO w B d v0 v1 v2 ds acc last)(hk:KSet w m ks)(hg:w.grownBy W v1.ownBlock)(x:Value):KSet (W.setCell ⟨d,1,none⟩ x) m ks:=by
 have ab:=hk
 obtain⟨n,D,⟨es,clock,hm,_⟩,_⟩:=hk
 have aa:m<w.heap.size:=(Array.getElem?_eq_some_iff.1 hm).1
 have ac:d≠m:=fun e=>by
  have h1:=h.2.1
  rw[e,hm] at h1;cases h1
 have n1:v1.ownBlock≠some m:=fun e=>by
  obtain⟨cs,fr,hc⟩:=cG h.2.2.2.2.2.1 e
  rw[hm] at hc;cases hc
 exact iQ ab (((cI W ⟨d,1,none⟩ x).block m (Nat.lt_of_lt_of_le aa hg.size) (fun e=>ac (Option.some.inj e).symm)).trans (hg.block m aa (fun e=>n1 e.symm)))
theorem ky {w:World}{B d:Nat}{v0 v1 v2:Value}{ds:List Desc}{acc:List (List Fld)}{last:List Fld}(f:Fld)(h:DrO w B d v0 v1 v2 ds acc last)(hsz:last.length+1<=1000000)(hk:f.key.length<=1000000)(hB:B<=w.heap.size)
  (hl:last≠[]) (hm:∃ m,v2=.map (some m)/\B<=m/\KSet w m (last.map Fld.key)) :
  Calls Tryz.prog 76 #[.pointer (some ⟨d,0,none⟩),.agg #[.string ⟨f.key.toArray⟩,.string ⟨f.val.toArray⟩,.int .i64 f.line]] w (Sz.AddRet w B d v0 ds acc last f):=by
 obtain⟨W1,ak⟩:=ex (w.alloc (.cells #[.string ⟨f.key.toArray⟩,.string ⟨f.val.toArray⟩,.int .i64 f.line] 53))
 have af:Hid (Below w.heap.size w W1):=ag ak
 have ax:Hid (FB w.heap.size f W1):=gi (by rw[<-ak];exact heap_alloc_new w _)
 have aN:W1.heap.size=w.heap.size+1:=by rw[<-ak];simp
 have ay:Hid (w.heap.size<W1.heap.size):=by show _<_;omega
 have H1:=zh (bg h af.out)
 have ah:Hid (B<=w.heap.size/\d<w.heap.size):=⟨hB,ij h⟩
 have HK:=zh hk
 have az:=zh hsz
 obtain⟨A,c,hv,aq,_,_⟩:=Rg.aE fitsF h.2.2.2.2.2.1
 obtain⟨n,hn⟩:=ex last.length
 rw[hn] at hv
 subst hv
 have HN:=zh hn
 obtain⟨d0,d1,d2,f0,f1,f2⟩:=a4 H1.out
 obtain⟨m,rfl,ad,ar⟩:=hm
 have aA:m<w.heap.size:=by
  obtain⟨_,_,⟨_,_,hh,_⟩,_⟩:=ar
  exact (Array.getElem?_eq_some_iff.1 hh).1
 have HM:Hid (B<=m/\m<W1.heap.size/\w.heap.size≠m):=⟨ad,by omega,by omega⟩
 have ai:Hid (KSet W1 m (last.map Fld.key)):=b9 ar af.out aA
 have aP:((n:Int)==0)=false:=by
  have:last.length≠0:=fun e=>hl (List.length_eq_zero_iff.1 e)
  rw[hn] at this
  simp;omega
 clear h hn hsz hk hB aq hl ad ar aN aA
 go_enter Tryz.func76,Tryz.ntmps76
 go_wp2_with fail
 clear ak aP
 have aj:Hid (Keeps B d w W1/\w.heap.size<=W1.heap.size):=⟨bN <| af.out.mono ah.out.1,af.out.size⟩
 have HX:=H1
 have aB:=ax
 have aC:=ay
 clear H1 ax ay
 generalize W1=WX at *
 obtain⟨b0,b1,b2,_⟩:=aB.out
 obtain⟨tw,au⟩:=ex ((last.map Fld.key).contains f.key)
 have aF:=zh au
 have l0:=iP (b9 ai.out (Below.refl WX.heap.size WX).drew (HM.out.2.1)) HK.out
 have l1:=iP (w:=(WX.alloc (.cells #[] 192)).drew) (b9 ai.out ((Below.refl WX.heap.size WX).alloc (Nat.le_refl _) (.cells #[] 192)).drew (HM.out.2.1)) HK.out
 rw[au] at l0 l1
 clear au
 go_region_held3 (fun w'=>w'.cell? ⟨d,2,none⟩=some (.map (some m))/\w'.cell? ⟨w.heap.size,0,none⟩=some (.string ⟨f.key.toArray⟩)) (go_keep) (fail)
 clear l0 l1
 all_goals (
  have ac:Hid (Below WX.heap.size WX ((WX.alloc (.cells #[] 192)).drew)):=((Below.refl WX.heap.size WX).alloc (Nat.le_refl _) (.cells #[] 192)).drew
  generalize (WX.alloc (.cells #[] 192)).drew=W3 at *
  have H3:=zh (bg HX.out ac.out)
  have aG:Hid (FB w.heap.size f W3):=gi ((ac.out.block _ aC.out).trans aB.out.2.2.2)
  have aQ:Hid (KSet W3 m (last.map Fld.key)):=b9 ai.out ac.out (HM.out.2.1)
  have aa:Hid (Keeps B d w W3/\w.heap.size<=W3.heap.size):=⟨aU aj.out.1 <| bN (ac.out.mono (Nat.le_trans ah.out.1 aj.out.2)),Nat.le_trans aj.out.2 ac.out.size⟩
  clear d0 d1 d2 f0 f1 f2 b0 b1 b2 aj ai
  obtain⟨d0,d1,d2,f0,f1,f2⟩:=a4 H3.out
  obtain⟨b0,b1,b2,_⟩:=aG.out
  cases tw
  case true =>
   go_wp2_with fail
   refine (aO _).mono ?_
   rintro _ z ⟨rfl,rfl⟩
   go_wp2_with fail
   exact⟨rfl,by show AddRet w B d v0 ds acc last f _ _;exact⟨aa.out.1,aa.out.2,by rw[if_pos aF.out]⟩⟩
  case false =>
   go_wp2_with fail
   refine (aV _).mono ?_
   rintro _ z ⟨rfl,rfl⟩
   have ab:KSet W3.drew m (last.map Fld.key):=iQ aQ.out rfl
   obtain⟨W5,aZ,aK,ae⟩:=tF ab HK.out (by rw[List.length_map];have:=az.out;omega)
   have H5:=zh (wU (bg H3.out (Below.refl _ _).drew) ab ae)
   have aR:=zh aK
   have ad:w.heap.size≠m:=HM.out.2.2
   have al:Hid (FB w.heap.size f W5):=gi ((ae.grown.block w.heap.size (by have:=aC.out;have:=ac.out.size;show _<W3.heap.size;omega) (fun e=>ad (Option.some.inj e))).trans aG.out.2.2.2)
   have am:Hid (Keeps B d w W5/\w.heap.size<=W5.heap.size):=⟨aU aa.out.1 <| bN <| (Below.refl _ W3).drew.trans (lJ ae.grown HM.out.1 (Nat.le_trans ah.out.1 aa.out.2)),Nat.le_trans aa.out.2 ae.grown.size⟩
   obtain⟨e0,e1,e2,k0,k1,k2⟩:=a4 H5.out
   obtain⟨g0,g1,g2,_⟩:=al.out
   clear ab aK ae ad
   go_wp2_with fail
   go_region_held3 (fun w'=>w'.cell? ⟨d,2,none⟩=some (.map (some m))/\w'.cell? ⟨w.heap.size,0,none⟩=some (.string ⟨f.key.toArray⟩)) (go_keep) (fail)
   all_goals (
    clear d0 d1 d2 f0 f1 f2 b0 b1 b2 aZ
    have aH:Hid (B<=W5.heap.size):=Nat.le_trans ah.out.1 am.out.2
    have an:Below W5.heap.size W5 (W5.alloc (.cells #[.string ⟨f.key.toArray⟩,.string ⟨f.val.toArray⟩,.int .i64 f.line] 53)):=(Below.refl _ _).alloc (Nat.le_refl _) _
    have a1:=(a4 (bg H5.out an)).2.1
    have aS:Hid ((Value.slice A n c).ownBlock≠some d):=aD H5.out.2.2.2.2.2.1 H5.out.2.1 neF
    have aI:w.heap.size<W5.heap.size:=(Array.getElem?_eq_some_iff.1 al.out.2.2.2).1
    have aT:=gi ((an.block _ aI).trans al.out.2.2.2)
    obtain⟨q0,q1,q2,_⟩:=aT
    clear an aI
    go_wp2_with fail
    go_region_law (refine Rg.i6 fitsF sliceF (by rfl) (.tmp 42) (.tmp 44) (by rfl) B (.slice A n c) last [f] (by rfl) (Rg.own_below H5.out.2.2.2.2.2.1 ((Below.refl _ _).drew.alloc (Nat.le_refl _) _)) _ _ (by rfl) (Rg.av _ _ [f] _ (by rfl)) (Nat.zero_lt_succ _) az.out (Nat.le_trans aH.out (by simp)) ?_;intro g cap W6 aL aw aM;have aW:=zh aL;have aJ:=zh aw;have aX:=zh aM;obtain⟨x0,x1,x2,y0,y1,y2⟩:=pO H5.out ((Below.refl _ _).drew.alloc (Nat.le_refl _) _) aw aS.out;clear aL aw aM)
    all_goals (
     have ao:Hid (W5.grownBy W6 (Value.slice A n c).ownBlock):=grown_of ((Below.refl _ _).drew.alloc (Nat.le_refl _) _) aJ.out
     have ap:=zh (nr H5.out.2.2.2.2.2.1 aH.out ((Below.refl _ _).drew.alloc (Nat.le_refl _) _) aJ.out)
     have HD:=zh (wV H5.out aW.out ao.out (aX.out.imp id (fun h=>by rw[h];simp)))
     have aY:=zh (tG H5.out aR.out ao.out (.slice (some ⟨g,0,none⟩) (last.length+[f].length) cap))
     go_wp2_with fail
     exact bodyPost_ret (v:=.tuple #[]) (by simp[results,Tryz.results76,go_sem]) rfl ⟨fL (aU am.out.1 (bN ap.out)) _,Nat.le_trans am.out.2 (by simpa using ao.out.size),by rw[if_neg (by rw[aF.out];decide)];exact⟨rfl,_,m,HM.out.1,HD.out,by rw[List.map_append];exact aY.out⟩⟩)))
theorem jw {w:World}{B d:Nat}{v0 v1 v2:Value}{ds:List Desc}{acc:List (List Fld)}{last:List Fld}(f:Fld)(h:DrO w B d v0 v1 v2 ds acc last)(hsz:last.length+1<=1000000)(hk:f.key.length<=1000000)(hB:B<=w.heap.size)
  (hl:last=[]) :
  Calls Tryz.prog 76 #[.pointer (some ⟨d,0,none⟩),.agg #[.string ⟨f.key.toArray⟩,.string ⟨f.val.toArray⟩,.int .i64 f.line]] w (Sz.AddRet w B d v0 ds acc last f):=by
 obtain⟨W1,ap⟩:=ex (w.alloc (.cells #[.string ⟨f.key.toArray⟩,.string ⟨f.val.toArray⟩,.int .i64 f.line] 53))
 have aq:Hid (Below w.heap.size w W1):=ag ap
 have aF:Hid (FB w.heap.size f W1):=gi (by rw[<-ap];exact heap_alloc_new w _)
 have a2:W1.heap.size=w.heap.size+1:=by rw[<-ap];simp
 have al:Hid (w.heap.size<W1.heap.size):=by show _<_;omega
 have H1:=zh (bg h aq.out)
 have ac:Hid (B<=w.heap.size/\d<w.heap.size):=⟨hB,ij h⟩
 have HK:=zh hk
 have aG:=zh hsz
 obtain⟨A,c,hv,aA,_,_⟩:=Rg.aE fitsF h.2.2.2.2.2.1
 obtain⟨n,hn⟩:=ex last.length
 rw[hn] at hv
 subst hv
 have HN:=zh hn
 obtain⟨d0,d1,d2,f0,f1,f2⟩:=a4 H1.out
 have aH:=zh (acz (bg H1.out ((Below.refl W1.heap.size W1).alloc (Nat.le_refl _) (.map #[] 0))) (.map (some W1.heap.size)))
 have a3:=cI (W1.alloc (.map #[] 0)) ⟨d,2,none⟩ (.map (some W1.heap.size))
 have a5:d<W1.heap.size:=by have:=ac.out.2;omega
 have ar:∀ k,k≠d->((W1.alloc (.map #[] 0)).setCell ⟨d,2,none⟩ (.map (some W1.heap.size))).heap[k]?=(W1.alloc (.map #[] 0)).heap[k]?:=fun k hk=>by
  exact Below.heap_setCell _ _ _ _ (fun e=>hk (by simp[e]))
 have af:KSet ((W1.alloc (.map #[] 0)).setCell ⟨d,2,none⟩ (.map (some W1.heap.size))) W1.heap.size []:=iQ (aaB W1) (ar _ (by omega))
 have aI:FB w.heap.size f ((W1.alloc (.map #[] 0)).setCell ⟨d,2,none⟩ (.map (some W1.heap.size))):=gi ((ar _ (by have:=ac.out.2;omega)).trans ((((Below.refl W1.heap.size W1).alloc (Nat.le_refl _) (.map #[] 0)).block _ al.out).trans aF.out.2.2.2))
 have aJ:((W1.alloc (.map #[] 0)).setCell ⟨d,2,none⟩ (.map (some W1.heap.size))).heap.size=W1.heap.size+1:=by simp[World.setCell]
 have aK:Keeps B d w ((W1.alloc (.map #[] 0)).setCell ⟨d,2,none⟩ (.map (some W1.heap.size))):=fL (bN ((aq.out.mono ac.out.1).alloc (by have:=ac.out;omega) _)) _
 have aL:Hid (B<=W1.heap.size/\w.heap.size≠W1.heap.size):=⟨by have:=ac.out;omega,by omega⟩
 have ah:=zh af
 have ai:=zh aI
 have aj:=zh aK
 have am:=zh aJ
 subst hl
 obtain rfl:n=0:=by rw[<-hn];rfl
 clear h hn hsz hk hB aA a2 a3 a5 ar af aI aJ aK
 have a6:(Instr.makeMap 142 none).run Tryz.prog W1=.ok (.map (some W1.heap.size)) (W1.alloc (.map #[] 0)):=rfl
 obtain⟨_,_,m2,_,_,m5⟩:=a4 (bg H1.out ((Below.refl W1.heap.size W1).alloc (Nat.le_refl _) (.map #[] 0)))
 go_enter Tryz.func76,Tryz.ntmps76
 go_wp2_with fail
 clear ap a6 m2 m5 d0 d1 d2 f0 f1 f2
 obtain⟨m,hm⟩:=ex W1.heap.size
 obtain⟨WX,ab⟩:=ex ((W1.alloc (.map #[] 0)).setCell ⟨d,2,none⟩ (.map (some W1.heap.size)))
 have HX:Hid (DrO WX B d v0 (.slice A 0 c) (.map (some m)) ds acc []):=by show DrO _ _ _ _ _ _ _ _ _;rw[<-ab,<-hm];exact aH.out
 have an:Hid (KSet WX m (([]:List Fld).map Fld.key)):=by show KSet _ _ _;rw[<-ab,<-hm];exact ah.out
 have aM:Hid (FB w.heap.size f WX):=by show FB _ _ _;rw[<-ab];exact ai.out
 have ao:Hid (Keeps B d w WX/\w.heap.size<=WX.heap.size):=by
  have h1:=al.out
  have h2:=am.out
  rw[ab] at h2
  exact⟨by rw[<-ab];exact aj.out,by omega⟩
 have aN:Hid (w.heap.size<WX.heap.size):=by
  have h1:=al.out
  have h2:=am.out
  rw[ab] at h2
  show _<_
  omega
 have HM:Hid (B<=m/\m<WX.heap.size/\w.heap.size≠m):=by
  have h2:=am.out
  rw[ab] at h2
  have h3:=aL.out
  rw[hm] at h2 h3
  exact⟨h3.1,by omega,h3.2⟩
 rw[ab]
 clear aH aL ah ai aj am H1 aF aq al
 have aP:Hid (([]:List Fld).length=0):=rfl
 clear ab hm HN
 have HN:=aP
 clear aP
 obtain⟨d0,d1,d2,f0,f1,f2⟩:=a4 HX.out
 obtain⟨b0,b1,b2,_⟩:=aM.out
 obtain⟨tw,aB⟩:=ex ((([]:List Fld).map Fld.key).contains f.key)
 have aQ:=zh aB
 have l0:=iP (b9 an.out (Below.refl WX.heap.size WX).drew (HM.out.2.1)) HK.out
 have l1:=iP (w:=(WX.alloc (.cells #[] 192)).drew) (b9 an.out ((Below.refl WX.heap.size WX).alloc (Nat.le_refl _) (.cells #[] 192)).drew (HM.out.2.1)) HK.out
 rw[aB] at l0 l1
 clear aB
 go_region_held3 (fun w'=>w'.cell? ⟨d,2,none⟩=some (.map (some m))/\w'.cell? ⟨w.heap.size,0,none⟩=some (.string ⟨f.key.toArray⟩)) (go_keep) (fail)
 clear l0 l1
 all_goals (
  have ae:Hid (Below WX.heap.size WX ((WX.alloc (.cells #[] 192)).drew)):=((Below.refl WX.heap.size WX).alloc (Nat.le_refl _) (.cells #[] 192)).drew
  generalize (WX.alloc (.cells #[] 192)).drew=W3 at *
  have H3:=zh (bg HX.out ae.out)
  have aR:Hid (FB w.heap.size f W3):=gi ((ae.out.block _ aN.out).trans aM.out.2.2.2)
  have a7:Hid (KSet W3 m (([]:List Fld).map Fld.key)):=b9 an.out ae.out (HM.out.2.1)
  have aa:Hid (Keeps B d w W3/\w.heap.size<=W3.heap.size):=⟨aU ao.out.1 <| bN (ae.out.mono (Nat.le_trans ac.out.1 ao.out.2)),Nat.le_trans ao.out.2 ae.out.size⟩
  clear d0 d1 d2 f0 f1 f2 b0 b1 b2 ao an
  obtain⟨d0,d1,d2,f0,f1,f2⟩:=a4 H3.out
  obtain⟨b0,b1,b2,_⟩:=aR.out
  cases tw
  case true =>
   go_wp2_with fail
   refine (aO _).mono ?_
   rintro _ z ⟨rfl,rfl⟩
   go_wp2_with fail
   exact⟨rfl,by show AddRet w B d v0 ds acc ([]:List Fld) f _ _;exact⟨aa.out.1,aa.out.2,by rw[if_pos aQ.out]⟩⟩
  case false =>
   go_wp2_with fail
   refine (aV _).mono ?_
   rintro _ z ⟨rfl,rfl⟩
   have ad:KSet W3.drew m (([]:List Fld).map Fld.key):=iQ a7.out rfl
   obtain⟨W5,be,aY,ak⟩:=tF ad HK.out (by rw[List.length_map];have:=aG.out;omega)
   have H5:=zh (wU (bg H3.out (Below.refl _ _).drew) ad ak)
   have a8:=zh aY
   have aS:w.heap.size≠m:=HM.out.2.2
   have au:Hid (FB w.heap.size f W5):=gi ((ak.grown.block w.heap.size (by have:=aN.out;have:=ae.out.size;show _<W3.heap.size;omega) (fun e=>aS (Option.some.inj e))).trans aR.out.2.2.2)
   have aw:Hid (Keeps B d w W5/\w.heap.size<=W5.heap.size):=⟨aU aa.out.1 <| bN <| (Below.refl _ W3).drew.trans (lJ ak.grown HM.out.1 (Nat.le_trans ac.out.1 aa.out.2)),Nat.le_trans aa.out.2 ak.grown.size⟩
   obtain⟨e0,e1,e2,k0,k1,k2⟩:=a4 H5.out
   obtain⟨g0,g1,g2,_⟩:=au.out
   clear ad aY ak aS
   go_wp2_with fail
   go_region_held3 (fun w'=>w'.cell? ⟨d,2,none⟩=some (.map (some m))/\w'.cell? ⟨w.heap.size,0,none⟩=some (.string ⟨f.key.toArray⟩)) (go_keep) (fail)
   all_goals (
    clear d0 d1 d2 f0 f1 f2 b0 b1 b2 be
    have aT:Hid (B<=W5.heap.size):=Nat.le_trans ac.out.1 aw.out.2
    have ax:Below W5.heap.size W5 (W5.alloc (.cells #[.string ⟨f.key.toArray⟩,.string ⟨f.val.toArray⟩,.int .i64 f.line] 53)):=(Below.refl _ _).alloc (Nat.le_refl _) _
    have a1:=(a4 (bg H5.out ax)).2.1
    have a9:Hid ((Value.slice A 0 c).ownBlock≠some d):=aD H5.out.2.2.2.2.2.1 H5.out.2.1 neF
    have aW:w.heap.size<W5.heap.size:=(Array.getElem?_eq_some_iff.1 au.out.2.2.2).1
    have ba:=gi ((ax.block _ aW).trans au.out.2.2.2)
    obtain⟨q0,q1,q2,_⟩:=ba
    clear ax aW
    go_wp2_with fail
    go_region_law (refine Rg.i6 fitsF sliceF (by rfl) (.tmp 42) (.tmp 44) (by rfl) B (.slice A 0 c) ([]:List Fld) [f] (by rfl) (Rg.own_below H5.out.2.2.2.2.2.1 ((Below.refl _ _).drew.alloc (Nat.le_refl _) _)) _ _ (by rfl) (Rg.av _ _ [f] _ (by rfl)) (Nat.zero_lt_succ _) aG.out (Nat.le_trans aT.out (by simp)) ?_;intro g cap W6 aZ aC a0;have bb:=zh aZ;have aX:=zh aC;have bc:=zh a0;obtain⟨x0,x1,x2,y0,y1,y2⟩:=pO H5.out ((Below.refl _ _).drew.alloc (Nat.le_refl _) _) aC a9.out;clear aZ aC a0)
    all_goals (
     have ay:Hid (W5.grownBy W6 (Value.slice A 0 c).ownBlock):=grown_of ((Below.refl _ _).drew.alloc (Nat.le_refl _) _) aX.out
     have az:=zh (nr H5.out.2.2.2.2.2.1 aT.out ((Below.refl _ _).drew.alloc (Nat.le_refl _) _) aX.out)
     have HD:=zh (wV H5.out bb.out ay.out (bc.out.imp id (fun h=>by rw[h];simp)))
     have bd:=zh (tG H5.out a8.out ay.out (.slice (some ⟨g,0,none⟩) (([]:List Fld).length+[f].length) cap))
     go_wp2_with fail
     exact bodyPost_ret (v:=.tuple #[]) (by simp[results,Tryz.results76,go_sem]) rfl ⟨fL (aU aw.out.1 (bN az.out)) _,Nat.le_trans aw.out.2 (by simpa using ay.out.size),by rw[if_neg (by rw[aQ.out];decide)];exact⟨rfl,_,m,HM.out.1,HD.out,by rw[List.map_append];exact bd.out⟩⟩)))
end
namespace Sz
open Go.RowKit Go.Maps
theorem yu (s:List UInt8):Lib.hasSuffix s [10]=(s.getLast? == some 10):=by
 unfold Lib.hasSuffix
 rcases List.eq_nil_or_concat s with rfl | ⟨t,c,rfl⟩
 ·rfl
 ·unfold List.isSuffixOf
  rw[List.concat_eq_append,List.reverse_append]
  show (10==c&&true)=_
  rw[Bool.and_true,List.getLast?_concat]
  show (10==c)=(c==10)
  rw[Bool.eq_iff_iff,beq_iff_eq,beq_iff_eq];exact eq_comm
theorem oQ {B d:Nat}{w w':World}(h:Keeps B d w w'){a:Addr}(h1:a.block<B)(h2:a.block≠d):w'.cell? a=w.cell? a:=by
 unfold World.cell?
 rw[h.2 _ h1 h2]
theorem kz {w:World}{B d:Nat}{v0 v1 v2:Value}{ds:List Desc}{acc:List (List Fld)}{last:List Fld}(h:DrO w B d v0 v1 v2 ds acc last)(h0:∀ x,v0≠.string x)(h1:∀ x,v1≠.string x)(h2:∀ x,v2≠.string x)
  {a:Addr} {x:ByteArray} (hc:w.cell? a=some (.string x)):a.block≠d:=fun e=>by
 have hb:=h.2.1
 unfold World.cell? at hc
 rw[e,hb] at hc
 dsimp only at hc
 split at hc
 ·cases hc
 ·match h3:a.off with
  | 0=>rw[h3] at hc;exact h0 x (Option.some.inj hc)
  | 1=>rw[h3] at hc;exact h1 x (Option.some.inj hc)
  | 2=>rw[h3] at hc;exact h2 x (Option.some.inj hc)
  | k+3=>rw[h3] at hc;simp at hc
end Sz
section
open Go.RowKit Go.Maps Sz
attribute [local go_sem ↓] Go.wp_at_zero Go.wp_at_succ
def Sz.ReadRet (w:World) (R:Int × Int × List (List Fld)) (e:Ending) (w':World):Prop :=
 Below w.heap.size w w'/\if R.1=0 then ∃ A c ds,e=.returned (.slice A R.2.2.length c)/\Rg.Row encO 1 w' A ds/\Gr.In encF 3 w' ds R.2.2/\∀ x∈ds,x.2.1<=x.2.2 else e=panAt R.2.1 R.1
def Sz.KeysOk (w:World) (B:Nat) (v2:Value) (last:List Fld):Prop:=last=[]\/∃ m,v2=.map (some m)/\B<=m/\KSet w m (last.map Fld.key)
theorem Sz.cj {w w':World}{k n:Int}{l:List (List Fld)}(hk:k≠0)(hb:Below w.heap.size w w'):ReadRet w (k,n,l) (panAt n k) w':=⟨hb,by show if k=0 then _ else _;rw[if_neg hk]⟩
theorem Sz.mf (l:List Fld)(k:List UInt8):hasK l k=(l.map Fld.key).contains k:=by
 induction l with
 | nil=>rfl
 | cons f l ih =>
  rw[List.map_cons,List.contains_cons,<-ih]
  show (f.key==k||_)=_
  rw[show (f.key==k)=(k==f.key) by rw[Bool.eq_iff_iff,beq_iff_eq,beq_iff_eq];exact eq_comm];rfl
theorem Sz.wW {k:List UInt8}(h:keyB k=true):k.length<=1000000:=by
 unfold keyB at h
 rw[Bool.and_eq_true,Bool.and_eq_true,decide_eq_true_eq] at h
 omega
theorem tH (s:List UInt8)(w:World)(hw:MaxOk w)(hs:s.length<=65536)(h0:s≠[])(h1:Lib.hasSuffix s [10]=true) :
  Calls Tryz.prog 32 #[.string ⟨s.toArray⟩] w (Sz.ReadRet w (readL 0 (linesL s) [] [])):=by
 obtain⟨R,hR⟩:=ex (readL 0 (linesL s) [] [])
 rw[hR]
 obtain⟨W1,a7⟩:=ex (w.alloc (.cells #[.slice none 0 0,.slice none 0 0,.map none] 144))
 have ay:Hid (Below w.heap.size w W1):=ag a7
 have a8:Hid (∀ B,DrO W1 B w.heap.size (.slice none 0 0) (.slice none 0 0) (.map none) [] [] []):=fun B=>by rw[<-a7];exact wT
 have a9:=zh (mL s W1 (ah hw ay.out) (by omega))
 have bq:Hid (MaxOk W1):=ah hw ay.out
 have HR:=zh hR
 have br:=zh hw
 have dl:decide ((s.length:Int)<=65536)=true:=decide_eq_true (by omega)
 have aq:=zh hs
 have bz:(s==[])=false:=beq_eq_false_iff_ne.2 h0
 have bA:decide (s.length=0)=false:=decide_eq_false (fun e=>h0 (List.length_eq_zero_iff.1 e))
 have bs:=zh h1
 clear h1 h0
 clear hw hR hs
 go_enter Tryz.func32,Tryz.ntmps32
 go_wp2_with fail
 refine (aj _).mono ?_
 rintro _ z ⟨rfl,rfl⟩
 go_wp2_with fail
 refine (Tryz.strings_HasSuffix ⟨s.toArray⟩ ⟨#[10]⟩ _ (by show s.length<=_;have:=aq.out;omega)).mono ?_
 rintro _ z ⟨rfl,hz⟩
 obtain rfl:=hz.symm
 clear hz
 rw[show Lib.hasSuffix (⟨s.toArray⟩:ByteArray).data.toList (⟨#[10]⟩:ByteArray).data.toList=true from bs.out]
 go_wp2_with fail
 refine (aj _).mono ?_
 rintro _ z ⟨rfl,rfl⟩
 go_wp2_with fail
 clear a7
 refine a9.out.mono ?_
 rintro _ u ⟨A,n,c,rfl,hn,bj,aI,hb⟩
 obtain⟨D,hD⟩:=ex w.heap.size
 have HD:=zh hD
 have ba:Hid (DrO u u.heap.size D (.slice none 0 0) (.slice none 0 0) (.map none) [] [] []):=by show DrO _ _ _ _ _ _ _ _ _;rw[<-hD];exact bg (a8.out _) hb
 have HN:=zh hn
 have az:=zh bj
 have aT:=zh aI
 have ar:Hid (Below D w u/\w.heap.size<=u.heap.size):=⟨by rw[<-hD];exact bt ay.out hb,Nat.le_trans ay.out.size hb.size⟩
 have bB:Hid (MaxOk u):=ah bq.out hb
 rw[hD]
 clear hn aI hb dl bj hD a9 a8 ay
 go_wp2_with fail
 go_loopw [22] (fun i wr=>∃ (k:Nat) (acc:List (List Fld)) (last:List Fld) (ds:List Desc) (v0 v1 v2:Value),i=.int .i64 k/\k<=n/\Hid (DrO wr u.heap.size D v0 v1 v2 ds acc last)/\Hid (KeysOk wr u.heap.size v2 last)/\Hid (readL k ((linesL s).drop k) acc last=R)/\Hid (Keeps u.heap.size D u wr/\u.heap.size<=wr.heap.size)/\Hid (ds.length+last.length<=k)) (fun i _=>n-(intOf i).toNat)
 case atStart=>exact⟨0,[],[],[],_,_,_,rfl,Nat.zero_le _,ba,Or.inl rfl,HR,⟨bN (Below.refl _ _),Nat.le_refl _⟩,Nat.zero_le _⟩
 case round =>
  obtain⟨k,acc,last,ds,v0,v1,v2,rfl,hk,aw,bw,bk,ac,aJ⟩:=hrel
  by_cases bu:k<n
  ·have aW:k<(linesL s).length:=by rw[HN.out];exact bu
   obtain⟨ad,hA,aK,ae⟩:=Sz.bU aT.out k aW
   subst hA
   have bb:ad.block≠D:=by
    have:=kz ba.out (fun x h=>by cases h) (fun x h=>by cases h) (fun x h=>by cases h) ae
    rwa [Rs.add_block] at this
   have cw:=(oQ ac.out.1 (a:=ad.add k) (by rw[Rs.add_block];exact aK) (by rw[Rs.add_block];exact bb)).trans ae
   have bc:Hid ((linesL s)[k].length<=65536):=Nat.le_trans (wS (List.getElem_mem aW)) aq.out
   have ai:=bk.out
   rw[List.drop_eq_getElem_cons aW] at ai
   have aX:((linesL s).drop (k+1)).length=n-(k+1):=by rw[List.length_drop,HN.out]
   obtain⟨rest,af⟩:=ex ((linesL s).drop (k+1))
   obtain⟨ln,bl⟩:=ex ((linesL s)[k])
   rw[bl] at cw ai bc
   rw[af] at ai aX
   have bd:=zh af
   have aA:=zh aX
   have ik:(k:Int)<(n:Int):=by omega
   have bC:IntKind.i64.wrap ((k:Int)+1)=(k:Int)+1:=IntWalk.i64_in _ (by have:=az.out;have:=aq.out;omega)
   have bD:IntKind.i64.wrap ((n:Int)-1)=(n:Int)-1:=IntWalk.i64_in _ (by have:=az.out;have:=aq.out;omega)
   obtain⟨A1,c1,bm,_,_,_⟩:=Rg.aE fitsF aw.out.2.2.2.2.2.1
   obtain⟨q,hq⟩:=ex last.length
   rw[hq] at bm
   subst bm
   obtain⟨e0,e1,e2,_,_,_⟩:=a4 aw.out
   have HQ:=zh hq
   have aL:Hid (Below D w wr):=ar.out.1.trans (eH ac.out.1 (Nat.le_trans (by rw[HD.out];exact Nat.le_refl _) ar.out.2))
   clear ae aK bb af bl aX hq
   by_cases hle:ln=[]
   ·subst hle
    have aa:(if (last.isEmpty||rest.isEmpty) then (2,(k:Int),[]) else readL (k+1) rest (acc++[last]) [])=R:=ai
    by_cases aM:0<q/\k+1<n
    ·have i1:(0:Int)<(q:Int):=by omega
     have i2:(k:Int)<(n:Int)-1:=by omega
     have aY:Hid (readL (k+1) rest (acc++[last]) []=R):=by
      show _=_
      rw[if_neg] at aa
      ·exact aa
      ·cases last with
       | nil=>have:=HQ.out;simp at this;omega
       | cons x l=>cases rest with
        | nil=>have:=aA.out;simp at this;omega
        | cons y r=>simp
     have be:=zh aM
     clear aM ai aa
     go_wp2_with fail
     refine (aV _).mono ?_
     rintro _ z ⟨rfl,rfl⟩
     go_wp2_with fail
     refine (eY aw.out (by have:=aJ.out;have:=az.out;have:=aq.out;omega) ac.out.2).mono ?_
     rintro _ z ⟨rfl,ak,an,u0,u1,ax,ab⟩
     have aB:last≠[]:=fun e=>by have:=HQ.out;rw[e] at this;simp at this;have:=be.out;omega
     rw[if_neg aB] at ab
     have aZ:=zh ab
     have aN:Hid (Keeps u.heap.size D u z/\u.heap.size<=z.heap.size):=⟨aU ac.out.1 ak,Nat.le_trans ac.out.2 an⟩
     have a0:Hid (ax.length+([]:List Fld).length<=k+1):=by
      have h1:=ab.2.2.2.1.1
      have h2:=aw.out.2.2.2.1.1
      rw[List.length_append] at h1
      have h3:=aJ.out
      have h4:=HQ.out
      have h5:=be.out
      show ax.length+0<=k+1
      simp at h1
      omega
     clear ak an ab aB
     go_wp2_with fail
     go_roundw
     case rel=>exact⟨k+1,acc++[last],[],ax,_,_,_,by go_num,by omega,aZ,Or.inl rfl,by show readL _ _ _ _=R;rw[bd.out];exact aY.out,aN,a0⟩
     case measure=>simp[intOf];omega
    ·have al:Hid (R=(2,(k:Int),[])):=by
      show _=_
      rw[<-aa,if_pos]
      cases last with
      | nil=>rfl
      | cons x l=>cases rest with
       | nil=>simp
       | cons y r =>
        have h1:=HQ.out
        have h2:=aA.out
        simp at h1 h2
        omega
     clear ai aa
     by_cases bf:0<q
     ·have i1:(0:Int)<(q:Int):=by omega
      have i2:¬ (k:Int)<(n:Int)-1:=by omega
      clear aM bf
      go_wp2_with fail
      refine (aO _).mono ?_
      rintro _ z ⟨rfl,rfl⟩
      go_wp2_with fail
      exact⟨rfl,by show ReadRet w R _ _;rw[al.out];exact cj (by decide) (by rw[HD.out];exact aL.out)⟩
     ·have i1:¬ (0:Int)<(q:Int):=by omega
      clear aM bf
      go_wp2_with fail
      refine (aO _).mono ?_
      rintro _ z ⟨rfl,rfl⟩
      go_wp2_with fail
      exact⟨rfl,by show ReadRet w R _ _;rw[al.out];exact cj (by decide) (by rw[HD.out];exact aL.out)⟩
   ·have aa:(match Sz.fieldP ln (k:Int) with | none=>((2:Int),(k:Int),([]:List (List Fld))) | some f=>if hasK last f.key then (6,(k:Int),[]) else readL (k+1) rest acc (last++[f]))=R:=by
     cases ln with
     | nil=>exact absurd rfl hle
     | cons x t=>exact ai
    have bE:(ln==[])=false:=beq_eq_false_iff_ne.2 hle
    have aP:=mK ln (k:Int) wr (ah br.out (by rw[HD.out];exact aL.out)) (Nat.le_trans bc.out (by decide))
    have aQ:=@Sz.j9 ln (k:Int)
    obtain⟨F,hF⟩:=ex (Sz.fieldP ln (k:Int))
    rw[hF] at aa aP aQ
    have a1:=zh aP
    cases F with
    | none =>
     have al:Hid (R=(2,(k:Int),[])):=aa.symm
     clear ai aa aP aQ hF hle
     go_wp2_with fail
     refine a1.out.mono ?_
     rintro e z ⟨hb,he⟩
     have aC:Hid (Below D w z):=aL.out.trans (hb.mono (Nat.le_trans (by rw[<-HD.out];exact ar.out.2) ac.out.2))
     have a2:e=panAt k 2:=he
     subst a2
     clear hb he
     go_wp2_with fail
     exact⟨rfl,by show ReadRet w R _ _;rw[al.out];exact cj (by decide) (by rw[HD.out];exact aC.out)⟩
    | some f =>
     obtain⟨_,ao,bn,_⟩:=aQ rfl
     have am:=zh ao
     have bh:=zh (wW bn)
     have bi:Hid ((if hasK last f.key then ((6:Int),(k:Int),([]:List (List Fld))) else readL (k+1) rest acc (last++[f]))=R):=aa
     clear ai aa aP aQ hF hle ao bn
     go_wp2_with fail
     refine a1.out.mono ?_
     rintro e z ⟨hb,he⟩
     have a2:e=.returned (.agg #[.string ⟨f.key.toArray⟩,.string ⟨f.val.toArray⟩,.int .i64 (k:Int)]):=he
     subst a2
     have aR:Hid (Keeps u.heap.size D u z/\u.heap.size<=z.heap.size):=⟨aU ac.out.1 (bN (hb.mono ac.out.2)),Nat.le_trans ac.out.2 hb.size⟩
     have a3:=bg aw.out hb
     have au:Calls Tryz.prog 76 #[.pointer (some ⟨D,0,none⟩),.agg #[.string ⟨f.key.toArray⟩,.string ⟨f.val.toArray⟩,.int .i64 f.line]] z (Sz.AddRet z u.heap.size D v0 ds acc last f):=by
      have aD:last.length+1<=1000000:=by have:=aJ.out;have:=az.out;have:=aq.out;omega
      by_cases hl:last=[]
      ·exact jw f a3 aD bh.out aR.out.2 hl
      ·rcases bw.out with h | ⟨m,h1,h2,h3⟩
       ·exact absurd h hl
       ·refine ky f a3 aD bh.out aR.out.2 hl ⟨m,h1,h2,?_⟩
        obtain⟨_,_,⟨_,_,hh,_⟩,_⟩:=id h3
        exact b9 h3 hb (Array.getElem?_eq_some_iff.1 hh).1
     rw[am.out] at au
     have a5:=zh au
     clear hb he a3 au a1
     go_wp2_with fail
     refine a5.out.mono ?_
     rintro e z2 ⟨ak,an,aS⟩
     have aN:Hid (Keeps u.heap.size D u z2/\u.heap.size<=z2.heap.size):=⟨aU aR.out.1 ak,Nat.le_trans aR.out.2 an⟩
     by_cases av:(last.map Fld.key).contains f.key=true
     ·rw[if_pos av,am.out] at aS
      have al:Hid (R=(6,(k:Int),[])):=by show _=_;rw[<-bi.out,mf,if_pos av]
      have aC:Hid (Below D w z2):=ar.out.1.trans (eH aN.out.1 (Nat.le_trans (by rw[HD.out];exact Nat.le_refl _) ar.out.2))
      subst aS
      clear av ak an
      go_wp2_with fail
      exact⟨rfl,by show ReadRet w R _ _;rw[al.out];exact cj (by decide) (by rw[HD.out];exact aC.out)⟩
     ·rw[if_neg av] at aS
      obtain⟨rfl,u1,m,bo,ab,bp⟩:=aS
      have aY:Hid (readL (k+1) rest acc (last++[f])=R):=by show _=_;rw[<-bi.out,mf,if_neg av]
      have aZ:=zh ab
      have a6:Hid (KeysOk z2 u.heap.size (.map (some m)) (last++[f])):=Or.inr ⟨m,rfl,bo,bp⟩
      have a0:Hid (ds.length+(last++[f]).length<=k+1):=by have:=aJ.out;show _<=_;rw[List.length_append];show _+(_+1)<=_;omega
      clear av ak an bo ab bp
      go_wp2_with fail
      go_roundw
      case rel=>exact⟨k+1,acc,last++[f],ds,_,_,_,by go_num,by omega,aZ,a6,by show readL _ _ _ _=R;rw[bd.out];exact aY.out,aN,a0⟩
      case measure=>simp[intOf];omega
  ·obtain rfl:k=n:=by omega
   have al:Hid (R=(0,0,if last=[] then acc else acc++[last])):=by
    show _=_
    rw[<-bk.out,List.drop_eq_nil_of_le (by rw[HN.out];exact Nat.le_refl _)]
    cases last <;> rfl
   have ik:¬ (k:Int)<(k:Int):=by omega
   go_wp2_with fail
   refine (eY aw.out (by have:=aJ.out;have:=az.out;have:=aq.out;omega) ac.out.2).mono ?_
   rintro _ z ⟨rfl,ak,an,u0,u1,ax,ab⟩
   have aC:Hid (Below D w z):=ar.out.1.trans (eH (aU ac.out.1 ak) (Nat.le_trans (by rw[HD.out];exact Nat.le_refl _) ar.out.2))
   obtain⟨A2,c2,bx,ap,_,_⟩:=Rg.aE fitsO ab.2.2.1
   have aF:=ab.2.2.2.1
   have bv:Hid (∀ x∈ax,x.2.1<=x.2.2):=ab.1
   subst bx
   obtain⟨e0,_,_,_,_,_⟩:=a4 ab
   have aG:=zh ap
   have aH:=zh aF
   clear ak an ab ap aF
   go_wp2_with fail
   go_ret
   show ReadRet w R _ _
   rw[al.out]
   refine⟨by rw[HD.out];exact aC.out,?_⟩
   show if (0:Int)=0 then _ else _
   rw[if_pos rfl]
   exact⟨A2,c2,ax,congrArg (fun x=>Ending.returned (Value.slice A2 x c2)) aH.out.1,aG.out,aH.out,bv.out⟩
theorem tI (s:List UInt8)(w:World)(hw:MaxOk w)(hs:s.length<=65536)(h0:s=[]) :
  Calls Tryz.prog 32 #[.string ⟨s.toArray⟩] w (Sz.ReadRet w (readL 0 (linesL s) [] [])):=by
 obtain⟨R,hR⟩:=ex (readL 0 (linesL s) [] [])
 rw[hR]
 obtain⟨W1,a7⟩:=ex (w.alloc (.cells #[.slice none 0 0,.slice none 0 0,.map none] 144))
 have ay:Hid (Below w.heap.size w W1):=ag a7
 have a8:Hid (∀ B,DrO W1 B w.heap.size (.slice none 0 0) (.slice none 0 0) (.map none) [] [] []):=fun B=>by rw[<-a7];exact wT
 have a9:=zh (mL s W1 (ah hw ay.out) (by omega))
 have bq:Hid (MaxOk W1):=ah hw ay.out
 have HR:=zh hR
 have br:=zh hw
 have dl:decide ((s.length:Int)<=65536)=true:=decide_eq_true (by omega)
 have au:=zh hs
 have bx:(s==[])=true:=by rw[h0];rfl
 clear h0
 clear hw hR hs
 go_enter Tryz.func32,Tryz.ntmps32
 go_wp2_with fail
 refine (aj _).mono ?_
 rintro _ z ⟨rfl,rfl⟩
 go_wp2_with fail
 refine (aj _).mono ?_
 rintro _ z ⟨rfl,rfl⟩
 go_wp2_with fail
 clear a7
 refine a9.out.mono ?_
 rintro _ u ⟨A,n,c,rfl,hn,bj,aI,hb⟩
 obtain⟨D,hD⟩:=ex w.heap.size
 have HD:=zh hD
 have ba:Hid (DrO u u.heap.size D (.slice none 0 0) (.slice none 0 0) (.map none) [] [] []):=by show DrO _ _ _ _ _ _ _ _ _;rw[<-hD];exact bg (a8.out _) hb
 have HN:=zh hn
 have az:=zh bj
 have aT:=zh aI
 have aq:Hid (Below D w u/\w.heap.size<=u.heap.size):=⟨by rw[<-hD];exact bt ay.out hb,Nat.le_trans ay.out.size hb.size⟩
 have bz:Hid (MaxOk u):=ah bq.out hb
 rw[hD]
 clear hn aI hb dl bj hD a9 a8 ay
 go_wp2_with fail
 go_loopw [22] (fun i wr=>∃ (k:Nat) (acc:List (List Fld)) (last:List Fld) (ds:List Desc) (v0 v1 v2:Value),i=.int .i64 k/\k<=n/\Hid (DrO wr u.heap.size D v0 v1 v2 ds acc last)/\Hid (KeysOk wr u.heap.size v2 last)/\Hid (readL k ((linesL s).drop k) acc last=R)/\Hid (Keeps u.heap.size D u wr/\u.heap.size<=wr.heap.size)/\Hid (ds.length+last.length<=k)) (fun i _=>n-(intOf i).toNat)
 case atStart=>exact⟨0,[],[],[],_,_,_,rfl,Nat.zero_le _,ba,Or.inl rfl,HR,⟨bN (Below.refl _ _),Nat.le_refl _⟩,Nat.zero_le _⟩
 case round =>
  obtain⟨k,acc,last,ds,v0,v1,v2,rfl,hk,aw,bv,bk,ac,aJ⟩:=hrel
  by_cases bs:k<n
  ·have aW:k<(linesL s).length:=by rw[HN.out];exact bs
   obtain⟨ad,hA,aK,ae⟩:=Sz.bU aT.out k aW
   subst hA
   have bb:ad.block≠D:=by
    have:=kz ba.out (fun x h=>by cases h) (fun x h=>by cases h) (fun x h=>by cases h) ae
    rwa [Rs.add_block] at this
   have cw:=(oQ ac.out.1 (a:=ad.add k) (by rw[Rs.add_block];exact aK) (by rw[Rs.add_block];exact bb)).trans ae
   have bc:Hid ((linesL s)[k].length<=65536):=Nat.le_trans (wS (List.getElem_mem aW)) au.out
   have ai:=bk.out
   rw[List.drop_eq_getElem_cons aW] at ai
   have aX:((linesL s).drop (k+1)).length=n-(k+1):=by rw[List.length_drop,HN.out]
   obtain⟨rest,af⟩:=ex ((linesL s).drop (k+1))
   obtain⟨ln,bl⟩:=ex ((linesL s)[k])
   rw[bl] at cw ai bc
   rw[af] at ai aX
   have bd:=zh af
   have aA:=zh aX
   have ik:(k:Int)<(n:Int):=by omega
   have bA:IntKind.i64.wrap ((k:Int)+1)=(k:Int)+1:=IntWalk.i64_in _ (by have:=az.out;have:=au.out;omega)
   have bB:IntKind.i64.wrap ((n:Int)-1)=(n:Int)-1:=IntWalk.i64_in _ (by have:=az.out;have:=au.out;omega)
   obtain⟨A1,c1,bm,_,_,_⟩:=Rg.aE fitsF aw.out.2.2.2.2.2.1
   obtain⟨q,hq⟩:=ex last.length
   rw[hq] at bm
   subst bm
   obtain⟨e0,e1,e2,_,_,_⟩:=a4 aw.out
   have HQ:=zh hq
   have aL:Hid (Below D w wr):=aq.out.1.trans (eH ac.out.1 (Nat.le_trans (by rw[HD.out];exact Nat.le_refl _) aq.out.2))
   clear ae aK bb af bl aX hq
   by_cases hle:ln=[]
   ·subst hle
    have aa:(if (last.isEmpty||rest.isEmpty) then (2,(k:Int),[]) else readL (k+1) rest (acc++[last]) [])=R:=ai
    by_cases aM:0<q/\k+1<n
    ·have i1:(0:Int)<(q:Int):=by omega
     have i2:(k:Int)<(n:Int)-1:=by omega
     have aY:Hid (readL (k+1) rest (acc++[last]) []=R):=by
      show _=_
      rw[if_neg] at aa
      ·exact aa
      ·cases last with
       | nil=>have:=HQ.out;simp at this;omega
       | cons x l=>cases rest with
        | nil=>have:=aA.out;simp at this;omega
        | cons y r=>simp
     have be:=zh aM
     clear aM ai aa
     go_wp2_with fail
     refine (aV _).mono ?_
     rintro _ z ⟨rfl,rfl⟩
     go_wp2_with fail
     refine (eY aw.out (by have:=aJ.out;have:=az.out;have:=au.out;omega) ac.out.2).mono ?_
     rintro _ z ⟨rfl,ak,an,u0,u1,ax,ab⟩
     have aB:last≠[]:=fun e=>by have:=HQ.out;rw[e] at this;simp at this;have:=be.out;omega
     rw[if_neg aB] at ab
     have aZ:=zh ab
     have aN:Hid (Keeps u.heap.size D u z/\u.heap.size<=z.heap.size):=⟨aU ac.out.1 ak,Nat.le_trans ac.out.2 an⟩
     have a0:Hid (ax.length+([]:List Fld).length<=k+1):=by
      have h1:=ab.2.2.2.1.1
      have h2:=aw.out.2.2.2.1.1
      rw[List.length_append] at h1
      have h3:=aJ.out
      have h4:=HQ.out
      have h5:=be.out
      show ax.length+0<=k+1
      simp at h1
      omega
     clear ak an ab aB
     go_wp2_with fail
     go_roundw
     case rel=>exact⟨k+1,acc++[last],[],ax,_,_,_,by go_num,by omega,aZ,Or.inl rfl,by show readL _ _ _ _=R;rw[bd.out];exact aY.out,aN,a0⟩
     case measure=>simp[intOf];omega
    ·have al:Hid (R=(2,(k:Int),[])):=by
      show _=_
      rw[<-aa,if_pos]
      cases last with
      | nil=>rfl
      | cons x l=>cases rest with
       | nil=>simp
       | cons y r =>
        have h1:=HQ.out
        have h2:=aA.out
        simp at h1 h2
        omega
     clear ai aa
     by_cases bf:0<q
     ·have i1:(0:Int)<(q:Int):=by omega
      have i2:¬ (k:Int)<(n:Int)-1:=by omega
      clear aM bf
      go_wp2_with fail
      refine (aO _).mono ?_
      rintro _ z ⟨rfl,rfl⟩
      go_wp2_with fail
      exact⟨rfl,by show ReadRet w R _ _;rw[al.out];exact cj (by decide) (by rw[HD.out];exact aL.out)⟩
     ·have i1:¬ (0:Int)<(q:Int):=by omega
      clear aM bf
      go_wp2_with fail
      refine (aO _).mono ?_
      rintro _ z ⟨rfl,rfl⟩
      go_wp2_with fail
      exact⟨rfl,by show ReadRet w R _ _;rw[al.out];exact cj (by decide) (by rw[HD.out];exact aL.out)⟩
   ·have aa:(match Sz.fieldP ln (k:Int) with | none=>((2:Int),(k:Int),([]:List (List Fld))) | some f=>if hasK last f.key then (6,(k:Int),[]) else readL (k+1) rest acc (last++[f]))=R:=by
     cases ln with
     | nil=>exact absurd rfl hle
     | cons x t=>exact ai
    have bC:(ln==[])=false:=beq_eq_false_iff_ne.2 hle
    have aP:=mK ln (k:Int) wr (ah br.out (by rw[HD.out];exact aL.out)) (Nat.le_trans bc.out (by decide))
    have aQ:=@Sz.j9 ln (k:Int)
    obtain⟨F,hF⟩:=ex (Sz.fieldP ln (k:Int))
    rw[hF] at aa aP aQ
    have a1:=zh aP
    cases F with
    | none =>
     have al:Hid (R=(2,(k:Int),[])):=aa.symm
     clear ai aa aP aQ hF hle
     go_wp2_with fail
     refine a1.out.mono ?_
     rintro e z ⟨hb,he⟩
     have aC:Hid (Below D w z):=aL.out.trans (hb.mono (Nat.le_trans (by rw[<-HD.out];exact aq.out.2) ac.out.2))
     have a2:e=panAt k 2:=he
     subst a2
     clear hb he
     go_wp2_with fail
     exact⟨rfl,by show ReadRet w R _ _;rw[al.out];exact cj (by decide) (by rw[HD.out];exact aC.out)⟩
    | some f =>
     obtain⟨_,ao,bn,_⟩:=aQ rfl
     have am:=zh ao
     have bh:=zh (wW bn)
     have bi:Hid ((if hasK last f.key then ((6:Int),(k:Int),([]:List (List Fld))) else readL (k+1) rest acc (last++[f]))=R):=aa
     clear ai aa aP aQ hF hle ao bn
     go_wp2_with fail
     refine a1.out.mono ?_
     rintro e z ⟨hb,he⟩
     have a2:e=.returned (.agg #[.string ⟨f.key.toArray⟩,.string ⟨f.val.toArray⟩,.int .i64 (k:Int)]):=he
     subst a2
     have aR:Hid (Keeps u.heap.size D u z/\u.heap.size<=z.heap.size):=⟨aU ac.out.1 (bN (hb.mono ac.out.2)),Nat.le_trans ac.out.2 hb.size⟩
     have a3:=bg aw.out hb
     have ar:Calls Tryz.prog 76 #[.pointer (some ⟨D,0,none⟩),.agg #[.string ⟨f.key.toArray⟩,.string ⟨f.val.toArray⟩,.int .i64 f.line]] z (Sz.AddRet z u.heap.size D v0 ds acc last f):=by
      have aD:last.length+1<=1000000:=by have:=aJ.out;have:=az.out;have:=au.out;omega
      by_cases hl:last=[]
      ·exact jw f a3 aD bh.out aR.out.2 hl
      ·rcases bv.out with h | ⟨m,h1,h2,h3⟩
       ·exact absurd h hl
       ·refine ky f a3 aD bh.out aR.out.2 hl ⟨m,h1,h2,?_⟩
        obtain⟨_,_,⟨_,_,hh,_⟩,_⟩:=id h3
        exact b9 h3 hb (Array.getElem?_eq_some_iff.1 hh).1
     rw[am.out] at ar
     have a5:=zh ar
     clear hb he a3 ar a1
     go_wp2_with fail
     refine a5.out.mono ?_
     rintro e z2 ⟨ak,an,aS⟩
     have aN:Hid (Keeps u.heap.size D u z2/\u.heap.size<=z2.heap.size):=⟨aU aR.out.1 ak,Nat.le_trans aR.out.2 an⟩
     by_cases av:(last.map Fld.key).contains f.key=true
     ·rw[if_pos av,am.out] at aS
      have al:Hid (R=(6,(k:Int),[])):=by show _=_;rw[<-bi.out,mf,if_pos av]
      have aC:Hid (Below D w z2):=aq.out.1.trans (eH aN.out.1 (Nat.le_trans (by rw[HD.out];exact Nat.le_refl _) aq.out.2))
      subst aS
      clear av ak an
      go_wp2_with fail
      exact⟨rfl,by show ReadRet w R _ _;rw[al.out];exact cj (by decide) (by rw[HD.out];exact aC.out)⟩
     ·rw[if_neg av] at aS
      obtain⟨rfl,u1,m,bo,ab,bp⟩:=aS
      have aY:Hid (readL (k+1) rest acc (last++[f])=R):=by show _=_;rw[<-bi.out,mf,if_neg av]
      have aZ:=zh ab
      have a6:Hid (KeysOk z2 u.heap.size (.map (some m)) (last++[f])):=Or.inr ⟨m,rfl,bo,bp⟩
      have a0:Hid (ds.length+(last++[f]).length<=k+1):=by have:=aJ.out;show _<=_;rw[List.length_append];show _+(_+1)<=_;omega
      clear av ak an bo ab bp
      go_wp2_with fail
      go_roundw
      case rel=>exact⟨k+1,acc,last++[f],ds,_,_,_,by go_num,by omega,aZ,a6,by show readL _ _ _ _=R;rw[bd.out];exact aY.out,aN,a0⟩
      case measure=>simp[intOf];omega
  ·obtain rfl:k=n:=by omega
   have al:Hid (R=(0,0,if last=[] then acc else acc++[last])):=by
    show _=_
    rw[<-bk.out,List.drop_eq_nil_of_le (by rw[HN.out];exact Nat.le_refl _)]
    cases last <;> rfl
   have ik:¬ (k:Int)<(k:Int):=by omega
   go_wp2_with fail
   refine (eY aw.out (by have:=aJ.out;have:=az.out;have:=au.out;omega) ac.out.2).mono ?_
   rintro _ z ⟨rfl,ak,an,u0,u1,ax,ab⟩
   have aC:Hid (Below D w z):=aq.out.1.trans (eH (aU ac.out.1 ak) (Nat.le_trans (by rw[HD.out];exact Nat.le_refl _) aq.out.2))
   obtain⟨A2,c2,bw,ap,_,_⟩:=Rg.aE fitsO ab.2.2.1
   have aF:=ab.2.2.2.1
   have bu:Hid (∀ x∈ax,x.2.1<=x.2.2):=ab.1
   subst bw
   obtain⟨e0,_,_,_,_,_⟩:=a4 ab
   have aG:=zh ap
   have aH:=zh aF
   clear ak an ab ap aF
   go_wp2_with fail
   go_ret
   show ReadRet w R _ _
   rw[al.out]
   refine⟨by rw[HD.out];exact aC.out,?_⟩
   show if (0:Int)=0 then _ else _
   rw[if_pos rfl]
   exact⟨A2,c2,ax,congrArg (fun x=>Ending.returned (Value.slice A2 x c2)) aH.out.1,aG.out,aH.out,bu.out⟩
theorem tJ (s:List UInt8)(w:World)(hs:65536<s.length) :
  Calls Tryz.prog 32 #[.string ⟨s.toArray⟩] w fun e w'=>e=pan 4/\w=w':=by
 have dl:decide ((s.length:Int)<=65536)=false:=decide_eq_false (by omega)
 clear hs
 go_enter Tryz.func32,Tryz.ntmps32
 go_wp2_with fail
 refine (an _).mono ?_
 rintro _ z ⟨rfl,rfl⟩
 go_wp2_with fail
 exact⟨rfl,rfl,rfl⟩
theorem tK (s:List UInt8)(w:World)(hs:s.length<=65536)(h0:s≠[])(h1:Lib.hasSuffix s [10]=false) :
  Calls Tryz.prog 32 #[.string ⟨s.toArray⟩] w fun e w'=>e=pan 2/\w=w':=by
 have dl:decide ((s.length:Int)<=65536)=true:=decide_eq_true (by omega)
 have ac:(s==[])=false:=beq_eq_false_iff_ne.2 h0
 have aa:=zh h1
 have ab:=zh hs
 clear h1 h0 hs
 go_enter Tryz.func32,Tryz.ntmps32
 go_wp2_with fail
 refine (aj _).mono ?_
 rintro _ z ⟨rfl,rfl⟩
 go_wp2_with fail
 refine (Tryz.strings_HasSuffix ⟨s.toArray⟩ ⟨#[10]⟩ _ (by show s.length<=_;have:=ab.out;omega)).mono ?_
 rintro _ z ⟨rfl,hz⟩
 obtain rfl:=hz.symm
 clear hz
 rw[show Lib.hasSuffix (⟨s.toArray⟩:ByteArray).data.toList (⟨#[10]⟩:ByteArray).data.toList=false from aa.out]
 go_wp2_with fail
 refine (an _).mono ?_
 rintro _ z ⟨rfl,rfl⟩
 go_wp2_with fail
 exact⟨rfl,rfl,rfl⟩
theorem vu (s:List UInt8)(w:World)(hw:MaxOk w) :
  Calls Tryz.prog 32 #[.string ⟨s.toArray⟩] w fun e w'=>if 65536<s.length then e=pan 4/\w=w' else if endB s=true then ReadRet w (readL 0 (linesL s) [] []) e w' else e=pan 2/\w=w':=by
 by_cases hl:65536<s.length
 ·exact (tJ s w hl).mono fun _ _ h=>by rw[if_pos hl];exact h
 ·have hs:s.length<=65536:=by omega
  by_cases h0:s=[]
  ·exact (tI s w hw hs h0).mono fun _ _ h=>by rw[if_neg hl,if_pos (by rw[h0];rfl)];exact h
  ·have aa:endB s=Lib.hasSuffix s [10]:=by
    unfold endB
    rw[yu,List.isEmpty_eq_false_iff.2 h0,Bool.false_or]
   cases h1:Lib.hasSuffix s [10]
   ·exact (tK s w hs h0 h1).mono fun _ _ h=>by rw[if_neg hl,if_neg (by rw[aa,h1];decide)];exact h
   ·exact (tH s w hw hs h0 h1).mono fun _ _ h=>by rw[if_neg hl,if_pos (by rw[aa,h1])];exact h
end
section
open Go.RowKit
theorem lK (p q:Addr)(x y n:Int)(w:World)(hc:w.cell? p=some (.int .i64 x))(hz:w.frozen? p=false)(hc2:(w.setCell p (.int .i64 0)).cell? q=some (.int .i64 y))(hz2:(w.setCell p (.int .i64 0)).frozen? q=false) :
  CallsD Tryz.prog 31 #[.pointer (some p),.pointer (some q)] (.panicking [{ v:=.iface 32 (.int .i64 n),recovered:=false }]) w fun e u' w' =>
   e=.returned (.tuple #[])/\u'=.panicking [{ v:=.iface 32 (.int .i64 n),recovered:=true }]/\w'=(w.setCell p (.int .i64 0)).setCell q (.int .i64 n):=by
 refine callsD_of_wpS Tryz.func31 rfl fun c₀ cs hu=>?_
 apply wpS_region
 simp[wpOpsS,go_sem,recoverD,hu,Tryz.ntmps31]
 refine (kJ n _).mono ?_
 rintro e w' ⟨rfl,rfl⟩
 simp[go_sem,hc,hz,hc2,hz2,bodyPostS,results,Tryz.results31]
theorem ru (p q:Addr)(x y k n:Int)(w:World)(hc:∀ u,Below w.heap.size w u->u.cell? p=some (.int .i64 x))(hz:∀ u,Below w.heap.size w u->u.frozen? p=false)(hc2:∀ u,Below w.heap.size w u->(u.setCell p (.int .i64 k)).cell? q=some (.int .i64 y))(hz2:∀ u,Below w.heap.size w u->(u.setCell p (.int .i64 k)).frozen? q=false) :
  CallsD Tryz.prog 31 #[.pointer (some p),.pointer (some q)] (.panicking [{ v:=.iface 113 (.agg #[.int .i64 k,.int .i64 n]),recovered:=false }]) w fun e u' w' =>
   e=.returned (.tuple #[])/\u'=.panicking [{ v:=.iface 113 (.agg #[.int .i64 k,.int .i64 n]),recovered:=true }]/\∃ u,Below w.heap.size w u/\w'=(u.setCell p (.int .i64 k)).setCell q (.int .i64 n):=by
 refine callsD_of_wpS Tryz.func31 rfl fun c₀ cs hu=>?_
 apply wpS_region
 simp[wpOpsS,go_sem,recoverD,hu,Tryz.ntmps31]
 refine (eX k n _).mono ?_
 rintro e w' ⟨rfl,hb⟩
 simp[go_sem,hc _ hb,hz _ hb,hc2 _ hb,hz2 _ hb,bodyPostS,results,Tryz.results31]
 exact⟨w',hb,rfl⟩
theorem vv (p q:Addr)(x y:Int)(w:World)(hc:w.cell? p=some (.int .i64 x))(hz:w.frozen? p=false)(hc2:(w.setCell p (.int .i64 0)).cell? q=some (.int .i64 y))(hz2:(w.setCell p (.int .i64 0)).frozen? q=false) :
  CallsD Tryz.prog 31 #[.pointer (some p),.pointer (some q)] .returning w fun e u' w'=>e=.returned (.tuple #[])/\u'=.returning/\w'=(w.setCell p (.int .i64 0)).setCell q (.int .i64 0):=by
 refine callsD_of_wpS Tryz.func31 rfl fun c₀ cs hu=>?_
 apply wpS_region
 simp[wpOpsS,go_sem,recoverD,hu,Tryz.ntmps31]
 refine (eP _).mono ?_
 rintro e w' ⟨rfl,rfl⟩
 cases c₀
 simp_all [go_sem,bodyPostS,results,Tryz.results31]
end
namespace Sz
def getF (l:List Fld) (k:List UInt8):Option Fld:=l.find? (fun f=>f.key==k)
theorem tL (l:List Fld)(k:List UInt8):(getF l k).isSome=hasK l k:=by
 unfold getF hasK
 induction l with
 | nil=>rfl
 | cons f l ih =>
  rw[List.find?_cons,List.any_cons]
  cases f.key==k with
  | true=>rfl
  | false=>exact ih
def placeOf (keys:List (List UInt8)) (k:List UInt8):Option Nat:=keys.findIdx? (. == k)
def ordP (keys:List (List UInt8)):Nat->Int->List Fld->Int × Int
 | _,_,[]=>(0,0)
 | i,last,f :: l=>match placeOf keys f.key with
  | none=>(i,10)
  | some p=>if last<p then ordP keys (i+1) p l else (i,7)
theorem aaC (n:Nat)(acc:List (List Fld))(last:List Fld):readL n [] acc last=(0,0,if last.isEmpty then acc else acc++[last]):=by unfold readL;rfl
theorem yv (n:Nat)(s:List UInt8)(ls:List (List UInt8))(acc:List (List Fld))(last:List Fld):readL n (s :: ls) acc last=if s.isEmpty then (if last.isEmpty||ls.isEmpty then (2,(n:Int),[]) else readL (n+1) ls (acc++[last]) [])
  else match fieldP s n with
   | none=>(2,(n:Int),[])
   | some f=>if hasK last f.key then (6,(n:Int),[]) else readL (n+1) ls acc (last++[f]):=by
 rw[readL];rfl
end Sz
end Go.Proofs.YtkaeamjnphaadaaGreatDoor
