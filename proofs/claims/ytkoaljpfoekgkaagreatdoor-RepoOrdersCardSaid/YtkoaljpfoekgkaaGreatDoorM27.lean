/- Part 27 of what the laws lean on. -/
import Derived.Test.YtkoaljpfoekgkaaGreatDoorM26
set_option maxRecDepth 100000
set_option maxHeartbeats 6400000
namespace Go.Proofs.YtkoaljpfoekgkaaGreatDoor
section
open Go.RowKit Rs At Pg Rp
attribute [local go_sem ↓] Go.wp_at_zero Go.wp_at_succ
attribute [local go_sem] Pg.av
theorem wM (A:Option Addr)(n c b1 i B:Nat)(ds:List PD)(l:List Pk)(d:PD)(p:Pk)(w:World)(ho:Rp.POwn w B 39 (.slice A n c) ds l)(hn:l.length=n)(hi:i<=n)(hd:PFar (Value.slice A n c).ownBlock w d p)(TX:TypeId)(hx:w.heap[b1]?=some (.cells (encP d).toArray TX (0,0)))(hne:(Value.slice A n c).ownBlock≠some b1)(hl:n<=100000)(hB:B<=w.heap.size) :
  Calls Tryz.prog 57 #[.slice A n c,.int .i64 i,.slice (some ⟨b1,0,none⟩) 1 1] w fun e w'=>∃ A' c' ds',e=.returned (.slice A' (n+1) c')/\Rp.POwn w' B 39 (.slice A' (n+1) c') ds' (l.take i++p :: l.drop i)/\Below B w w':=by
 have ac:ds.length=n:=ho.2.2.1.trans hn
 have hlen:(l.take i++p :: l.drop i).length=n+1:=by simp only[List.length_append,List.length_take,List.length_cons,List.length_drop,hn];omega
 have fin:∀ e w',InsRet w B 39 (.slice A n c) (ds.take i++d :: ds.drop i) e w'->∃ A' c' ds',e=.returned (.slice A' (n+1) c')/\Rp.POwn w' B 39 (.slice A' (n+1) c') ds' (l.take i++p :: l.drop i)/\Below B w w':=fun e w' ⟨v',he,h1,h2,h3,h4⟩=>by
  have hp:=abk ho hd (by omega) h1 h2 h3 h4
  obtain⟨A',c',hv,_,_⟩:=iH hp
  rw[hlen] at hv
  subst hv
  exact⟨A',c',_,he,hp,Rg.au ho.1 hB h4⟩
 obtain⟨A0,c0,ai,_,ag,ae⟩:=Rg.aA fitsP ho.1
 obtain⟨_,_,rfl⟩:A=A0/\n=ds.length/\c=c0:=by injection ai with a b c;exact⟨a,b,c⟩
 rw[ac] at ag
 have aa:∀ j u,(encP d)[j]?=some u->w.cell? ⟨b1,j,none⟩=some u:=fun j u h=>by rw[cell_of_row w b1 j _ _ (0,0) hx];simpa using h
 by_cases ah:i=n
 ·subst ah
  exact (wJ A i c b1 B ds d w ho.1 ac ho.2.1 aa hl hB ag ae).mono fin
 ·have af:i<n:=by omega
  obtain⟨g,rfl,hg,_,_⟩:=Rg.qh ho.1 (by omega)
  have ad:b1≠g:=fun e=>hne (by rw[e];rfl)
  by_cases ab:n+1<=c
  ·exact (r9 g n c b1 i B ds d w ho.1 ac af ab ho.2.1 TX hx ad hl).mono fin
  ·exact (tW g n c b1 i B ds d w ho.1 ac af (by omega) TX hx hl).mono fin
def Rp.PsRet (w:World) (R:Int × Int × List Pk) (e:Ending) (w':World):Prop:=Below w.heap.size w w'/\(if R.1=0 then ∃ A c,e=.returned (.slice A R.2.2.length c)/\RRow w' A R.2.2 else (e=panAt R.2.1 R.1\/(e=pan R.1/\R.2.1=0)))
def Rp.Fits1 (G:List (List Sz.Fld)):Prop:=∀ s∈G,s.length<=1000/\Sz.Short s/\∀ f∈s,ValFit f.key f.val
theorem Rp.acO {s:List Sz.Fld}{G:List (List Sz.Fld)}{acc:List Pk}{R:Int × Int × List Pk}(h:takeL (s :: G) acc=R):((fromP s).1≠0->R=((fromP s).1,lineAt s (fromP s).2.1,[]))/\((fromP s).1=0->(ins (fromP s).2.2 acc=none->R=(6,lineAt s 0,[]))/\∀ r,ins (fromP s).2.2 acc=some r->takeL G r=R):=by
 unfold takeL at h
 refine⟨fun hc=>by rw[if_pos hc] at h;exact h.symm,fun hc=>⟨fun hi=>?_,fun r hi=>?_⟩⟩
 ·rw[if_neg (fun e=>e hc),hi] at h;exact h.symm
 ·rw[if_neg (fun e=>e hc),hi] at h;exact h
def Rp.PLoop (z:World) (G:List (List Sz.Fld)) (R:Int × Int × List Pk) (k:Nat) (v:Value) (u:World) (ds:List PD) (acc:List Pk):Prop:=takeL (G.drop k) acc=R/\Rp.POwn u z.heap.size 39 v ds acc/\Ord acc/\(∀ p∈acc,checkP p=0)/\acc.length<=k/\Below z.heap.size z u
theorem Rp.acP {acc:List Pk}(h:∀ p∈acc,checkP p=0):∀ p∈acc,Vm.check p.ver=0:=fun p hp=>fp (h p hp)
theorem wN (t:List UInt8)(w:World)(hk:KOk w)(hf:Fits1 (Sz.parseS t).2.2) :
  Calls Tryz.prog 27 #[.string ⟨t.toArray⟩] w (PsRet w (parseR t)):=by
 obtain⟨R,hR⟩:=ex (parseR t)
 rw[hR]
 unfold parseR at hR
 have aP:=nk t
 have HC:=zh (mi t w hk.1)
 obtain⟨X,hX⟩:=ex (Sz.parseS t)
 rw[hX] at HC hR hf aP
 obtain⟨k0,ln,G⟩:=X
 dsimp only at hR hf aP
 have HK:=zh hk
 have HF:=zh hf
 have bJ:=zh aP
 have aQ:=zh hR
 clear hk hf aP hR hX
 go_enter Tryz.func27,Tryz.ntmps27
 go_wp2_with fail
 refine HC.out.mono ?_
 rintro _ z ⟨A,c,rfl,hg,hb⟩
 have HG:=zh hg
 have HB:=zh hb
 dsimp only
 clear hg hb HC
 obtain⟨n,hn⟩:=ex G.length
 rw[hn]
 have HN:=zh hn
 clear hn
 by_cases aA:k0=0
 case neg =>
  have d0:(k0==0)=false:=by simpa using aA
  have aB:Hid (R=(k0,ln,[])):=by show _=_;rw[<-aQ.out,if_pos aA]
  have bK:=zh aA
  clear aA aQ
  go_wp2_with fail
  refine (an _).mono ?_
  rintro _ u ⟨rfl,rfl⟩
  go_wp2_with fail
  exact⟨rfl,HB.out,by rw[aB.out,if_neg bK.out];exact Or.inl rfl⟩
 subst aA
 have aR:Hid ((if 64<G.length then ((4:Int),(0:Int),([]:List Pk)) else takeL G [])=R):=by show _=_;rw[<-aQ.out,if_neg (show ¬ ((0:Int)≠0) by decide)]
 clear aQ
 go_wp2_with fail
 refine (ax _).mono ?_
 rintro _ u ⟨rfl,rfl⟩
 by_cases aS:64<n
 ·have d0:decide ((n:Int)<=64)=false:=decide_eq_false (by omega)
  have aB:Hid (R=(4,0,[])):=by show _=_;rw[<-aR.out,if_pos (by rw[HN.out];exact aS)]
  clear aR aS
  go_wp2_with fail
  refine (ai _).mono ?_
  rintro _ u ⟨rfl,rfl⟩
  go_wp2_with fail
  exact⟨rfl,HB.out,by rw[aB.out,if_neg (by decide)];exact Or.inr ⟨rfl,rfl⟩⟩
 have d0:decide ((n:Int)<=64)=true:=decide_eq_true (by omega)
 have bL:n<=64:=by omega
 have aB:Hid (takeL (G.drop 0) []=R):=by show _=_;rw[List.drop_zero,<-aR.out,if_neg (by rw[HN.out];exact aS)]
 clear aR aS
 go_wp2_with fail
 refine (ag _).mono ?_
 rintro _ u ⟨rfl,rfl⟩
 clear d0
 go_wp2_with fail
 go_loopw [6,29] (fun v i wr=>∃ (k:Nat) (ds:List PD) (acc:List Pk),k<=n/\i=.int .i64 k/\Hid (PLoop z G R k v wr ds acc)) (fun _ i _=>n-(intOf i).toNat)
 case atStart=>exact⟨0,[],[],Nat.zero_le _,rfl,aB.out,abj _ _ _,fun i j hi=>by simp at hi,fun p hp=>(by cases hp),Nat.le_refl _,Below.refl _ _⟩
 case round =>
  obtain⟨k,ds,acc,hk,rfl,HL⟩:=hrel
  by_cases a7:k<n
  ·have aC:k<G.length:=by rw[HN.out];exact a7
   obtain⟨l1,l2,l3,l4,l5,l6⟩:=HL.out
   rw[List.drop_eq_getElem_cons aC] at l1
   obtain⟨ad,C,bz,cc,rfl,aZ,ap,aq⟩:=Sz.ve (Gr.ah HG.out l6) k aC
   have aj:=HF.out _ (List.getElem_mem aC)
   have am:=bJ.out _ (List.getElem_mem aC)
   have bM:=aq _ (Below.refl _ _)
   obtain⟨s,hs⟩:=ex (G[k])
   rw[hs] at l1 aZ ap aj am
   obtain⟨t1,t2⟩:=acO l1
   have a8:=zh (pB C bz cc s wr (az (az HK.out HB.out) l6) aZ ap (by rw[<-aZ];exact aj.1) aj.2.1 aj.2.2 am)
   have au:∀ i p,fromP s=(0,i,p)->checkP p=0:=fun i p h=>aaQ h
   have av:0<s.length:=List.length_pos_iff.2 am
   have a9:lineAt s 0=s[0].line:=by unfold lineAt;rw[show (0:Int).toNat=0 from rfl,List.getElem?_eq_getElem av]
   obtain⟨sd,bV,-,-,-,ac⟩:=Sz.c8 ap 0 av
   obtain⟨L0,bA⟩:=ex (s[0].line)
   rw[bA] at a9 ac
   rw[a9] at t2
   rw[Nat.zero_mul,Rg.add_zero] at ac
   obtain⟨X,hX⟩:=ex (fromP s)
   rw[hX] at a8 t1 t2 au
   obtain⟨k1,i1,p⟩:=X
   dsimp only at t1 t2
   have bn:=zh t1
   have bo:=zh t2
   have aD:=zh au
   have aT:=zh l2
   have aE:=zh l3
   have aF:=zh l4
   have bp:=zh l5
   have aU:=zh l6
   have aG:Hid (∀ u,Below wr.heap.size wr u->u.cell? ⟨sd.block,sd.off+2,none⟩=some (.int .i64 L0)):=fun u h=>(h.cell (p:=⟨sd.block,sd.off+2,none⟩) (da ac)).trans ac
   have b0:(0:Int)<(bz:Int):=by omega
   subst bV
   have ba:=zh a7
   clear t1 t2 au l1 l2 l3 l4 l5 l6 HL aj am ap aq aC hs aZ hX a9 bA ac av a7 hk
   go_wp2_with fail
   clear bM
   refine a8.out.mono ?_
   rintro e z1 ⟨bB,af⟩
   have bq:=zh bB
   clear bB a8
   dsimp only at af
   by_cases aH:k1=0
   case neg =>
    obtain rfl:e=panAt (lineAt s i1) k1:=by rw[if_neg aH] at af;exact af
    have bb:=zh (bn.out aH)
    have bN:=zh aH
    clear af aH
    go_wp2_with fail
    exact⟨rfl,HB.out.trans ((bt aU.out bq.out).mono HB.out.size),by rw[bb.out,if_neg bN.out];exact Or.inl rfl⟩
   subst aH
   rw[if_pos rfl] at af
   obtain⟨D,dc,C2,aw,G2,ay,B1,rfl,bD,ar⟩:=af
   have al:=aD.out _ _ rfl
   obtain⟨u1,u2⟩:=bo.out rfl
   have bc:=zh u1
   have bd:=zh u2
   have bO:Hid (Vm.check p.ver=0):=fp al
   have be:=zh al
   have aI:=zh ar
   have bf:=zh bD
   obtain⟨A3,c3,a6,_,_⟩:=iH aT.out
   obtain⟨n3,bm⟩:=ex acc.length
   rw[bm] at a6
   subst a6
   have bg:=zh bm
   have bP:n3<=64:=by have:=bp.out;have:=ba.out;omega
   clear u1 u2 al ar bD aD bn bo bm
   obtain⟨nm,h0⟩:=ex p.name
   obtain⟨vr,h1⟩:=ex p.ver
   obtain⟨dn,h2⟩:=ex p.deps.length
   obtain⟨cn,h3⟩:=ex p.confl.length
   obtain⟨gn,h4⟩:=ex p.prov.length
   obtain⟨wt,h5⟩:=ex p.wt
   simp only[pCells,h0,h1,h2,h3,h4,h5]
   obtain⟨V,hV⟩:=ex (z1.alloc (.cells #[.string ⟨nm.toArray⟩,.string ⟨vr.toArray⟩,.slice D dn dc,.slice C2 cn aw,.slice G2 gn ay,.float .f64 wt] 39))
   have HV:Hid (Below z1.heap.size z1 V):=ab hV
   have bh:Hid (Below wr.heap.size wr V):=bt bq.out HV.out
   have bQ:Hid (Below z.heap.size z V):=bt aU.out bh.out
   have bR:=zh (mC aT.out bh.out)
   have aJ:Hid (RRow V A3 acc):=by
    obtain⟨A4,c4,bW,bX,_⟩:=iH bR.out
    injection bW with e1 _ _
    subst e1
    exact bX
   have aK:=zh (wL A3 n3 c3 acc p D C2 G2 dn dc cn aw gn ay nm vr wt V (aa (aa HK.out.1 HB.out) bQ.out) bg.out aJ.out (by omega) (acP aF.out) bO.out h0 h1)
   obtain⟨bv,bY⟩:=ex z1.heap.size
   have br:Hid (∀ u',Below V.heap.size V u'->u'.cell? ⟨bv,0,none⟩=some (.string ⟨nm.toArray⟩)/\u'.cell? ⟨bv,1,none⟩=some (.string ⟨vr.toArray⟩)/\u'.cell? ⟨bv,2,none⟩=some (.slice D dn dc)/\u'.cell? ⟨bv,3,none⟩=some (.slice C2 cn aw)/\u'.cell? ⟨bv,4,none⟩=some (.slice G2 gn ay)/\u'.cell? ⟨bv,5,none⟩=some (.float .f64 wt)):=fun u' h=>by
    rw[<-bY]
    exact ak hV h
   obtain⟨g0,g1,g2,g3,g4,g5⟩:=br.out V (Below.refl _ _)
   have HH:Hid (p.name=nm/\p.ver=vr/\p.deps.length=dn/\p.confl.length=cn/\p.prov.length=gn/\p.wt=wt):=⟨h0,h1,h2,h3,h4,h5⟩
   clear h0 h1 h2 h3 h4 h5
   go_wp2_with fail
   clear hV g0 g1 g2 g3 g4 g5
   refine aK.out.mono ?_
   rintro _ u ⟨i,b,rfl,bE,bF,bG⟩
   have bs:=zh bE
   have aV:=zh bF
   have aW:=zh bG
   clear bE bF bG aK
   have aX:Hid (Below wr.heap.size wr u):=bt bh.out aW.out
   have b1:=aG.out u aX.out
   have aY:Hid (ins p acc=if ∃ h:i<acc.length,cmpP acc[i] p=0 then none else some (acc.take i++p :: acc.drop i)):=ow aE.out bs.out
   cases b with
   | true =>
    have bb:Hid (R=(6,L0,[])):=bc.out (by rw[aY.out,if_pos (aV.out.1 rfl)])
    clear bc bd aY aV
    go_wp2_with fail
    refine (an _).mono ?_
    rintro _ u' ⟨rfl,rfl⟩
    go_wp2_with fail
    exact⟨rfl,HB.out.trans ((bt aU.out aX.out).mono HB.out.size),by rw[bb.out,if_neg (show ¬ (6:Int)=0 by decide)];exact Or.inl rfl⟩
   | false =>
    have ao:Hid (ins p acc=some (acc.take i++p :: acc.drop i)):=by
     show _=_
     rw[aY.out,if_neg (fun h=>by have:=aV.out.2 h;cases this)]
    have bS:=zh (bd.out _ ao.out)
    have aL:=zh (nj aE.out ao.out)
    have aM:Hid (∀ q∈acc.take i++p :: acc.drop i,checkP q=0):=fun q hq=>by
     rcases (jU ao.out q).1 hq with h | h
     ·rw[h];exact be.out
     ·exact aF.out q h
    have bi:Hid ((acc.take i++p :: acc.drop i).length<=k+1):=by show _<=_;rw[ni ao.out];exact Nat.succ_le_succ bp.out
    have bT:Hid (i<=n3):=by show _<=_;rw[<-bg.out];exact bs.out.1
    obtain⟨U,hU⟩:=ex (u.alloc (.cells #[.string ⟨nm.toArray⟩,.string ⟨vr.toArray⟩,.slice D dn dc,.slice C2 cn aw,.slice G2 gn ay,.float .f64 wt] 39))
    have bu:Hid (Below u.heap.size u U):=ab hU
    have aN:Hid (Below wr.heap.size wr U):=bt aX.out bu.out
    have bw:Hid (Below z.heap.size z U):=bt aU.out aN.out
    obtain⟨g0,g1,g2,g3,g4,g5⟩:=br.out u aW.out
    have bx:Hid (∀ g,(Value.slice A3 n3 c3).ownBlock=some g->g<wr.heap.size):=fun g hg=>(Rg.bC aT.out.1 g hg).2
    have bj:Hid (PFar (Value.slice A3 n3 c3).ownBlock U ⟨nm,vr,(D,dn,dc),(C2,cn,aw),(G2,gn,ay),wt⟩ p):=by
     obtain⟨a0,a1,a2,a3,a4,a5⟩:=HH.out
     subst a0 a1 a2 a3 a4 a5
     exact mB (y8 aI.out (fun g hg=>Nat.lt_of_lt_of_le (bx.out g hg) bf.out) dc aw ay) ((bt HV.out aW.out).trans (bu.out.mono (bt HV.out aW.out).size))
    have ae:=zh (wM A3 n3 c3 u.heap.size i z.heap.size ds acc ⟨nm,vr,(D,dn,dc),(C2,cn,aw),(G2,gn,ay),wt⟩ p U (mC aT.out aN.out) bg.out bT.out bj.out 39 (by rw[<-hU];exact heap_alloc_new u _) (fun e=>by have:=bx.out _ e;have:=aX.out.size;omega) (by omega) bw.out.size)
    clear bc bd aY aV
    go_wp2_with fail
    refine (ax _).mono ?_
    rintro _ u' ⟨rfl,rfl⟩
    go_wp2_with fail
    clear hU g0 g1 g2 g3 g4 g5
    refine ae.out.mono ?_
    rintro _ x ⟨A5,c5,bZ,rfl,aO,bH⟩
    have bk:=zh aO
    have bU:Hid (Below z.heap.size z x):=bw.out.trans bH
    clear aO bH ae
    go_wp2_with fail
    go_roundw
    case rel=>exact⟨k+1,bZ,acc.take i++p :: acc.drop i,(by have:=ba.out;omega),by go_num,bS.out,bk.out,aL.out,aM.out,bi.out,bU.out⟩
    case measure=>have:=ba.out;simp[intOf];omega
  ·obtain rfl:k=n:=by omega
   obtain⟨l1,l2,l3,l4,l5,l6⟩:=HL.out
   rw[List.drop_eq_nil_of_le (by rw[HN.out];exact Nat.le_refl _)] at l1
   obtain⟨A3,c3,a6,bI,_⟩:=iH l2
   have bl:Hid (PsRet w R (.returned (.slice A3 acc.length c3)) wr):=⟨bt HB.out l6,by
    rw[<-l1]
    exact⟨A3,c3,rfl,bI⟩⟩
   clear l1 l2 l3 l4 l5 l6 HL bI
   subst a6
   go_wp2_with fail
   go_ret
   exact bl.out
end
section
open Go.RowKit Rs At Pg Rp
namespace Rp
theorem jX {α:Type}{enc:α->List Value}{K:Nat}{w:World}{A:Option Addr}{l:List α}{b:Nat}{x:Int}{T:TypeId}(h:Rg.Row enc K w A l)(hb:w.heap[b]?=some (.cells #[.int .i64 x] T (0,0)))(he:∀ y,∃ v,(enc y)[0]?=some v/\∀ z,v≠.int .i64 z):0<l.length->∀ a,A=some a->some b≠some a.block:=fun h0 a ha e=>by
 obtain⟨a',e',_,hc⟩:=h h0
 rw[ha] at e';cases e'
 obtain⟨v,hv,hn⟩:=he l[0]
 have h1:=hc 0 h0 0 _ hv
 rw[if_pos rfl,Nat.zero_mul,Rg.add_zero] at h1
 exact hn x (Sz.cL hb (Option.some.inj e).symm h1)
theorem abl {w:World}{b:Nat}{x:Int}{T:TypeId}(hb:w.heap[b]?=some (.cells #[.int .i64 x] T (0,0))):∀ g,some b=some g->∀ j y,w.cell? ⟨g,j,none⟩=some y->NoB y:=fun g hg j y hy z e=>by
 cases hg
 have:=Sz.cL hb rfl hy
 rw[e] at this;cases this
theorem sa {w:World}{A:Option Addr}{l:List Atm}{b:Nat}{x:Int}{T:TypeId}(h:ARow w A l)(hb:w.heap[b]?=some (.cells #[.int .i64 x] T (0,0)))(v:Value):ARow (w.setCell ⟨b,0,none⟩ v) A l:=by
 obtain⟨ds,h1,h2⟩:=h
 exact⟨ds,bW h1 (aY w ⟨b,0,none⟩ v) (jX h1 hb fun y=>⟨_,rfl,fun z e=>by cases e⟩),nf h2 (aY w ⟨b,0,none⟩ v) (abl hb)⟩
theorem sb {w:World}{A:Option Addr}{l:List Pk}{b:Nat}{x:Int}{T:TypeId}(h:RRow w A l)(hb:w.heap[b]?=some (.cells #[.int .i64 x] T (0,0)))(v:Value):RRow (w.setCell ⟨b,0,none⟩ v) A l:=by
 obtain⟨ds,h1,h2,h3⟩:=h
 refine⟨ds,bW h1 (aY w ⟨b,0,none⟩ v) (jX h1 hb fun y=>⟨_,rfl,fun z e=>by cases e⟩),h2,fun i d p e1 e2=>?_⟩
 obtain⟨q0,q1,q2,q3,q4,q5,⟨xs,x1,x2⟩,q7,q8⟩:=h3 i d p e1 e2
 exact⟨q0,q1,q2,q3,q4,q5,⟨xs,bW x1 (aY w ⟨b,0,none⟩ v) (jX x1 hb fun y=>⟨_,rfl,fun z e=>by cases e⟩),x2.1,fun k e m f1 f2=>⟨(x2.2 k e m f1 f2).1,sa (x2.2 k e m f1 f2).2 hb v⟩⟩,sa q7 hb v,bW q8 (aY w ⟨b,0,none⟩ v) (jX q8 hb fun y=>⟨_,rfl,fun z e=>by cases e⟩)⟩
theorem vj {w:World}{A:Option Addr}{l:List Pk}{b:Nat}(h:RRow w A l)(hp:Sz.P2 b w)(x y:Value):RRow ((w.setCell ⟨b,0,none⟩ x).setCell ⟨b+1,0,none⟩ y) A l :=
 sb (sb h hp.1 x) ((Below.heap_setCell w ⟨b,0,none⟩ x (b+1) (by show b+1≠b;omega)).trans hp.2) y
def PrsRet (w:World) (X:Int × Int × List Pk) (e:Ending) (w':World):Prop:=∃ A c,e=.returned (.tuple #[.slice A X.2.2.length c,.int .i64 X.2.1,.int .i64 X.1])/\RRow w' A X.2.2/\Below w.heap.size w w'
theorem zc (w:World)(A:Option Addr):RRow w A []:=⟨[],fun h=>absurd h (by decide),rfl,fun i d p e1 e2=>by simp at e1⟩
theorem vk {w u:World}{X:Int × Int × List Pk}{k n:Int}(hX:X=(k,n,[]))(hb:Below w.heap.size w u)(x y:Value):PrsRet w X (.returned (.tuple #[.slice none 0 0,.int .i64 n,.int .i64 k])) ((u.setCell ⟨w.heap.size,0,none⟩ x).setCell ⟨w.heap.size+1,0,none⟩ y):=by
 subst hX
 exact⟨none,0,rfl,zc _ _,(hb.setCell (Nat.le_refl _) _).setCell (Nat.le_succ _) _⟩
theorem oJ:∀ (G:List (List Sz.Fld)) (acc:List Pk),(takeL G acc).1≠0->(takeL G acc).2.2=[]
 | [],acc,h=>absurd rfl h
 | s :: G,acc,h=>by
  unfold takeL at h ⊢
  split
  ·rfl
  ·rename_i hc
   rw[if_neg hc] at h
   cases hi:ins (fromP s).2.2 acc with
   | none=>rfl
   | some r=>rw[hi] at h;exact oJ G r h
theorem sc:∀ (G:List (List Sz.Fld)) (acc:List Pk),(takeL G acc).1=0->(takeL G acc).2.1=0
 | [],acc,h=>rfl
 | s :: G,acc,h=>by
  unfold takeL at h ⊢
  split at h
  ·rename_i hc;exact absurd h hc
  ·rename_i hc
   rw[if_neg hc]
   cases hi:ins (fromP s).2.2 acc with
   | none=>rw[hi] at h;exact absurd h (show (6:Int)≠0 by decide)
   | some r=>rw[hi] at h;exact sc G r h
theorem wO {t:List UInt8}{X:Int × Int × List Pk}(h:parseR t=X):(X.1≠0->X.2.2=[])/\(X.1=0->X.2.1=0):=by
 subst h
 unfold parseR
 split
 ·rename_i hc;exact⟨fun _=>rfl,fun h=>absurd h hc⟩
 ·split
  ·exact⟨fun _=>rfl,fun h=>absurd h (show (4:Int)≠0 by decide)⟩
  ·exact⟨oJ _ _,sc _ _⟩
end Rp
theorem se (p q:Addr)(x y n:Int)(w:World)(hc:w.cell? p=some (.int .i64 x))(hz:w.frozen? p=false)(hc2:(w.setCell p (.int .i64 0)).cell? q=some (.int .i64 y))(hz2:(w.setCell p (.int .i64 0)).frozen? q=false) :
  CallsD Tryz.prog 25 #[.pointer (some p),.pointer (some q)] (.panicking [{ v:=.iface 29 (.int .i64 n),recovered:=false }]) w fun e u' w' =>
   e=.returned (.tuple #[])/\u'=.panicking [{ v:=.iface 29 (.int .i64 n),recovered:=true }]/\w'=(w.setCell p (.int .i64 0)).setCell q (.int .i64 n):=by
 refine callsD_of_wpS Tryz.func25 rfl fun c₀ cs hu=>?_
 apply wpS_region
 simp[wpOpsS,go_sem,recoverD,hu,Tryz.ntmps25]
 refine (dt n _).mono ?_
 rintro e w' ⟨rfl,rfl⟩
 simp[go_sem,hc,hz,hc2,hz2,bodyPostS,results,Tryz.results25]
theorem pC (p q:Addr)(x y k n:Int)(w:World)(hc:∀ u,Below w.heap.size w u->u.cell? p=some (.int .i64 x))(hz:∀ u,Below w.heap.size w u->u.frozen? p=false)(hc2:∀ u,Below w.heap.size w u->(u.setCell p (.int .i64 k)).cell? q=some (.int .i64 y))(hz2:∀ u,Below w.heap.size w u->(u.setCell p (.int .i64 k)).frozen? q=false) :
  CallsD Tryz.prog 25 #[.pointer (some p),.pointer (some q)] (.panicking [{ v:=.iface 98 (.agg #[.int .i64 k,.int .i64 n]),recovered:=false }]) w fun e u' w' =>
   e=.returned (.tuple #[])/\u'=.panicking [{ v:=.iface 98 (.agg #[.int .i64 k,.int .i64 n]),recovered:=true }]/\∃ u,Below w.heap.size w u/\w'=(u.setCell p (.int .i64 k)).setCell q (.int .i64 n):=by
 refine callsD_of_wpS Tryz.func25 rfl fun c₀ cs hu=>?_
 apply wpS_region
 simp[wpOpsS,go_sem,recoverD,hu,Tryz.ntmps25]
 refine (bq k n _).mono ?_
 rintro e w' ⟨rfl,hb⟩
 simp[go_sem,hc _ hb,hz _ hb,hc2 _ hb,hz2 _ hb,bodyPostS,results,Tryz.results25]
 exact⟨w',hb,rfl⟩
theorem tX (p q:Addr)(x y:Int)(w:World)(hc:w.cell? p=some (.int .i64 x))(hz:w.frozen? p=false)(hc2:(w.setCell p (.int .i64 0)).cell? q=some (.int .i64 y))(hz2:(w.setCell p (.int .i64 0)).frozen? q=false) :
  CallsD Tryz.prog 25 #[.pointer (some p),.pointer (some q)] .returning w fun e u' w'=>e=.returned (.tuple #[])/\u'=.returning/\w'=(w.setCell p (.int .i64 0)).setCell q (.int .i64 0):=by
 refine callsD_of_wpS Tryz.func25 rfl fun c₀ cs hu=>?_
 apply wpS_region
 simp[wpOpsS,go_sem,recoverD,hu,Tryz.ntmps25]
 refine (bT _).mono ?_
 rintro e w' ⟨rfl,rfl⟩
 cases c₀
 simp_all [go_sem,bodyPostS,results,Tryz.results25]
open Sz in
theorem cY (t:List UInt8)(w:World)(hk:KOk w)(hf:Fits1 (Sz.parseS t).2.2) :
  Calls Tryz.prog 9 #[.string ⟨t.toArray⟩] w (PrsRet w (parseR t)):=by
 have am:∀ (fn:Fn) (first cap:Array Value) (w:World),(Instr.makeFunc fn first cap).run Tryz.prog w=.ok (.func fn first cap) w:=fun _ _ _ _=>rfl
 obtain⟨X,hX⟩:=ex (parseR t)
 rw[hX]
 obtain⟨b1,b2⟩:=wO hX
 obtain⟨W1,ac⟩:=ex (w.alloc (.cells #[.int .i64 0] 3))
 obtain⟨W2,ah⟩:=ex (W1.alloc (.cells #[.int .i64 0] 29))
 have aa:Hid (∀ u,Below W2.heap.size W2 u->P2 w.heap.size u):=fun u hb=>mg ac ah hb
 have an:W1.heap.size=w.heap.size+1:=by rw[<-ac];simp
 have ad:Hid (Below w.heap.size w W2):=(ab ac).trans ((ab ah).mono (ab ac).size)
 have af:=zh (wN t W2 (az hk ad.out) hf)
 rw[hX] at af
 obtain⟨k,n,r⟩:=X
 have ag:=zh b1
 have aj:=zh b2
 clear hk hf hX b1 b2
 go_enter_defers Tryz.func9,Tryz.ntmps9
 go_wp2_with fail
 clear ac ah
 refine af.out.mono ?_
 rintro e z1 ⟨hb,hr⟩
 have HB:=zh hb
 dsimp only at hr
 clear hb af
 by_cases hk:k=0
 ·subst hk
  obtain⟨A,c,rfl,h1⟩:∃ A c,e=.returned (.slice A r.length c)/\RRow z1 A r:=by rw[if_pos rfl] at hr;exact hr
  obtain rfl:n=0:=aj.out rfl
  have HR:=zh (vj h1 (aa.out _ HB.out) (.int .i64 0) (.int .i64 0))
  obtain⟨c0,f0,c1,f1⟩:=aD (aa.out _ HB.out)
  obtain⟨d0,g0,d1,g1⟩:=aE (aa.out _ HB.out) (.int .i64 0)
  have ae:=zh (fo (aa.out _ HB.out))
  have ak:Hid (Below w.heap.size w ((z1.setCell ⟨w.heap.size,0,none⟩ (.int .i64 0)).setCell ⟨w.heap.size+1,0,none⟩ (.int .i64 0))):=((bt ad.out HB.out).setCell (Nat.le_refl _) _).setCell (Nat.le_succ _) _
  clear hr h1
  go_wp2_with fail
  generalize (z1.setCell ⟨w.heap.size,0,none⟩ (.int .i64 0)).setCell ⟨w.heap.size+1,0,none⟩ (.int .i64 0)=V at *
  obtain⟨k0,m0,k1,m1⟩:=aD ae.out
  obtain⟨l0,o0,l1,o1⟩:=aE ae.out (.int .i64 0)
  obtain⟨q0,q1⟩:=br ae.out (.int .i64 0) (.int .i64 0)
  have al:=zh (vj HR.out ae.out (.int .i64 0) (.int .i64 0))
  refine leaves_cons (f:=25) (args:=#[.pointer (some ⟨w.heap.size,0,none⟩),.pointer (some ⟨w.heap.size+1,0,none⟩)]) (by simp) (by simp[go_sem]) ?_
  refine (tX ⟨w.heap.size,0,none⟩ ⟨w.heap.size+1,0,none⟩ 0 0 _ k0 m0 l1 o1).mono ?_
  rintro e u' w3 ⟨rfl,rfl,rfl⟩
  simp[Leaves,settle,results,Tryz.results9,go_sem,q0,q1]
  exact⟨A,c,rfl,al.out,(ak.out.setCell (Nat.le_refl _) _).setCell (Nat.le_succ _) _⟩
 ·rw[if_neg hk] at hr
  obtain rfl:r=[]:=ag.out hk
  clear hk
  rcases hr with rfl | ⟨rfl,rfl⟩
  ·go_wp2_with fail
   refine leaves_cons (f:=25) (args:=#[.pointer (some ⟨w.heap.size,0,none⟩),.pointer (some ⟨w.heap.size+1,0,none⟩)]) (by simp) (by simp[go_sem]) ?_
   refine (pC ⟨w.heap.size,0,none⟩ ⟨w.heap.size+1,0,none⟩ 0 0 n k _ (fun u hb=>(aD (aa.out _ (bt HB.out hb))).1) (fun u hb=>(aD (aa.out _ (bt HB.out hb))).2.1) (fun u hb=>(aE (aa.out _ (bt HB.out hb)) _).2.2.1) (fun u hb=>(aE (aa.out _ (bt HB.out hb)) _).2.2.2)).mono ?_
   rintro e u' w3 ⟨rfl,rfl,u,hb,rfl⟩
   have ai:=zh (bt HB.out hb)
   obtain⟨q0,q1⟩:=br (aa.out _ ai.out) (.int .i64 n) (.int .i64 k)
   simp[Leaves,settle,results,Tryz.results9,go_sem,q0,q1]
   exact vk rfl (bt ad.out ai.out) _ _
  ·obtain⟨c0,f0,c1,f1⟩:=aD (aa.out _ HB.out)
   obtain⟨d0,g0,d1,g1⟩:=aE (aa.out _ HB.out) (.int .i64 0)
   obtain⟨q0,q1⟩:=br (aa.out _ HB.out) (.int .i64 0) (.int .i64 k)
   go_wp2_with fail
   refine leaves_cons (f:=25) (args:=#[.pointer (some ⟨w.heap.size,0,none⟩),.pointer (some ⟨w.heap.size+1,0,none⟩)]) (by simp) (by simp[go_sem]) ?_
   refine (se ⟨w.heap.size,0,none⟩ ⟨w.heap.size+1,0,none⟩ 0 0 k _ c0 f0 d1 g1).mono ?_
   rintro e u' w3 ⟨rfl,rfl,rfl⟩
   simp[Leaves,settle,results,Tryz.results9,go_sem,q0,q1]
   exact vk rfl (bt ad.out HB.out) _ _
end
section
open Go.RowKit Rs At Pg Rp
attribute [local go_sem ↓] Go.wp_at_zero Go.wp_at_succ
attribute [local go_sem] Pg.av
def Rp.namesR (l:List Pk):List (List UInt8):=Lib.compact (l.map Pk.name)
def Rp.NamesRet (w:World) (X:List (List UInt8)) (e:Ending) (w':World):Prop:=∃ A c,e=.returned (.slice A X.length c)/\Rg.Row encT 1 w' A X/\Below w.heap.size w w'
theorem Rp.zd {B:Nat}{w0 w:World}{g:Nat}(h:Below B w0 w)(hg:B<=g)(q:Nat)(d:Array (List UInt8)):Below B w0 (Go.Sort.putRow Go.Proofs.encStr (Go.Sort.ahead w q) g 0 d) :=
 h.trans ⟨rfl,rfl,rfl,by simp[Go.Sort.ahead],fun k hk=>by
  simp only[Go.Sort.putRow,Go.Sort.mapBlock,Go.Sort.ahead,Array.getElem?_modify]
  rw[if_neg (by omega)]⟩
theorem Rp.wP (zs:List (List UInt8)):(Lib.compact zs).length<=zs.length:=by
 unfold Lib.compact Lib.compactUpTo
 rw[List.length_map]
 exact Nat.le_trans (List.length_filter_le _ _) (by rw[List.length_range];exact Nat.le_refl _)
theorem tY (v:Value)(B:Nat)(T:TypeId)(zs:List (List UInt8))(w:World)(ho:Rg.Own encT 1 w B T v zs)(hl:zs.length<=1000000) :
  Calls Tryz.prog 42 #[v] w fun e w'=>∃ A c,e=.returned (.slice A (Lib.compact zs).length c)/\Rg.Row encT 1 w' A (Lib.compact zs)/\Below B w w':=by
 obtain⟨A,c,rfl,hr,hc,ae⟩:=Rg.aA fitsT ho
 by_cases h0:zs=[]
 ·subst h0
  refine (Tryz.slices_Compact_string_empty A c w).mono ?_
  rintro _ _ ⟨rfl,rfl⟩
  exact⟨A,c,rfl,fun h=>absurd h (by decide),Below.refl _ _⟩
 ·have aa:0<zs.length:=List.length_pos_iff.2 h0
  obtain⟨g,rfl,hg,_,ad⟩:=Rg.qh ho aa
  have ab:∀ j (h:j<zs.length),w.cell? ⟨g,j,none⟩=some (Go.Proofs.encStr zs[j]):=fun j h=>by
   obtain⟨a,e,_,hc⟩:=hr aa
   cases e
   have h1:=hc j h 0 _ rfl
   rw[if_pos rfl,Nat.mul_one] at h1
   have e:(⟨g,0,none⟩:Addr).add j=⟨g,j,none⟩:=by unfold Addr.add;split <;> simp_all
   rw[e] at h1
   exact h1
  have hH:Go.Sort.Holds Go.Proofs.encStr w g 0 zs.toArray:=fun j hj=>by
   have ac:j<zs.length:=by simpa using hj
   rw[Nat.zero_add]
   refine⟨?_,ad j⟩
   rw[getElem!_pos zs.toArray j hj]
   simpa using ab j ac
  refine (Tryz.slices_Compact_string g 0 c zs w hH (by omega) hc).mono ?_
  rintro _ _ ⟨rfl,q,rfl⟩
  refine⟨_,c,rfl,fun hp=>⟨⟨g,0,none⟩,rfl,?_,fun i hi j u hu=>?_⟩,zd (Below.refl _ _) hg q _⟩
  ·have:=(Rg.bC ho g rfl).2
   simpa [Go.Sort.ahead] using this
  ·have hj:j=0:=by have h:=(List.getElem?_eq_some_iff.1 hu).1;simp only[encT,List.length_cons,List.length_nil] at h;omega
   subst hj
   rw[if_pos rfl,Nat.mul_one]
   have e:(⟨g,0,none⟩:Addr).add i=⟨g,0+i,none⟩:=by unfold Addr.add;split <;> simp_all
   have hle:(Lib.compact zs).length<=zs.length:=wP zs
   have hs:(Lib.compact zs++List.replicate (zs.length-(Lib.compact zs).length) []).toArray.size=zs.toArray.size:=by simp;omega
   rw[e,Go.Sort.cell?_putRow Go.Proofs.encStr (Go.Sort.ahead w q) g 0 zs.toArray _ hH hs i (by simp;omega)]
   rw[getElem!_pos _ i (by simp;omega)]
   simp only[List.getElem_toArray]
   rw[List.getElem_append_left hi]
   exact hu
theorem pD (A:Option Addr)(n c:Nat)(l:List Pk)(w:World)(hn:l.length=n)(hr:RRow w A l)(hl:n<=100000)(hs:∀ p∈l,p.name.length<=1000000) :
  Calls Tryz.prog 14 #[.slice A n c] w (NamesRet w (namesR l)):=by
 obtain⟨X,hX⟩:=ex (namesR l)
 rw[hX]
 have HX:=zh hX
 have HR:=zh hr
 have HN:=zh hn
 have HS:=zh hs
 clear hr hn hX hs
 go_enter Tryz.func14,Tryz.ntmps14
 go_wp2_with fail
 go_loopw [3,8] (fun v i wr=>∃ k:Nat,k<=n/\i=.int .i64 k/\Hid (Rg.Own encT 1 wr w.heap.size 9 v ((l.take k).map Pk.name))/\Hid (Below w.heap.size w wr/\w.heap.size<=wr.heap.size)) (fun _ i _=>n-(intOf i).toNat)
 case atStart=>exact⟨0,Nat.zero_le _,rfl,Rg.aw _ _ _,Below.refl _ _,Nat.le_refl _⟩
 case round =>
  obtain⟨k,hk,rfl,HO,HB⟩:=hrel
  by_cases aC:k<n
  ·have ae:k<l.length:=by rw[HN.out];exact aC
   obtain⟨ad,D,dc,C,cc,G,gc,rfl,pd,pc,pg,hc⟩:=bn HR.out k ae
   obtain⟨c0,c1,c2,c3,c4,c5⟩:=hc _ HB.out.1
   have aa:=HS.out _ (List.getElem_mem ae)
   have ac:(l.take (k+1)).map Pk.name=(l.take k).map Pk.name++[l[k].name]:=by rw[List.take_succ_eq_append_getElem ae,List.map_append];rfl
   obtain⟨a,ha⟩:=ex (l[k])
   rw[ha] at c0 c1 c2 c3 c4 c5 aa ac
   obtain⟨al,ap⟩:=ex a.name
   obtain⟨aJ,aq⟩:=ex a.ver
   obtain⟨aK,ar⟩:=ex a.deps.length
   obtain⟨aL,au⟩:=ex a.confl.length
   obtain⟨aM,av⟩:=ex a.prov.length
   obtain⟨aP,ax⟩:=ex a.wt
   rw[ap] at c0 aa ac
   rw[aq] at c1
   rw[ar] at c2
   rw[au] at c3
   rw[av] at c4
   rw[ax] at c5
   obtain⟨l0,am⟩:=ex ((l.take k).map Pk.name)
   have aD:l0.length=k:=by rw[<-am,List.length_map,List.length_take];omega
   rw[am] at HO ac
   obtain⟨V,hV⟩:=ex (wr.alloc (.cells #[.string ⟨al.toArray⟩,.string ⟨aJ.toArray⟩,.slice D aK dc,.slice C aL cc,.slice G aM gc,.float .f64 aP] 39))
   have HV:Hid (Below wr.heap.size wr V):=ab hV
   have ao:=zh (aN al V (by omega))
   obtain⟨g0,g1,g2,g3,g4,g5⟩:=ak hV (Below.refl _ _)
   have aE:=zh ac
   have aF:Hid (l0.length+1<=1000000):=by show _<=_;omega
   clear hc ae ha ap aq ar au av ax aa pd pc pg ac am aD
   go_wp2_with fail
   clear hV
   refine ao.out.mono ?_
   rintro _ w1 ⟨rfl,az⟩
   have af:Hid (Below wr.heap.size wr w1):=bt HV.out az
   have ag:Hid (Below w.heap.size w w1/\w.heap.size<=w1.heap.size):=⟨HB.out.1.trans (af.out.mono HB.out.2),Nat.le_trans HB.out.2 af.out.size⟩
   have ah:=zh (Rg.own_below HO.out af.out)
   clear az c0 c1 c2 c3 c4 c5 g0 g1 g2 g3 g4 g5 HB HO HV ao
   go_wp2_with (at_builtin;refine Rg.aO sliceTx rfl (.tmp 12) (.tmp 16) rfl w.heap.size _ l0 [al] rfl (Rg.own_below ah.out ((Below.refl _ _).alloc (Nat.le_refl _) _)) _ _ rfl (Rg.ay w1 _ _ _ (by rfl)) (Nat.zero_lt_succ _) aF.out ?b1 ?_)
   case b1=>have:=ag.out.2;simp;omega
   intro v5 W5 aA aB aQ
   have aG:=fZ ag ah aB
   have aH:Hid (Rg.Own encT 1 W5 w.heap.size 9 v5 ((l.take (k+1)).map Pk.name)):=by show Rg.Own _ _ _ _ _ _ _;rw[aE.out];exact aA
   clear aA aB aQ ah ag
   go_wp2_with fail
   go_roundw
   case rel=>exact⟨k+1,by omega,by go_num,aH.out,aG.out⟩
   case measure=>simp[intOf];omega
  ·obtain rfl:k=n:=by omega
   have hO:=HO.out
   rw[List.take_of_length_le (by rw[HN.out];exact Nat.le_refl _)] at hO
   have ai:=zh (tY _ w.heap.size _ _ wr hO (by rw[List.length_map,HN.out];omega))
   clear hO HO
   obtain⟨zs,an⟩:=ex (l.map Pk.name)
   have aI:Hid (Lib.compact zs=X):=by show _=_;rw[<-an];exact HX.out
   rw[an,aI.out] at ai
   clear an
   go_wp2_with fail
   refine ai.out.mono ?_
   rintro _ u ⟨A',c',rfl,hr,hb⟩
   have aj:Hid (NamesRet w X (.returned (.slice A' X.length c')) u):=⟨A',c',rfl,hr,HB.out.1.trans hb⟩
   clear hr hb ai
   go_wp2_with fail
   go_ret
   exact aj.out
end
namespace Rp
open Go.RowKit Rs At Pg
def sp7:List Sp:=[⟨[50],[],true,false⟩]
def at7:Atm:=⟨[108,105,98],sp7⟩
def p71:Pk:=⟨[97,112,112],[49],[],[],[],0⟩
def p72:Pk:=⟨[97,112,112],[50],[[at7]],[],[],0⟩
def p73:Pk:=⟨[108,105,98],[49],[],[],[],0⟩
def r7:List Pk:=[p71,p72,p73]
def small7:List UInt8:=[80,97,99,107,97,103,101,58,32,97,112,112,10,86,101,114,115,105,111,110,58,32,50,10,68,101,112,101,110,100,115,58,32,108,105,98,32,40,62,61,32,50,41,10,10,80,97,99,107,97,103,101,58,32,97,112,112,10,86,101,114,115,105,111,110,58,32,49,10,10,80,97,99,107,97,103,101,58,32,108,105,98,10,86,101,114,115,105,111,110,58,32,49,10]
def two7:List UInt8:=[80,97,99,107,97,103,101,58,32,97,10,86,101,114,115,105,111,110,58,32,49,10,10,80,97,99,107,97,103,101,58,32,97,10,86,101,114,115,105,111,110,58,32,48,49,45,48,10]
def bad7:List UInt8:=[80,97,99,107,97,103,101,58,32,97,10,86,101,114,115,105,111,110,58,32,49,10,68,101,112,101,110,100,115,58,32,66,10]
def out7:List UInt8:=[80,97,99,107,97,103,101,58,32,97,112,112,10,86,101,114,115,105,111,110,58,32,49,10,10,80,97,99,107,97,103,101,58,32,97,112,112,10,86,101,114,115,105,111,110,58,32,50,10,68,101,112,101,110,100,115,58,32,108,105,98,32,40,62,61,32,50,41,10,10,80,97,99,107,97,103,101,58,32,108,105,98,10,86,101,114,115,105,111,110,58,32,49,10]
theorem k7a:parseR small7=(0,0,r7):=by decide +kernel
theorem k7b:parseR two7=(6,3,[]):=by decide +kernel
theorem k7c:parseR bad7=(3,2,[]):=by decide +kernel
def fitB (G:List (List Sz.Fld)):Bool:=G.all fun s=>decide (s.length<=1000)&&s.all fun f=>decide (f.key.length<=1000)&&decide (f.val.length<=1000)
theorem sf {G:List (List Sz.Fld)}(h:fitB G=true):Fits1 G:=fun s hs=>by
 have h1:=List.all_eq_true.1 h s hs
 rw[Bool.and_eq_true,decide_eq_true_eq] at h1
 have h2:∀ f∈s,f.key.length<=1000/\f.val.length<=1000:=fun f hf=>by
  have h3:=List.all_eq_true.1 h1.2 f hf
  rwa [Bool.and_eq_true,decide_eq_true_eq,decide_eq_true_eq] at h3
 exact⟨h1.1,fun f hf=>by have:=h2 f hf;omega,fun f hf=>fq (h2 f hf).2⟩
theorem k7d:fitB (Sz.parseS small7).2.2=true/\fitB (Sz.parseS two7).2.2=true/\fitB (Sz.parseS bad7).2.2=true:=by decide +kernel
theorem k7e:printR r7=(out7,0):=by decide +kernel
theorem k7f:findR [97,112,112] [48,50] r7=(1,true)/\findR [108,105,98] [50] r7=(0,false):=by decide +kernel
theorem k7g:chkR [p72,p71]=(1,7)/\chkR r7=(0,0):=by decide +kernel
theorem k7h:namesR r7=[[97,112,112],[108,105,98]]:=by decide +kernel
theorem k7i:numF (fun p=>decide (p.name=[97,112,112])) 0 r7=[0,1]:=by decide +kernel
theorem k7j:numF (fun p=>metP p at7) 0 r7=[]:=by decide +kernel
theorem k7k:samL r7 r7=true:=by decide +kernel
theorem k7l:checkP p71=0/\checkP p72=0/\checkP p73=0:=by decide +kernel
theorem k7m:(textR r7).length<=1000000:=by decide +kernel
theorem k7n:checkR sp7=0:=by decide +kernel
theorem all7 {P:Pk->Prop}(h:∀ p,checkP p=0->p.wt<Wm.W->P p):∀ p∈r7,P p:=fun p hp=>by
 have hw:(0:Nat)<Wm.W:=by decide +kernel
 rcases List.mem_cons.1 hp with rfl | hp
 ·exact h _ k7l.1 hw
 ·rcases List.mem_cons.1 hp with rfl | hp
  ·exact h _ k7l.2.1 hw
  ·rw[List.mem_singleton.1 hp];exact h _ k7l.2.2 hw
theorem si:∀ (l:List NV) (n:Nat) (s:List Sz.Fld),s∈grid n l->∃ m,∃ p∈l,s=stz m p
 | [],_,s,h=>by cases h
 | p :: l,n,s,h=>by
  rcases List.mem_cons.1 h with rfl | h
  ·exact⟨n,p,List.mem_cons_self,rfl⟩
  ·obtain⟨m,q,hq,e⟩:=si l (n+3) s h
   exact⟨m,q,List.mem_cons_of_mem _ hq,e⟩
theorem ze {l:List NV}(h:∀ p∈l,Okk p)(hs:∀ p∈l,p.1.length<=1000/\p.2.length<=1000)(ht:(Sz.textS (grid 0 l)).length<=65536):Fits1 (Sz.parseS (Sz.textS (grid 0 l))).2.2:=by
 rw[Sz.mm (jA l 0 h) ht]
 intro s aa
 obtain⟨m,p,hp,rfl⟩:=si l 0 s aa
 obtain⟨a,b⟩:=hs p hp
 refine⟨by simp[stz],fun f hf=>?_,fun f hf=>?_⟩
 ·simp only[stz,List.mem_cons,List.not_mem_nil,or_false] at hf
  rcases hf with rfl | rfl
  ·exact⟨by show kPkg.length<=_;decide,by show p.1.length<=_;omega⟩
  ·exact⟨by show kVer.length<=_;decide,by show p.2.length<=_;omega⟩
 ·simp only[stz,List.mem_cons,List.not_mem_nil,or_false] at hf
  rcases hf with rfl | rfl
  ·exact fq a
  ·exact fq b
end Rp
namespace Sz
open Go.RowKit
def dg (n:Nat):UInt8:=UInt8.ofNat (48+n % 10)
theorem adv (n:Nat):(dg n).toNat=48+n % 10:=by
 unfold dg
 rw[UInt8.toNat_ofNat']
 omega
theorem sj (w:World)(T:TypeId)(x:Int)(n:Nat)(hx:x=((n % 10:Nat):Int)):(convert 22 9 (.slice (some ⟨w.heap.size,0,none⟩) 1 1)).run Tryz.prog (w.alloc (.cells #[.int .u8 (48+x)] T))=.ok (.string ⟨[dg n].toArray⟩) (w.alloc (.cells #[.int .u8 (48+x)] T)) :=
 run_convert_bytes_back (P:=Tryz.prog) _ _ _ _ _ 1 [dg n] Tryz.underlying22 Tryz.underlying5 Tryz.underlying9 (fun j hj=>by
  match j,hj with
  | 0,_ =>
   have h2:([dg n][0].toNat:Int)=48+x:=by show ((dg n).toNat:Int)=_;rw[adv,hx];omega
   rw[h2]
   simp[Addr.add])
def decF:Nat->Nat->List UInt8
 | 0,n=>[dg n]
 | k+1,n=>if n<10 then [dg n] else decF k (n / 10)++[dg n]
theorem zf (k n:Nat):decF (k+1) n=if n<10 then [dg n] else decF k (n / 10)++[dg n]:=rfl
def decT (n:Nat):List UInt8:=decF 20 n
def DcSt (n m:Nat) (d:List UInt8):Prop:=∃ k,d.length+k=21/\m<10 ^ k/\decT n=if m<10 then d else decF (k-1) (m / 10)++d
theorem wQ {n:Nat}(hn:n<10000000000000000000):DcSt n n [dg n] :=
 ⟨20,rfl,by
  have:(10:Nat) ^ 20=100000000000000000000:=by decide
  omega,rfl⟩
theorem zg {n m:Nat}{d:List UInt8}(h:DcSt n m d)(hm:10<=m):DcSt n (m / 10) (dg (m / 10) :: d)/\d.length<20:=by
 obtain⟨k,hk,hp,he⟩:=h
 rw[if_neg (by omega)] at he
 match k,hk,hp,he with
 | 0,_,hp,_=>simp at hp;omega
 | 1,_,hp,_=>simp at hp;omega
 | k+2,hk,hp,he =>
  refine⟨⟨k+1,by rw[List.length_cons];omega,?_,?_⟩,by omega⟩
  ·rw[Nat.pow_succ] at hp;omega
  ·rw[he]
   show decF (k+1) (m / 10)++d=if m / 10<10 then dg (m / 10) :: d else decF k (m / 10 / 10)++dg (m / 10) :: d
   rw[zf]
   by_cases h:m / 10<10
   ·rw[if_pos h,if_pos h];rfl
   ·rw[if_neg h,if_neg h,List.append_assoc];rfl
theorem so (n:Nat)(hn:n<10000000000000000000)(w:World) :
  Calls Tryz.prog 8 #[.int .u64 n] w fun e w'=>e=.returned (.string ⟨(decT n).toArray⟩)/\Below w.heap.size w w':=by
 have ai:(0:Int)<=(n:Int):=by omega
 have HN:=zh hn
 clear hn
 obtain⟨R,hR⟩:=ex (decT n)
 have HR:=zh hR
 rw[hR]
 clear hR
 go_enter Tryz.func8,Tryz.ntmps8
 have aa:=sj w 5 ((n:Int) % 10) n (by omega)
 go_wp2_with fail
 have ad:=zh (wQ HN.out)
 have ae:Below w.heap.size w (w.alloc (.cells #[.int .u8 (48+(n:Int) % 10)] 5)):=(Below.refl _ _).alloc (Nat.le_refl _) _
 have af:=zh ae
 clear aa ae
 go_loopw [0,3] (fun x s wr=>∃ (m:Nat) (d:List UInt8),m<=n/\x=.int .u64 m/\s=.string ⟨d.toArray⟩/\d.length<=20/\Hid (DcSt n m d)/\Hid (Below w.heap.size w wr)) (fun x _ _=>(intOf x).toNat)
 case atStart=>exact⟨n,[dg n],Nat.le_refl _,rfl,rfl,by simp,ad,af⟩
 case round =>
  clear ad af ai
  obtain⟨m,d,ao,rfl,rfl,hd,HS,HB⟩:=hrel
  have al:(0:Int)<=(m:Int):=by omega
  by_cases aj:10<=m
  ·have g1:(10:Int)<=(m:Int):=by omega
   obtain⟨ah,ap⟩:=zg HS.out aj
   have ag:=zh ah
   have ab:(m:Int) / 10=((m / 10:Nat):Int):=by omega
   have aa:=sj wr 5 (((m / 10:Nat):Int) % 10) (m / 10) (by omega)
   have ac:(convert 22 9 (.slice (some ⟨wr.heap.size,0,none⟩) 1 1)).run Tryz.prog (wr.alloc (.cells #[.int .u8 (48+(m:Int) / 10 % 10)] 5))=.ok (.string ⟨[dg (m / 10)].toArray⟩) (wr.alloc (.cells #[.int .u8 (48+(m:Int) / 10 % 10)] 5)):=by rw[ab];exact aa
   have ak:=zh ab
   clear aa ab ah
   obtain⟨c,hc⟩:=ex (dg (m / 10))
   rw[hc] at ac ag
   have am:IntKind.u64.wrap ((m:Int) / 10)=(m:Int) / 10:=IntWalk.u64_in _ (by have:=HN.out;omega)
   have an:(0:Int)<=(m:Int) / 10:=by omega
   clear hc HS
   go_wp2_with fail
   go_roundw
   case rel=>exact⟨m / 10,c :: d,by omega,by rw[ak.out],congrArg Value.string (ByteArray.mk_append_mk [c] d),by rw[List.length_cons];omega,ag,HB.out.alloc HB.out.size _⟩
   case measure=>simp[intOf];omega
  ·have HD:Hid (R=d):=by
    obtain⟨k,_,_,he⟩:=HS.out
    rw[if_pos (by omega)] at he
    show _=_
    rw[<-HR.out,he]
   go_wp2_with fail
   go_ret
   rw[HD.out]
   exact⟨rfl,HB.out⟩
end Sz
namespace Rp
open Go.RowKit Rs At Pg
def oV (k:Nat):List UInt8:=Sz.decT (k % 8*3)
def oN (k:Nat):NV:=([UInt8.ofNat (97+k / 8)],oV k)
def oP (k:Nat):Pk:=plainP (oN k)
theorem wR:∀ a,a<64->∀ b,b<64->a<b->cmpP (oP a) (oP b)<0:=by decide +kernel
theorem adQ:∀ k,k<64->Sz.valB (oN k).1=true/\Sz.valB (oN k).2=true/\nameB (oN k).1=true/\Vm.check (oN k).2=0/\canonOf (oN k).2=(oN k).2:=by decide +kernel
theorem adw:∀ k,k<64->checkP (oP k)=0:=by decide +kernel
theorem kW:∀ k,k<64->(oN k).1.length=1/\(oN k).2.length<=2:=by decide +kernel
theorem acQ:∀ k,k<64->Vm.check (48 :: oV k)=0/\∀ b,b<64->isP (oN k).1 (48 :: oV k) (oP b)=decide (b=k):=by decide +kernel
theorem adR {a b:Nat}(ha:a<64)(hb:b<64)(h:cmpP (oP a) (oP b)=0):a=b:=by
 rcases Nat.lt_trichotomy a b with h1 | h1 | h1
 ·have:=wR a ha b hb h1;omega
 ·exact h1
 ·have:=wR b hb a ha h1;have:=bu.1 (oP a) (oP b);omega
def inL (L:List Nat) (k:Nat):Bool:=decide (k∈L)
def oS (L:List Nat):List Pk:=((List.range 64).filter (inL L)).map oP
theorem mE {L:List Nat}{p:Pk}:p∈oS L↔∃ k,k<64/\k∈L/\p=oP k:=by
 unfold oS
 constructor
 ·intro h
  obtain⟨k,hk,rfl⟩:=List.mem_map.1 h
  obtain⟨h1,h2⟩:=List.mem_filter.1 hk
  exact⟨k,List.mem_range.1 h1,of_decide_eq_true h2,rfl⟩
 ·rintro⟨k,hk,hl,rfl⟩
  exact List.mem_map.2 ⟨k,List.mem_filter.2 ⟨List.mem_range.2 hk,decide_eq_true hl⟩,rfl⟩
theorem zi (L:List Nat):Ord (oS L):=fun i j hi hj hij=>by
 have hp:((List.range 64).filter (inL L)).Pairwise (. < ·):=List.pairwise_lt_range.filter _
 unfold oS at hi hj ⊢
 rw[List.length_map] at hi hj
 rw[List.getElem_map,List.getElem_map]
 have h1:=List.pairwise_iff_getElem.1 hp i j hi hj hij
 have m1:=List.mem_range.1 (List.mem_filter.1 (List.getElem_mem hi)).1
 have m2:=List.mem_range.1 (List.mem_filter.1 (List.getElem_mem hj)).1
 exact wR _ m1 _ m2 h1
theorem adx {L:List Nat}(_hL:∀ k∈L,k<64){a:Nat}(ha:a<64)(hn:a ∉ L):ins (oP a) (oS L)=some (oS (L++[a])):=by
 cases h:ins (oP a) (oS L) with
 | none =>
  obtain⟨q,hq,he⟩:=rO h
  obtain⟨k,hk,hl,rfl⟩:=mE.1 hq
  exact absurd (adR hk ha he ▸ hl) hn
 | some r =>
  have:r=oS (L++[a]):=mn (nj (zi L) h) (zi _) fun x=>by
   rw[jU h x,mE,mE]
   constructor
   ·rintro (rfl | ⟨k,hk,hl,rfl⟩)
    ·exact⟨a,ha,by simp,rfl⟩
    ·exact⟨k,hk,by simp[hl],rfl⟩
   ·rintro⟨k,hk,hl,rfl⟩
    rcases List.mem_append.1 hl with hl | hl
    ·exact Or.inr ⟨k,hk,hl,rfl⟩
    ·rw[List.mem_singleton.1 hl];exact Or.inl rfl
  rw[this]
theorem kt:∀ (l acc:List Pk) (p:Pk) (r:List Pk),insAll acc l=some r->insAll acc (l++[p])=ins p r
 | [],acc,p,r,h=>by
  cases h
  show insAll acc [p]=_
  unfold insAll
  cases ins p acc with
  | none=>rfl
  | some s=>rfl
 | q :: l,acc,p,r,h=>by
  rw[List.cons_append,insAll]
  rw[insAll] at h
  cases hi:ins q acc with
  | none=>rw[hi] at h;cases h
  | some s=>rw[hi] at h;exact kt l s p r h
def Seen (L:List Nat):Prop:=(∀ k∈L,k<64)/\insAll [] ((L.map oN).map plainP)=some (oS L)/\(oS L).length=L.length
theorem zj:oS []=[]:=by unfold oS inL;simp
theorem abm:Seen []:=⟨fun k h=>(by cases h),(by rw[zj];rfl),(by rw[zj];rfl)⟩
theorem abn {L:List Nat}(h:Seen L){a:Nat}(ha:a<64)(hn:a ∉ L):Seen (L++[a]):=by
 have hi:=adx h.1 ha hn
 refine⟨fun k hk=>?_,?_,?_⟩
 ·rcases List.mem_append.1 hk with hk | hk
  ·exact h.1 k hk
  ·rw[List.mem_singleton.1 hk];exact ha
 ·rw[List.map_append,List.map_append]
  exact (kt _ _ _ _ h.2.1).trans hi
 ·rw[ni hi,h.2.2,List.length_append];rfl
def oT (L:List Nat):List UInt8:=Sz.textS (grid 0 (L.map oN))
theorem bF:∀ (G:List (List Sz.Fld)) (z:List Sz.Fld),G≠[]->Sz.textS (G++[z])=Sz.textS G++[10]++Sz.stanzaT z
 | [],_,h=>absurd rfl h
 | [l],z,_=>rfl
 | l :: m :: r,z,_=>by
  show Sz.stanzaT l++[10]++Sz.textS (m :: r++[z])=Sz.stanzaT l++[10]++Sz.textS (m :: r)++[10]++Sz.stanzaT z
  rw[bF (m :: r) z (by simp)]
  simp only[List.append_assoc]
theorem oK:∀ (l:List NV) (n:Nat) (p:NV),grid n (l++[p])=grid n l++[stz (n+3*l.length) p]
 | [],n,p=>rfl
 | q :: l,n,p=>by
  show stz n q :: grid (n+3) (l++[p])=stz n q :: grid (n+3) l++[_]
  rw[oK l (n+3) p,List.length_cons,show n+3+3*l.length=n+3*(l.length+1) by omega]
  rfl
theorem ady (a:Nat):oT [a]=oneT (oN a):=by
 show Sz.stanzaT (stz 0 (oN a))=_
 exact iB 0 _
theorem adz {L:List Nat}(h:L≠[])(a:Nat):oT (L++[a])=oT L++[10]++oneT (oN a):=by
 unfold oT
 rw[List.map_append]
 show Sz.textS (grid 0 (L.map oN++[oN a]))=_
 rw[oK,bF _ _ (by
  intro e
  have:=congrArg List.length e
  rw[kR,List.length_map] at this
  exact h (List.length_eq_zero_iff.1 this)),iB]
theorem adB:oT []=[]:=rfl
theorem sq {L:List Nat}(h:∀ k∈L,k<64):(oT L).length<=L.length*24:=by
 have:=jO (L.map oN) 0 3 (fun p hp=>by
  obtain⟨k,hk,rfl⟩:=List.mem_map.1 hp
  have:=kW k (h k hk)
  omega)
 rw[List.length_map] at this
 exact this
theorem wS (T:List UInt8)(a:Nat):T++oneT (oN a)=T++[80,97,99,107,97,103,101,58,32]++[UInt8.ofNat (97+a / 8)]++[10,86,101,114,115,105,111,110,58,32]++oV a++[10]:=by
 unfold oneT oN kPkg kVer
 simp
theorem zk {L:List Nat}(h:∀ k∈L,k<64):∀ p∈L.map oN,Okk p:=fun p hp=>by
 obtain⟨k,hk,rfl⟩:=List.mem_map.1 hp
 exact adQ k (h k hk)
theorem abo {L:List Nat}(h:Seen L)(hl:L.length<=64):parseR (oT L)=(0,0,oS L) :=
 rP (zk h.1) (by rw[List.length_map];exact hl) (by have:=sq h.1;unfold oT at this;omega) h.2.1
theorem acR {L:List Nat}(h:Seen L)(hl:L.length<=64):Fits1 (Sz.parseS (oT L)).2.2 :=
 ze (zk h.1) (fun p hp=>by
  obtain⟨k,hk,rfl⟩:=List.mem_map.1 hp
  have:=kW k (h.1 k hk)
  omega) (by have:=sq h.1;unfold oT at this;omega)
def below (L:List Nat) (k:Nat):Nat:=((List.range k).filter (inL L)).length
theorem wT (L:List Nat)(k:Nat):below L (k+1)=below L k+(if k∈L then 1 else 0):=by
 unfold below
 rw[List.range_succ,List.filter_append,List.length_append]
 congr 1
 by_cases h:k∈L
 ·rw[if_pos h,List.filter_cons_of_pos (by exact decide_eq_true h)];rfl
 ·rw[if_neg h,List.filter_cons_of_neg (by unfold inL;rw[decide_eq_false h];decide)];rfl
theorem zm (L:List Nat):below L 64=(oS L).length:=by unfold below oS;rw[List.length_map]
theorem vl (L:List Nat){k:Nat}(hk:k<64):∃ R:List Nat,oS L=((List.range k).filter (inL L)).map oP++(if k∈L then [oP k] else [])++R.map oP/\∀ b∈R,k<b/\b<64:=by
 have e:List.range 64=List.range (k+1)++(List.range (64-(k+1))).map (k+1+·):=by rw[<-List.range_add];congr 1;omega
 refine⟨((List.range (64-(k+1))).map (k+1+·)).filter (inL L),?_,fun b hb=>?_⟩
 ·unfold oS
  rw[e,List.filter_append,List.map_append,List.range_succ,List.filter_append,List.map_append]
  congr 2
  by_cases h:k∈L
  ·rw[if_pos h,List.filter_cons_of_pos (by exact decide_eq_true h)];rfl
  ·rw[if_neg h,List.filter_cons_of_neg (by unfold inL;rw[decide_eq_false h];decide)];rfl
 ·obtain⟨c,hc,rfl⟩:=List.mem_map.1 (List.mem_filter.1 hb).1
  have:=List.mem_range.1 hc
  omega
theorem vm (f:Pk->Bool):∀ (a r:List Pk) (i:Nat),(∀ p∈a,f p=false)->idxF f i (a++r)=idxF f (i+a.length) r
 | [],r,i,_=>rfl
 | p :: a,r,i,h=>by
  rw[List.cons_append,idxF,if_neg (by rw[h p List.mem_cons_self];decide),vm f a r (i+1) (fun q hq=>h q (List.mem_cons_of_mem _ hq)),List.length_cons]
  congr 1
  omega
theorem sr (f:Pk->Bool):∀ (a:List Pk) (i:Nat),(∀ p∈a,f p=false)->idxF f i a = -1
 | [],_,_=>rfl
 | p :: a,i,h=>by
  rw[idxF,if_neg (by rw[h p List.mem_cons_self];decide)]
  exact sr f a (i+1) (fun q hq=>h q (List.mem_cons_of_mem _ hq))
theorem acS (L:List Nat){k:Nat}(hk:k<64):findR (oN k).1 (48 :: oV k) (oS L)=if k∈L then ((below L k:Int),true) else (0,false):=by
 obtain⟨h1,h2⟩:=acQ k hk
 obtain⟨R,hR,hb⟩:=vl L hk
 have lo:∀ p∈((List.range k).filter (inL L)).map oP,isP (oN k).1 (48 :: oV k) p=false:=fun p hp=>by
  obtain⟨b,aa,rfl⟩:=List.mem_map.1 hp
  have:=List.mem_range.1 (List.mem_filter.1 aa).1
  rw[h2 b (by omega)]
  exact decide_eq_false (by omega)
 have hi:∀ p∈R.map oP,isP (oN k).1 (48 :: oV k) p=false:=fun p hp=>by
  obtain⟨b,aa,rfl⟩:=List.mem_map.1 hp
  have:=hb b aa
  rw[h2 b (by omega)]
  exact decide_eq_false (by omega)
 unfold findR
 rw[if_neg (fun e=>e h1),hR,List.append_assoc,vm _ _ _ _ lo,List.length_map,Nat.zero_add]
 by_cases hm:k∈L
 ·rw[if_pos hm,if_pos hm]
  have:isP (oN k).1 (48 :: oV k) (oP k)=true:=by rw[h2 k hk];exact decide_eq_true rfl
  rw[List.cons_append,idxF,if_pos this]
  show (if ((below L k:Nat):Int)<0 then _ else _)=_
  rw[if_neg (by omega)]
  rfl
 ·rw[if_neg hm,if_neg hm,List.nil_append,sr _ _ _ hi]
  rfl
theorem adS (L:List Nat){k:Nat}(hk:k<64)(hm:k∈L):∃ h:below L k<(oS L).length,(oS L)[below L k]=oP k:=by
 obtain⟨R,hR,_⟩:=vl L hk
 rw[if_pos hm] at hR
 have hl:(((List.range k).filter (inL L)).map oP).length=below L k:=by rw[List.length_map];rfl
 have hlen:below L k<(oS L).length:=by rw[hR,List.length_append,List.length_append,hl,List.length_cons];omega
 refine⟨hlen,?_⟩
 have:(oS L)[below L k]?=some (oP k):=by
  rw[hR,List.append_assoc,List.getElem?_append_right (by omega),hl,Nat.sub_self]
  rfl
 exact (List.getElem?_eq_some_iff.1 this).2
theorem adC {L:List Nat}:∀ p∈oS L,Vm.check p.ver=0:=fun p hp=>by
 obtain⟨k,hk,_,rfl⟩:=mE.1 hp
 exact fp (adw k hk)
end Rp
end Go.Proofs.YtkoaljpfoekgkaaGreatDoor
