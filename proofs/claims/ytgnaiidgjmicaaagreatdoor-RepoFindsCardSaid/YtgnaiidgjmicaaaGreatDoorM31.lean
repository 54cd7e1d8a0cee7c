/- Part 31 of what the laws lean on. -/
import Derived.Test.YtgnaiidgjmicaaaGreatDoorM30
set_option maxRecDepth 100000
set_option maxHeartbeats 6400000
namespace Go.Proofs.YtgnaiidgjmicaaaGreatDoor
section
open Go.RowKit Rs At Pg Rp
attribute [local go_sem ↓] Go.wp_at_zero Go.wp_at_succ
attribute [local go_sem] Pg.av
def Rp.PkgOfRet (w:World) (X:Int × Int × Pk) (s:List Sz.Fld) (e:Ending) (w':World):Prop:=Below w.heap.size w w'/\(if X.1=0 then ∃ D dc C cc G gc B,e=.returned (.agg (pCells X.2.2 D C G dc cc gc))/\w.heap.size<=B/\PRows B w' X.2.2 D C G else e=panAt (lineAt s X.2.1) X.1)
theorem Rp.abM {u:World}{b:Nat}(h:u.heap[b]?=some (.cells zeroC 68 (0,0)))(p:Pk)(D C G:Option Addr)(dc cc gc:Nat){tmps:Array Value}(ht:tmps.getD 2 undef=.pointer (some ⟨b,0,none⟩)) :
  (results Tryz.f105 tmps).run Tryz.prog (stP u b p D C G dc cc gc)=.ok (.agg (pCells p D C G dc cc gc)) (stP u b p D C G dc cc gc):=by
 obtain⟨g0,g1,g2,g3,g4,g5⟩:=aS (jY h p D C G dc cc gc)
 have hr:Tryz.f105.results=#[.cell 2 68]:=Tryz.results105
 simp only[results,hr]
 generalize stP u b p D C G dc cc gc=V at *
 simp only[Array.getD_eq_getD_getElem?] at ht ⊢
 simp[go_sem,ht,g0,g1,g2,g3,g4,g5]
theorem sc (A:Option Addr)(n c:Nat)(l:List Sz.Fld)(w:World)(hk:KOk w)(hn:l.length=n)(hr:Rg.Row Sz.encF 3 w A l)(hl:n<=1000)(hs:Sz.Short l)(hv:∀ f∈l,ValFit f.key f.val)(h0:l≠[]) :
  Calls Tryz.prog 105 #[.slice A n c] w (PkgOfRet w (fromP l) l):=by
 obtain⟨X,hX⟩:=ex (fromP l)
 rw[hX]
 obtain⟨k,i,p⟩:=X
 obtain⟨l1,l2,_⟩:=ae1 hX h0
 obtain⟨j,rfl⟩:∃ j:Nat,i=j:=⟨i.toNat,by omega⟩
 have am:j<l.length:=by omega
 have ar:lineAt l (j:Int)=l[j].line:=by unfold lineAt;rw[Int.toNat_natCast,List.getElem?_eq_getElem am]
 obtain⟨W0,ae⟩:=ex (w.alloc (.cells zeroC 68))
 have ah:Hid (Below w.heap.size w W0):=ai ae
 have HZ:Hid (∀ u,Below W0.heap.size W0 u->u.heap[w.heap.size]?=some (.cells zeroC 68 (0,0))):=fun u h=>(h.block _ (by rw[<-ae];simp)).trans (by rw[<-ae];exact heap_alloc_new w _)
 have aB:Hid (W0.heap.size=w.heap.size+1):=by show _=_;rw[<-ae];simp
 have HC:=zh (wT A n c l W0 (aH hk ah.out) hn (Rg.aj hr ah.out) hl hs hv)
 rw[hX] at HC
 obtain⟨L,hL⟩:=ex (l[j].line)
 have HL:Hid (lineAt l (j:Int)=L):=by show _=_;rw[ar,hL]
 have aD:=zh hr
 have HN:=zh hn
 obtain⟨ad,hA,-,-,-,al⟩:=Sz.d8 hr j am
 rw[hL] at al
 have aF:Hid (∀ u,Below w.heap.size w u->u.cell? ⟨(ad.add (j*3)).block,(ad.add (j*3)).off+2,none⟩=some (.int .i64 L)):=fun u h=>(h.cell (p:=⟨(ad.add (j*3)).block,(ad.add (j*3)).off+2,none⟩) (cj al)).trans al
 have aK:(0:Int)<=(j:Int):=by omega
 have aL:(j:Int)<(n:Int):=by omega
 subst hA
 clear hk hn hr hl hs hv h0 hX l1 l2 am ar hL al
 go_enter Tryz.func105,Tryz.ntmps105
 go_wp2_with fail
 clear ae
 refine HC.out.mono ?_
 rintro e z1 ⟨hb,D,dc,C,cc,G,gc,rfl,aa⟩
 have HB:=zh hb
 have HR:=zh aa
 dsimp only
 clear hb aa HC
 obtain⟨nm,vr,af,ab,ag,wt⟩:=p
 obtain⟨dn,ay⟩:=ex af.length
 obtain⟨cn,az⟩:=ex ab.length
 obtain⟨gn,aA⟩:=ex ag.length
 obtain⟨b2,aJ⟩:=ex z1.heap.size
 obtain⟨V,hV⟩:=ex (z1.alloc (.cells #[.string ⟨nm.toArray⟩,.string ⟨vr.toArray⟩,.slice D dn dc,.slice C cn cc,.slice G gn gc,.float .f64 wt] 68))
 have HV:Hid (Below z1.heap.size z1 V):=ai hV
 have au:Hid (Below W0.heap.size W0 V):=bt HB.out HV.out
 have an:Hid (Below w.heap.size w V):=bt ah.out au.out
 obtain⟨y0,y1,y2,y3,y4,y5⟩:=aw hV (Below.refl _ _)
 have aM:=aF.out V an.out
 rw[aJ] at y0 y1 y2 y3 y4 y5
 have aI:=zh (my HR.out HV.out)
 simp only[pCells,ay,az,aA]
 by_cases ak:k=0
 case neg =>
  have d0:(k==0)=false:=by simpa using ak
  have HK:=zh ak
  clear ak
  go_wp2_with fail
  clear hV
  refine (aE _).mono ?_
  rintro _ z ⟨rfl,rfl⟩
  go_wp2_with fail
  refine⟨rfl,an.out,?_⟩
  rw[if_neg HK.out,HL.out]
 subst ak
 have hz:=HZ.out V au.out
 obtain⟨k0,k1,k2,k3,k4,k5⟩:=aS hz
 have z0:=aC hz 0
 have aN:=aC hz 1
 have z2:=aC hz 2
 have z3:=aC hz 3
 have z4:=aC hz 4
 have z5:=aC hz 5
 have av:=zh hz
 clear hz
 go_wp2_with fail
 clear hV
 refine (aG _).mono ?_
 rintro _ z ⟨rfl,rfl⟩
 go_wp2_with fail
 (try simp only[Exit.inBlock,Exit.then])
 subst ay az aA
 obtain⟨P,hP⟩:∃ P:Pk,(⟨nm,vr,af,ab,ag,wt⟩:Pk)=P:=⟨_,rfl⟩
 have ao:=gq V w.heap.size P D C G dc cc gc
 have ap:=iF an.out (Nat.le_refl _) P D C G dc cc gc
 have aq:=fun tmps h=>abM (tmps:=tmps) av.out P D C G dc cc gc h
 have ax:=bG aI.out ao (by rw[aB.out];omega) (dE av.out)
 rw[hP] at ax ⊢
 have ac:PkgOfRet w (0,(j:Int),P) l (.returned (.agg (pCells P D C G dc cc gc))) (stP V w.heap.size P D C G dc cc gc):=by
  refine⟨ap,?_⟩
  rw[if_pos rfl]
  exact⟨D,dc,C,cc,G,gc,W0.heap.size,rfl,ah.out.size,ax⟩
 subst hP
 exact bodyPost_ret (aq _ rfl) rfl ac
theorem zO (A:Option Addr)(n c b1 i B:Nat)(ds:List PD)(l:List Pk)(d:PD)(p:Pk)(w:World)(ho:Rp.POwn w B 68 (.slice A n c) ds l)(hn:l.length=n)(hi:i<=n)(hd:PFar (Value.slice A n c).ownBlock w d p)(TX:TypeId)(hx:w.heap[b1]?=some (.cells (encP d).toArray TX (0,0)))(hne:(Value.slice A n c).ownBlock≠some b1)(hl:n<=100000)(hB:B<=w.heap.size) :
  Calls Tryz.prog 108 #[.slice A n c,.int .i64 i,.slice (some ⟨b1,0,none⟩) 1 1] w fun e w'=>∃ A' c' ds',e=.returned (.slice A' (n+1) c')/\Rp.POwn w' B 68 (.slice A' (n+1) c') ds' (l.take i++p :: l.drop i)/\Below B w w':=by
 have ac:ds.length=n:=ho.2.2.1.trans hn
 have hlen:(l.take i++p :: l.drop i).length=n+1:=by simp only[List.length_append,List.length_take,List.length_cons,List.length_drop,hn];omega
 have fin:∀ e w',InsRet w B 68 (.slice A n c) (ds.take i++d :: ds.drop i) e w'->∃ A' c' ds',e=.returned (.slice A' (n+1) c')/\Rp.POwn w' B 68 (.slice A' (n+1) c') ds' (l.take i++p :: l.drop i)/\Below B w w':=fun e w' ⟨v',he,h1,h2,h3,h4⟩=>by
  have hp:=uZ ho hd (by omega) h1 h2 h3 h4
  obtain⟨A',c',hv,_,_⟩:=gT hp
  rw[hlen] at hv
  subst hv
  exact⟨A',c',_,he,hp,Rg.aA ho.1 hB h4⟩
 obtain⟨A0,c0,ai,_,ag,ae⟩:=Rg.aF fitsP ho.1
 obtain⟨_,_,rfl⟩:A=A0/\n=ds.length/\c=c0:=by injection ai with a b c;exact⟨a,b,c⟩
 rw[ac] at ag
 have aa:∀ j u,(encP d)[j]?=some u->w.cell? ⟨b1,j,none⟩=some u:=fun j u h=>by rw[cell_of_row w b1 j _ _ (0,0) hx];simpa using h
 by_cases ah:i=n
 ·subst ah
  exact (zG A i c b1 B ds d w ho.1 ac ho.2.1 aa hl hB ag ae).mono fin
 ·have af:i<n:=by omega
  obtain⟨g,rfl,hg,_,_⟩:=Rg.sP ho.1 (by omega)
  have ad:b1≠g:=fun e=>hne (by rw[e];rfl)
  by_cases ab:n+1<=c
  ·exact (va g n c b1 i B ds d w ho.1 ac af ab ho.2.1 TX hx ad hl).mono fin
  ·exact (wU g n c b1 i B ds d w ho.1 ac af (by omega) TX hx hl).mono fin
def Rp.PsRet (w:World) (R:Int × Int × List Pk) (e:Ending) (w':World):Prop:=Below w.heap.size w w'/\(if R.1=0 then ∃ A c,e=.returned (.slice A R.2.2.length c)/\RRow w' A R.2.2 else (e=panAt R.2.1 R.1\/(e=pan R.1/\R.2.1=0)))
def Rp.Fits1 (G:List (List Sz.Fld)):Prop:=∀ s∈G,s.length<=1000/\Sz.Short s/\∀ f∈s,ValFit f.key f.val
theorem Rp.afi {s:List Sz.Fld}{G:List (List Sz.Fld)}{acc:List Pk}{R:Int × Int × List Pk}(h:takeL (s :: G) acc=R):((fromP s).1≠0->R=((fromP s).1,lineAt s (fromP s).2.1,[]))/\((fromP s).1=0->(ins (fromP s).2.2 acc=none->R=(6,lineAt s 0,[]))/\∀ r,ins (fromP s).2.2 acc=some r->takeL G r=R):=by
 unfold takeL at h
 refine⟨fun hc=>by rw[if_pos hc] at h;exact h.symm,fun hc=>⟨fun hi=>?_,fun r hi=>?_⟩⟩
 ·rw[if_neg (fun e=>e hc),hi] at h;exact h.symm
 ·rw[if_neg (fun e=>e hc),hi] at h;exact h
def Rp.PLoop (z:World) (G:List (List Sz.Fld)) (R:Int × Int × List Pk) (k:Nat) (v:Value) (u:World) (ds:List PD) (acc:List Pk):Prop:=takeL (G.drop k) acc=R/\Rp.POwn u z.heap.size 68 v ds acc/\Ord acc/\(∀ p∈acc,checkP p=0)/\acc.length<=k/\Below z.heap.size z u
theorem Rp.afj {acc:List Pk}(h:∀ p∈acc,checkP p=0):∀ p∈acc,Vm.check p.ver=0:=fun p hp=>eL (h p hp)
theorem zP (t:List UInt8)(w:World)(hk:KOk w)(hf:Fits1 (Sz.parseS t).2.2) :
  Calls Tryz.prog 64 #[.string ⟨t.toArray⟩] w (PsRet w (parseR t)):=by
 obtain⟨R,hR⟩:=ex (parseR t)
 rw[hR]
 unfold parseR at hR
 have aP:=pM t
 have HC:=zh (oF t w hk.1)
 obtain⟨X,hX⟩:=ex (Sz.parseS t)
 rw[hX] at HC hR hf aP
 obtain⟨k0,ln,G⟩:=X
 dsimp only at hR hf aP
 have HK:=zh hk
 have HF:=zh hf
 have bJ:=zh aP
 have aQ:=zh hR
 clear hk hf aP hR hX
 go_enter Tryz.func64,Tryz.ntmps64
 go_wp2_with fail
 refine HC.out.mono ?_
 rintro _ z ⟨A,c,rfl,hg,hb⟩
 have HG:=zh hg
 have HB:=zh hb
 dsimp only
 clear hg hb HC
 obtain⟨n,hn⟩:=ex G.length
 rw[hn]
 have HN:=zh hn
 clear hn
 by_cases ax:k0=0
 case neg =>
  have d0:(k0==0)=false:=by simpa using ax
  have ay:Hid (R=(k0,ln,[])):=by show _=_;rw[<-aQ.out,if_pos ax]
  have bK:=zh ax
  clear ax aQ
  go_wp2_with fail
  refine (aE _).mono ?_
  rintro _ u ⟨rfl,rfl⟩
  go_wp2_with fail
  exact⟨rfl,HB.out,by rw[ay.out,if_neg bK.out];exact Or.inl rfl⟩
 subst ax
 have aR:Hid ((if 64<G.length then ((4:Int),(0:Int),([]:List Pk)) else takeL G [])=R):=by show _=_;rw[<-aQ.out,if_neg (show ¬ ((0:Int)≠0) by decide)]
 clear aQ
 go_wp2_with fail
 refine (aG _).mono ?_
 rintro _ u ⟨rfl,rfl⟩
 by_cases aS:64<n
 ·have d0:decide ((n:Int)<=64)=false:=decide_eq_false (by omega)
  have ay:Hid (R=(4,0,[])):=by show _=_;rw[<-aR.out,if_pos (by rw[HN.out];exact aS)]
  clear aR aS
  go_wp2_with fail
  refine (au _).mono ?_
  rintro _ u ⟨rfl,rfl⟩
  go_wp2_with fail
  exact⟨rfl,HB.out,by rw[ay.out,if_neg (by decide)];exact Or.inr ⟨rfl,rfl⟩⟩
 have d0:decide ((n:Int)<=64)=true:=decide_eq_true (by omega)
 have bL:n<=64:=by omega
 have ay:Hid (takeL (G.drop 0) []=R):=by show _=_;rw[List.drop_zero,<-aR.out,if_neg (by rw[HN.out];exact aS)]
 clear aR aS
 go_wp2_with fail
 refine (ak _).mono ?_
 rintro _ u ⟨rfl,rfl⟩
 clear d0
 go_wp2_with fail
 go_loopw [6,29] (fun v i wr=>∃ (k:Nat) (ds:List PD) (acc:List Pk),k<=n/\i=.int .i64 k/\Hid (PLoop z G R k v wr ds acc)) (fun _ i _=>n-(intOf i).toNat)
 case atStart=>exact⟨0,[],[],Nat.zero_le _,rfl,ay.out,uY _ _ _,fun i j hi=>by simp at hi,fun p hp=>(by cases hp),Nat.le_refl _,Below.refl _ _⟩
 case round =>
  obtain⟨k,ds,acc,hk,rfl,HL⟩:=hrel
  by_cases a7:k<n
  ·have az:k<G.length:=by rw[HN.out];exact a7
   obtain⟨l1,l2,l3,l4,l5,l6⟩:=HL.out
   rw[List.drop_eq_getElem_cons az] at l1
   obtain⟨ad,C,bA,cc,rfl,aZ,am,an⟩:=Sz.yo (Gr.aj HG.out l6) k az
   have ae:=HF.out _ (List.getElem_mem az)
   have ah:=bJ.out _ (List.getElem_mem az)
   have bM:=an _ (Below.refl _ _)
   obtain⟨s,hs⟩:=ex (G[k])
   rw[hs] at l1 aZ am ae ah
   obtain⟨t1,t2⟩:=afi l1
   have a8:=zh (sc C bA cc s wr (aH (aH HK.out HB.out) l6) aZ am (by rw[<-aZ];exact ae.1) ae.2.1 ae.2.2 ah)
   have ap:∀ i p,fromP s=(0,i,p)->checkP p=0:=fun i p h=>adl h
   have aq:0<s.length:=List.length_pos_iff.2 ah
   have a9:lineAt s 0=s[0].line:=by unfold lineAt;rw[show (0:Int).toNat=0 from rfl,List.getElem?_eq_getElem aq]
   obtain⟨sd,bV,-,-,-,aa⟩:=Sz.d8 am 0 aq
   obtain⟨L0,bB⟩:=ex (s[0].line)
   rw[bB] at a9 aa
   rw[a9] at t2
   rw[Nat.zero_mul,Rg.add_zero] at aa
   obtain⟨X,hX⟩:=ex (fromP s)
   rw[hX] at a8 t1 t2 ap
   obtain⟨k1,i1,p⟩:=X
   dsimp only at t1 t2
   have bn:=zh t1
   have bo:=zh t2
   have aA:=zh ap
   have aT:=zh l2
   have aB:=zh l3
   have aC:=zh l4
   have bp:=zh l5
   have aU:=zh l6
   have aD:Hid (∀ u,Below wr.heap.size wr u->u.cell? ⟨sd.block,sd.off+2,none⟩=some (.int .i64 L0)):=fun u h=>(h.cell (p:=⟨sd.block,sd.off+2,none⟩) (cj aa)).trans aa
   have b0:(0:Int)<(bA:Int):=by omega
   subst bV
   have ba:=zh a7
   clear t1 t2 ap l1 l2 l3 l4 l5 l6 HL ae ah am an az hs aZ hX a9 bB aa aq a7 hk
   go_wp2_with fail
   clear bM
   refine a8.out.mono ?_
   rintro e z1 ⟨bC,ac⟩
   have bq:=zh bC
   clear bC a8
   dsimp only at ac
   by_cases aF:k1=0
   case neg =>
    obtain rfl:e=panAt (lineAt s i1) k1:=by rw[if_neg aF] at ac;exact ac
    have bb:=zh (bn.out aF)
    have bN:=zh aF
    clear ac aF
    go_wp2_with fail
    exact⟨rfl,HB.out.trans ((bt aU.out bq.out).mono HB.out.size),by rw[bb.out,if_neg bN.out];exact Or.inl rfl⟩
   subst aF
   rw[if_pos rfl] at ac
   obtain⟨D,dc,C2,ar,G2,av,B1,rfl,bD,ao⟩:=ac
   have af:=aA.out _ _ rfl
   obtain⟨u1,u2⟩:=bo.out rfl
   have bc:=zh u1
   have bd:=zh u2
   have bO:Hid (Vm.check p.ver=0):=eL af
   have be:=zh af
   have aI:=zh ao
   have bf:=zh bD
   obtain⟨A3,c3,a6,_,_⟩:=gT aT.out
   obtain⟨n3,bm⟩:=ex acc.length
   rw[bm] at a6
   subst a6
   have bg:=zh bm
   have bP:n3<=64:=by have:=bp.out;have:=ba.out;omega
   clear u1 u2 af ao bD aA bn bo bm
   obtain⟨nm,h0⟩:=ex p.name
   obtain⟨vr,h1⟩:=ex p.ver
   obtain⟨dn,h2⟩:=ex p.deps.length
   obtain⟨cn,h3⟩:=ex p.confl.length
   obtain⟨gn,h4⟩:=ex p.prov.length
   obtain⟨wt,h5⟩:=ex p.wt
   simp only[pCells,h0,h1,h2,h3,h4,h5]
   obtain⟨V,hV⟩:=ex (z1.alloc (.cells #[.string ⟨nm.toArray⟩,.string ⟨vr.toArray⟩,.slice D dn dc,.slice C2 cn ar,.slice G2 gn av,.float .f64 wt] 68))
   have HV:Hid (Below z1.heap.size z1 V):=ai hV
   have bh:Hid (Below wr.heap.size wr V):=bt bq.out HV.out
   have bQ:Hid (Below z.heap.size z V):=bt aU.out bh.out
   have bR:=zh (gh aT.out bh.out)
   have aJ:Hid (RRow V A3 acc):=by
    obtain⟨A4,c4,bW,bX,_⟩:=gT bR.out
    injection bW with e1 _ _
    subst e1
    exact bX
   have aK:=zh (zN A3 n3 c3 acc p D C2 G2 dn dc cn ar gn av nm vr wt V (ag (ag HK.out.1 HB.out) bQ.out) bg.out aJ.out (by omega) (afj aC.out) bO.out h0 h1)
   obtain⟨bv,bY⟩:=ex z1.heap.size
   have br:Hid (∀ u',Below V.heap.size V u'->u'.cell? ⟨bv,0,none⟩=some (.string ⟨nm.toArray⟩)/\u'.cell? ⟨bv,1,none⟩=some (.string ⟨vr.toArray⟩)/\u'.cell? ⟨bv,2,none⟩=some (.slice D dn dc)/\u'.cell? ⟨bv,3,none⟩=some (.slice C2 cn ar)/\u'.cell? ⟨bv,4,none⟩=some (.slice G2 gn av)/\u'.cell? ⟨bv,5,none⟩=some (.float .f64 wt)):=fun u' h=>by
    rw[<-bY]
    exact aw hV h
   obtain⟨g0,g1,g2,g3,g4,g5⟩:=br.out V (Below.refl _ _)
   have HH:Hid (p.name=nm/\p.ver=vr/\p.deps.length=dn/\p.confl.length=cn/\p.prov.length=gn/\p.wt=wt):=⟨h0,h1,h2,h3,h4,h5⟩
   clear h0 h1 h2 h3 h4 h5
   go_wp2_with fail
   clear hV g0 g1 g2 g3 g4 g5
   refine aK.out.mono ?_
   rintro _ u ⟨i,b,rfl,bE,bF,bG⟩
   have bs:=zh bE
   have aV:=zh bF
   have aW:=zh bG
   clear bE bF bG aK
   have aX:Hid (Below wr.heap.size wr u):=bt bh.out aW.out
   have b1:=aD.out u aX.out
   have aY:Hid (ins p acc=if ∃ h:i<acc.length,cmpP acc[i] p=0 then none else some (acc.take i++p :: acc.drop i)):=re aB.out bs.out
   cases b with
   | true =>
    have bb:Hid (R=(6,L0,[])):=bc.out (by rw[aY.out,if_pos (aV.out.1 rfl)])
    clear bc bd aY aV
    go_wp2_with fail
    refine (aE _).mono ?_
    rintro _ u' ⟨rfl,rfl⟩
    go_wp2_with fail
    exact⟨rfl,HB.out.trans ((bt aU.out aX.out).mono HB.out.size),by rw[bb.out,if_neg (show ¬ (6:Int)=0 by decide)];exact Or.inl rfl⟩
   | false =>
    have al:Hid (ins p acc=some (acc.take i++p :: acc.drop i)):=by
     show _=_
     rw[aY.out,if_neg (fun h=>by have:=aV.out.2 h;cases this)]
    have bS:=zh (bd.out _ al.out)
    have aL:=zh (yl aB.out al.out)
    have aM:Hid (∀ q∈acc.take i++p :: acc.drop i,checkP q=0):=fun q hq=>by
     rcases (pL al.out q).1 hq with h | h
     ·rw[h];exact be.out
     ·exact aC.out q h
    have bi:Hid ((acc.take i++p :: acc.drop i).length<=k+1):=by show _<=_;rw[yk al.out];exact Nat.succ_le_succ bp.out
    have bT:Hid (i<=n3):=by show _<=_;rw[<-bg.out];exact bs.out.1
    obtain⟨U,hU⟩:=ex (u.alloc (.cells #[.string ⟨nm.toArray⟩,.string ⟨vr.toArray⟩,.slice D dn dc,.slice C2 cn ar,.slice G2 gn av,.float .f64 wt] 68))
    have bu:Hid (Below u.heap.size u U):=ai hU
    have aN:Hid (Below wr.heap.size wr U):=bt aX.out bu.out
    have bx:Hid (Below z.heap.size z U):=bt aU.out aN.out
    obtain⟨g0,g1,g2,g3,g4,g5⟩:=br.out u aW.out
    have bz:Hid (∀ g,(Value.slice A3 n3 c3).ownBlock=some g->g<wr.heap.size):=fun g hg=>(Rg.bw aT.out.1 g hg).2
    have bj:Hid (PFar (Value.slice A3 n3 c3).ownBlock U ⟨nm,vr,(D,dn,dc),(C2,cn,ar),(G2,gn,av),wt⟩ p):=by
     obtain⟨a0,a1,a2,a3,a4,a5⟩:=HH.out
     subst a0 a1 a2 a3 a4 a5
     exact j3 (rp aI.out (fun g hg=>Nat.lt_of_lt_of_le (bz.out g hg) bf.out) dc ar av) ((bt HV.out aW.out).trans (bu.out.mono (bt HV.out aW.out).size))
    have ab:=zh (zO A3 n3 c3 u.heap.size i z.heap.size ds acc ⟨nm,vr,(D,dn,dc),(C2,cn,ar),(G2,gn,av),wt⟩ p U (gh aT.out aN.out) bg.out bT.out bj.out 68 (by rw[<-hU];exact heap_alloc_new u _) (fun e=>by have:=bz.out _ e;have:=aX.out.size;omega) (by omega) bx.out.size)
    clear bc bd aY aV
    go_wp2_with fail
    refine (aG _).mono ?_
    rintro _ u' ⟨rfl,rfl⟩
    go_wp2_with fail
    clear hU g0 g1 g2 g3 g4 g5
    refine ab.out.mono ?_
    rintro _ x ⟨A5,c5,bZ,rfl,aO,bH⟩
    have bk:=zh aO
    have bU:Hid (Below z.heap.size z x):=bx.out.trans bH
    clear aO bH ab
    go_wp2_with fail
    go_roundw
    case rel=>exact⟨k+1,bZ,acc.take i++p :: acc.drop i,(by have:=ba.out;omega),by go_num,bS.out,bk.out,aL.out,aM.out,bi.out,bU.out⟩
    case measure=>have:=ba.out;simp[intOf];omega
  ·obtain rfl:k=n:=by omega
   obtain⟨l1,l2,l3,l4,l5,l6⟩:=HL.out
   rw[List.drop_eq_nil_of_le (by rw[HN.out];exact Nat.le_refl _)] at l1
   obtain⟨A3,c3,a6,bI,_⟩:=gT l2
   have bl:Hid (PsRet w R (.returned (.slice A3 acc.length c3)) wr):=⟨bt HB.out l6,by
    rw[<-l1]
    exact⟨A3,c3,rfl,bI⟩⟩
   clear l1 l2 l3 l4 l5 l6 HL bI
   subst a6
   go_wp2_with fail
   go_ret
   exact bl.out
end
section
open Go.RowKit Rs At Pg Rp
namespace Rp
theorem lS {α:Type}{enc:α->List Value}{K:Nat}{w:World}{A:Option Addr}{l:List α}{b:Nat}{x:Int}{T:TypeId}(h:Rg.Row enc K w A l)(hb:w.heap[b]?=some (.cells #[.int .i64 x] T (0,0)))(he:∀ y,∃ v,(enc y)[0]?=some v/\∀ z,v≠.int .i64 z):0<l.length->∀ a,A=some a->some b≠some a.block:=fun h0 a ha e=>by
 obtain⟨a',e',_,hc⟩:=h h0
 rw[ha] at e';cases e'
 obtain⟨v,hv,hn⟩:=he l[0]
 have h1:=hc 0 h0 0 _ hv
 rw[if_pos rfl,Nat.zero_mul,Rg.add_zero] at h1
 exact hn x (Sz.dC hb (Option.some.inj e).symm h1)
theorem adO {w:World}{b:Nat}{x:Int}{T:TypeId}(hb:w.heap[b]?=some (.cells #[.int .i64 x] T (0,0))):∀ g,some b=some g->∀ j y,w.cell? ⟨g,j,none⟩=some y->NoB y:=fun g hg j y hy z e=>by
 cases hg
 have:=Sz.dC hb rfl hy
 rw[e] at this;cases this
theorem vm {w:World}{A:Option Addr}{l:List Atm}{b:Nat}{x:Int}{T:TypeId}(h:ARow w A l)(hb:w.heap[b]?=some (.cells #[.int .i64 x] T (0,0)))(v:Value):ARow (w.setCell ⟨b,0,none⟩ v) A l:=by
 obtain⟨ds,h1,h2⟩:=h
 exact⟨ds,cq h1 (aP w ⟨b,0,none⟩ v) (lS h1 hb fun y=>⟨_,rfl,fun z e=>by cases e⟩),pI h2 (aP w ⟨b,0,none⟩ v) (adO hb)⟩
theorem vo {w:World}{A:Option Addr}{l:List Pk}{b:Nat}{x:Int}{T:TypeId}(h:RRow w A l)(hb:w.heap[b]?=some (.cells #[.int .i64 x] T (0,0)))(v:Value):RRow (w.setCell ⟨b,0,none⟩ v) A l:=by
 obtain⟨ds,h1,h2,h3⟩:=h
 refine⟨ds,cq h1 (aP w ⟨b,0,none⟩ v) (lS h1 hb fun y=>⟨_,rfl,fun z e=>by cases e⟩),h2,fun i d p e1 e2=>?_⟩
 obtain⟨q0,q1,q2,q3,q4,q5,⟨xs,x1,x2⟩,q7,q8⟩:=h3 i d p e1 e2
 exact⟨q0,q1,q2,q3,q4,q5,⟨xs,cq x1 (aP w ⟨b,0,none⟩ v) (lS x1 hb fun y=>⟨_,rfl,fun z e=>by cases e⟩),x2.1,fun k e m f1 f2=>⟨(x2.2 k e m f1 f2).1,vm (x2.2 k e m f1 f2).2 hb v⟩⟩,vm q7 hb v,cq q8 (aP w ⟨b,0,none⟩ v) (lS q8 hb fun y=>⟨_,rfl,fun z e=>by cases e⟩)⟩
theorem yv {w:World}{A:Option Addr}{l:List Pk}{b:Nat}(h:RRow w A l)(hp:Sz.P2 b w)(x y:Value):RRow ((w.setCell ⟨b,0,none⟩ x).setCell ⟨b+1,0,none⟩ y) A l :=
 vo (vo h hp.1 x) ((Below.heap_setCell w ⟨b,0,none⟩ x (b+1) (by show b+1≠b;omega)).trans hp.2) y
def PrsRet (w:World) (X:Int × Int × List Pk) (e:Ending) (w':World):Prop:=∃ A c,e=.returned (.tuple #[.slice A X.2.2.length c,.int .i64 X.2.1,.int .i64 X.1])/\RRow w' A X.2.2/\Below w.heap.size w w'
theorem abN (w:World)(A:Option Addr):RRow w A []:=⟨[],fun h=>absurd h (by decide),rfl,fun i d p e1 e2=>by simp at e1⟩
theorem yw {w u:World}{X:Int × Int × List Pk}{k n:Int}(hX:X=(k,n,[]))(hb:Below w.heap.size w u)(x y:Value):PrsRet w X (.returned (.tuple #[.slice none 0 0,.int .i64 n,.int .i64 k])) ((u.setCell ⟨w.heap.size,0,none⟩ x).setCell ⟨w.heap.size+1,0,none⟩ y):=by
 subst hX
 exact⟨none,0,rfl,abN _ _,(hb.setCell (Nat.le_refl _) _).setCell (Nat.le_succ _) _⟩
theorem ry:∀ (G:List (List Sz.Fld)) (acc:List Pk),(takeL G acc).1≠0->(takeL G acc).2.2=[]
 | [],acc,h=>absurd rfl h
 | s :: G,acc,h=>by
  unfold takeL at h ⊢
  split
  ·rfl
  ·rename_i hc
   rw[if_neg hc] at h
   cases hi:ins (fromP s).2.2 acc with
   | none=>rfl
   | some r=>rw[hi] at h;exact ry G r h
theorem vp:∀ (G:List (List Sz.Fld)) (acc:List Pk),(takeL G acc).1=0->(takeL G acc).2.1=0
 | [],acc,h=>rfl
 | s :: G,acc,h=>by
  unfold takeL at h ⊢
  split at h
  ·rename_i hc;exact absurd h hc
  ·rename_i hc
   rw[if_neg hc]
   cases hi:ins (fromP s).2.2 acc with
   | none=>rw[hi] at h;exact absurd h (show (6:Int)≠0 by decide)
   | some r=>rw[hi] at h;exact vp G r h
theorem zQ {t:List UInt8}{X:Int × Int × List Pk}(h:parseR t=X):(X.1≠0->X.2.2=[])/\(X.1=0->X.2.1=0):=by
 subst h
 unfold parseR
 split
 ·rename_i hc;exact⟨fun _=>rfl,fun h=>absurd h hc⟩
 ·split
  ·exact⟨fun _=>rfl,fun h=>absurd h (show (4:Int)≠0 by decide)⟩
  ·exact⟨ry _ _,vp _ _⟩
end Rp
theorem vq (p q:Addr)(x y n:Int)(w:World)(hc:w.cell? p=some (.int .i64 x))(hz:w.frozen? p=false)(hc2:(w.setCell p (.int .i64 0)).cell? q=some (.int .i64 y))(hz2:(w.setCell p (.int .i64 0)).frozen? q=false) :
  CallsD Tryz.prog 62 #[.pointer (some p),.pointer (some q)] (.panicking [{ v:=.iface 77 (.int .i64 n),recovered:=false }]) w fun e u' w' =>
   e=.returned (.tuple #[])/\u'=.panicking [{ v:=.iface 77 (.int .i64 n),recovered:=true }]/\w'=(w.setCell p (.int .i64 0)).setCell q (.int .i64 n):=by
 refine callsD_of_wpS Tryz.func62 rfl fun c₀ cs hu=>?_
 apply wpS_region
 simp[wpOpsS,go_sem,recoverD,hu,Tryz.ntmps62]
 refine (eC n _).mono ?_
 rintro e w' ⟨rfl,rfl⟩
 simp[go_sem,hc,hz,hc2,hz2,bodyPostS,results,Tryz.results62]
theorem se (p q:Addr)(x y k n:Int)(w:World)(hc:∀ u,Below w.heap.size w u->u.cell? p=some (.int .i64 x))(hz:∀ u,Below w.heap.size w u->u.frozen? p=false)(hc2:∀ u,Below w.heap.size w u->(u.setCell p (.int .i64 k)).cell? q=some (.int .i64 y))(hz2:∀ u,Below w.heap.size w u->(u.setCell p (.int .i64 k)).frozen? q=false) :
  CallsD Tryz.prog 62 #[.pointer (some p),.pointer (some q)] (.panicking [{ v:=.iface 158 (.agg #[.int .i64 k,.int .i64 n]),recovered:=false }]) w fun e u' w' =>
   e=.returned (.tuple #[])/\u'=.panicking [{ v:=.iface 158 (.agg #[.int .i64 k,.int .i64 n]),recovered:=true }]/\∃ u,Below w.heap.size w u/\w'=(u.setCell p (.int .i64 k)).setCell q (.int .i64 n):=by
 refine callsD_of_wpS Tryz.func62 rfl fun c₀ cs hu=>?_
 apply wpS_region
 simp[wpOpsS,go_sem,recoverD,hu,Tryz.ntmps62]
 refine (bN k n _).mono ?_
 rintro e w' ⟨rfl,hb⟩
 simp[go_sem,hc _ hb,hz _ hb,hc2 _ hb,hz2 _ hb,bodyPostS,results,Tryz.results62]
 exact⟨w',hb,rfl⟩
theorem wZ (p q:Addr)(x y:Int)(w:World)(hc:w.cell? p=some (.int .i64 x))(hz:w.frozen? p=false)(hc2:(w.setCell p (.int .i64 0)).cell? q=some (.int .i64 y))(hz2:(w.setCell p (.int .i64 0)).frozen? q=false) :
  CallsD Tryz.prog 62 #[.pointer (some p),.pointer (some q)] .returning w fun e u' w'=>e=.returned (.tuple #[])/\u'=.returning/\w'=(w.setCell p (.int .i64 0)).setCell q (.int .i64 0):=by
 refine callsD_of_wpS Tryz.func62 rfl fun c₀ cs hu=>?_
 apply wpS_region
 simp[wpOpsS,go_sem,recoverD,hu,Tryz.ntmps62]
 refine (cJ _).mono ?_
 rintro e w' ⟨rfl,rfl⟩
 cases c₀
 simp_all [go_sem,bodyPostS,results,Tryz.results62]
open Sz in
theorem fM (t:List UInt8)(w:World)(hk:KOk w)(hf:Fits1 (Sz.parseS t).2.2) :
  Calls Tryz.prog 30 #[.string ⟨t.toArray⟩] w (PrsRet w (parseR t)):=by
 have am:∀ (fn:Fn) (first cap:Array Value) (w:World),(Instr.makeFunc fn first cap).run Tryz.prog w=.ok (.func fn first cap) w:=fun _ _ _ _=>rfl
 obtain⟨X,hX⟩:=ex (parseR t)
 rw[hX]
 obtain⟨b1,b2⟩:=zQ hX
 obtain⟨W1,ab⟩:=ex (w.alloc (.cells #[.int .i64 0] 3))
 obtain⟨W2,ag⟩:=ex (W1.alloc (.cells #[.int .i64 0] 77))
 have aa:Hid (∀ u,Below W2.heap.size W2 u->P2 w.heap.size u):=fun u hb=>oD ab ag hb
 have an:W1.heap.size=w.heap.size+1:=by rw[<-ab];simp
 have ac:Hid (Below w.heap.size w W2):=(ai ab).trans ((ai ag).mono (ai ab).size)
 have ae:=zh (zP t W2 (aH hk ac.out) hf)
 rw[hX] at ae
 obtain⟨k,n,r⟩:=X
 have af:=zh b1
 have aj:=zh b2
 clear hk hf hX b1 b2
 go_enter_defers Tryz.func30,Tryz.ntmps30
 go_wp2_with fail
 clear ab ag
 refine ae.out.mono ?_
 rintro e z1 ⟨hb,hr⟩
 have HB:=zh hb
 dsimp only at hr
 clear hb ae
 by_cases hk:k=0
 ·subst hk
  obtain⟨A,c,rfl,h1⟩:∃ A c,e=.returned (.slice A r.length c)/\RRow z1 A r:=by rw[if_pos rfl] at hr;exact hr
  obtain rfl:n=0:=aj.out rfl
  have HR:=zh (yv h1 (aa.out _ HB.out) (.int .i64 0) (.int .i64 0))
  obtain⟨c0,f0,c1,f1⟩:=aL (aa.out _ HB.out)
  obtain⟨d0,g0,d1,g1⟩:=aM (aa.out _ HB.out) (.int .i64 0)
  have ad:=zh (gR (aa.out _ HB.out))
  have ak:Hid (Below w.heap.size w ((z1.setCell ⟨w.heap.size,0,none⟩ (.int .i64 0)).setCell ⟨w.heap.size+1,0,none⟩ (.int .i64 0))):=((bt ac.out HB.out).setCell (Nat.le_refl _) _).setCell (Nat.le_succ _) _
  clear hr h1
  go_wp2_with fail
  generalize (z1.setCell ⟨w.heap.size,0,none⟩ (.int .i64 0)).setCell ⟨w.heap.size+1,0,none⟩ (.int .i64 0)=V at *
  obtain⟨k0,m0,k1,m1⟩:=aL ad.out
  obtain⟨l0,o0,l1,o1⟩:=aM ad.out (.int .i64 0)
  obtain⟨q0,q1⟩:=bO ad.out (.int .i64 0) (.int .i64 0)
  have al:=zh (yv HR.out ad.out (.int .i64 0) (.int .i64 0))
  refine leaves_cons (f:=62) (args:=#[.pointer (some ⟨w.heap.size,0,none⟩),.pointer (some ⟨w.heap.size+1,0,none⟩)]) (by simp) (by simp[go_sem]) ?_
  refine (wZ ⟨w.heap.size,0,none⟩ ⟨w.heap.size+1,0,none⟩ 0 0 _ k0 m0 l1 o1).mono ?_
  rintro e u' w3 ⟨rfl,rfl,rfl⟩
  simp[Leaves,settle,results,Tryz.results30,go_sem,q0,q1]
  exact⟨A,c,rfl,al.out,(ak.out.setCell (Nat.le_refl _) _).setCell (Nat.le_succ _) _⟩
 ·rw[if_neg hk] at hr
  obtain rfl:r=[]:=af.out hk
  clear hk
  rcases hr with rfl | ⟨rfl,rfl⟩
  ·go_wp2_with fail
   refine leaves_cons (f:=62) (args:=#[.pointer (some ⟨w.heap.size,0,none⟩),.pointer (some ⟨w.heap.size+1,0,none⟩)]) (by simp) (by simp[go_sem]) ?_
   refine (se ⟨w.heap.size,0,none⟩ ⟨w.heap.size+1,0,none⟩ 0 0 n k _ (fun u hb=>(aL (aa.out _ (bt HB.out hb))).1) (fun u hb=>(aL (aa.out _ (bt HB.out hb))).2.1) (fun u hb=>(aM (aa.out _ (bt HB.out hb)) _).2.2.1) (fun u hb=>(aM (aa.out _ (bt HB.out hb)) _).2.2.2)).mono ?_
   rintro e u' w3 ⟨rfl,rfl,u,hb,rfl⟩
   have ah:=zh (bt HB.out hb)
   obtain⟨q0,q1⟩:=bO (aa.out _ ah.out) (.int .i64 n) (.int .i64 k)
   simp[Leaves,settle,results,Tryz.results30,go_sem,q0,q1]
   exact yw rfl (bt ac.out ah.out) _ _
  ·obtain⟨c0,f0,c1,f1⟩:=aL (aa.out _ HB.out)
   obtain⟨d0,g0,d1,g1⟩:=aM (aa.out _ HB.out) (.int .i64 0)
   obtain⟨q0,q1⟩:=bO (aa.out _ HB.out) (.int .i64 0) (.int .i64 k)
   go_wp2_with fail
   refine leaves_cons (f:=62) (args:=#[.pointer (some ⟨w.heap.size,0,none⟩),.pointer (some ⟨w.heap.size+1,0,none⟩)]) (by simp) (by simp[go_sem]) ?_
   refine (vq ⟨w.heap.size,0,none⟩ ⟨w.heap.size+1,0,none⟩ 0 0 k _ c0 f0 d1 g1).mono ?_
   rintro e u' w3 ⟨rfl,rfl,rfl⟩
   simp[Leaves,settle,results,Tryz.results30,go_sem,q0,q1]
   exact yw rfl (bt ac.out HB.out) _ _
end
section
open Go.RowKit Rs At Pg Rp
attribute [local go_sem ↓] Go.wp_at_zero Go.wp_at_succ
attribute [local go_sem] Pg.av
def Rp.namesR (l:List Pk):List (List UInt8):=Lib.compact (l.map Pk.name)
def Rp.NamesRet (w:World) (X:List (List UInt8)) (e:Ending) (w':World):Prop:=∃ A c,e=.returned (.slice A X.length c)/\Rg.Row encT 1 w' A X/\Below w.heap.size w w'
theorem Rp.abO {B:Nat}{w0 w:World}{g:Nat}(h:Below B w0 w)(hg:B<=g)(q:Nat)(d:Array (List UInt8)):Below B w0 (Go.Sort.putRow Go.Proofs.encStr (Go.Sort.ahead w q) g 0 d) :=
 h.trans ⟨rfl,rfl,rfl,by simp[Go.Sort.ahead],fun k hk=>by
  simp only[Go.Sort.putRow,Go.Sort.mapBlock,Go.Sort.ahead,Array.getElem?_modify]
  rw[if_neg (by omega)]⟩
theorem Rp.j5 (zs:List (List UInt8)):(Lib.compact zs).length<=zs.length:=by
 unfold Lib.compact Lib.compactUpTo
 rw[List.length_map]
 exact Nat.le_trans (List.length_filter_le _ _) (by rw[List.length_range];exact Nat.le_refl _)
theorem xa (v:Value)(B:Nat)(T:TypeId)(zs:List (List UInt8))(w:World)(ho:Rg.Own encT 1 w B T v zs)(hl:zs.length<=1000000) :
  Calls Tryz.prog 50 #[v] w fun e w'=>∃ A c,e=.returned (.slice A (Lib.compact zs).length c)/\Rg.Row encT 1 w' A (Lib.compact zs)/\Below B w w':=by
 obtain⟨A,c,rfl,hr,hc,ae⟩:=Rg.aF fitsT ho
 by_cases h0:zs=[]
 ·subst h0
  refine (Tryz.slices_Compact_string_empty A c w).mono ?_
  rintro _ _ ⟨rfl,rfl⟩
  exact⟨A,c,rfl,fun h=>absurd h (by decide),Below.refl _ _⟩
 ·have aa:0<zs.length:=List.length_pos_iff.2 h0
  obtain⟨g,rfl,hg,_,ad⟩:=Rg.sP ho aa
  have ab:∀ j (h:j<zs.length),w.cell? ⟨g,j,none⟩=some (Go.Proofs.encStr zs[j]):=fun j h=>by
   obtain⟨a,e,_,hc⟩:=hr aa
   cases e
   have h1:=hc j h 0 _ rfl
   rw[if_pos rfl,Nat.mul_one] at h1
   have e:(⟨g,0,none⟩:Addr).add j=⟨g,j,none⟩:=by unfold Addr.add;split <;> simp_all
   rw[e] at h1
   exact h1
  have hH:Go.Sort.Holds Go.Proofs.encStr w g 0 zs.toArray:=fun j hj=>by
   have ac:j<zs.length:=by simpa using hj
   rw[Nat.zero_add]
   refine⟨?_,ad j⟩
   rw[getElem!_pos zs.toArray j hj]
   simpa using ab j ac
  refine (Tryz.slices_Compact_string g 0 c zs w hH (by omega) hc).mono ?_
  rintro _ _ ⟨rfl,q,rfl⟩
  refine⟨_,c,rfl,fun hp=>⟨⟨g,0,none⟩,rfl,?_,fun i hi j u hu=>?_⟩,abO (Below.refl _ _) hg q _⟩
  ·have:=(Rg.bw ho g rfl).2
   simpa [Go.Sort.ahead] using this
  ·have hj:j=0:=by have h:=(List.getElem?_eq_some_iff.1 hu).1;simp only[encT,List.length_cons,List.length_nil] at h;omega
   subst hj
   rw[if_pos rfl,Nat.mul_one]
   have e:(⟨g,0,none⟩:Addr).add i=⟨g,0+i,none⟩:=by unfold Addr.add;split <;> simp_all
   have hle:(Lib.compact zs).length<=zs.length:=j5 zs
   have hs:(Lib.compact zs++List.replicate (zs.length-(Lib.compact zs).length) []).toArray.size=zs.toArray.size:=by simp;omega
   rw[e,Go.Sort.cell?_putRow Go.Proofs.encStr (Go.Sort.ahead w q) g 0 zs.toArray _ hH hs i (by simp;omega)]
   rw[getElem!_pos _ i (by simp;omega)]
   simp only[List.getElem_toArray]
   rw[List.getElem_append_left hi]
   exact hu
theorem fN (A:Option Addr)(n c:Nat)(l:List Pk)(w:World)(hn:l.length=n)(hr:RRow w A l)(hl:n<=100000)(hs:∀ p∈l,p.name.length<=1000000) :
  Calls Tryz.prog 17 #[.slice A n c] w (NamesRet w (namesR l)):=by
 obtain⟨X,hX⟩:=ex (namesR l)
 rw[hX]
 have HX:=zh hX
 have HR:=zh hr
 have HN:=zh hn
 have HS:=zh hs
 clear hr hn hX hs
 go_enter Tryz.func17,Tryz.ntmps17
 go_wp2_with fail
 go_loopw [3,8] (fun v i wr=>∃ k:Nat,k<=n/\i=.int .i64 k/\Hid (Rg.Own encT 1 wr w.heap.size 9 v ((l.take k).map Pk.name))/\Hid (Below w.heap.size w wr/\w.heap.size<=wr.heap.size)) (fun _ i _=>n-(intOf i).toNat)
 case atStart=>exact⟨0,Nat.zero_le _,rfl,Rg.aB _ _ _,Below.refl _ _,Nat.le_refl _⟩
 case round =>
  obtain⟨k,hk,rfl,HO,HB⟩:=hrel
  by_cases aC:k<n
  ·have ac:k<l.length:=by rw[HN.out];exact aC
   obtain⟨ad,D,dc,C,cc,G,gc,rfl,pd,pc,pg,hc⟩:=aY HR.out k ac
   obtain⟨c0,c1,c2,c3,c4,c5⟩:=hc _ HB.out.1
   have aa:=HS.out _ (List.getElem_mem ac)
   have ab:(l.take (k+1)).map Pk.name=(l.take k).map Pk.name++[l[k].name]:=by rw[List.take_succ_eq_append_getElem ac,List.map_append];rfl
   obtain⟨a,ha⟩:=ex (l[k])
   rw[ha] at c0 c1 c2 c3 c4 c5 aa ab
   obtain⟨ak,ao⟩:=ex a.name
   obtain⟨aJ,ap⟩:=ex a.ver
   obtain⟨aK,aq⟩:=ex a.deps.length
   obtain⟨aL,ar⟩:=ex a.confl.length
   obtain⟨aM,au⟩:=ex a.prov.length
   obtain⟨aO,av⟩:=ex a.wt
   rw[ao] at c0 aa ab
   rw[ap] at c1
   rw[aq] at c2
   rw[ar] at c3
   rw[au] at c4
   rw[av] at c5
   obtain⟨l0,al⟩:=ex ((l.take k).map Pk.name)
   have aD:l0.length=k:=by rw[<-al,List.length_map,List.length_take];omega
   rw[al] at HO ab
   obtain⟨V,hV⟩:=ex (wr.alloc (.cells #[.string ⟨ak.toArray⟩,.string ⟨aJ.toArray⟩,.slice D aK dc,.slice C aL cc,.slice G aM gc,.float .f64 aO] 68))
   have HV:Hid (Below wr.heap.size wr V):=ai hV
   have an:=zh (a6 ak V (by omega))
   obtain⟨g0,g1,g2,g3,g4,g5⟩:=aw hV (Below.refl _ _)
   have aE:=zh ab
   have aF:Hid (l0.length+1<=1000000):=by show _<=_;omega
   clear hc ac ha ao ap aq ar au av aa pd pc pg ab al aD
   go_wp2_with fail
   clear hV
   refine an.out.mono ?_
   rintro _ w1 ⟨rfl,ax⟩
   have ae:Hid (Below wr.heap.size wr w1):=bt HV.out ax
   have af:Hid (Below w.heap.size w w1/\w.heap.size<=w1.heap.size):=⟨HB.out.1.trans (ae.out.mono HB.out.2),Nat.le_trans HB.out.2 ae.out.size⟩
   have ag:=zh (Rg.own_below HO.out ae.out)
   clear ax c0 c1 c2 c3 c4 c5 g0 g1 g2 g3 g4 g5 HB HO HV an
   go_wp2_with (at_builtin;refine Rg.aN sliceTx rfl (.tmp 12) (.tmp 16) rfl w.heap.size _ l0 [ak] rfl (Rg.own_below ag.out ((Below.refl _ _).alloc (Nat.le_refl _) _)) _ _ rfl (Rg.az w1 _ _ _ (by rfl)) (Nat.zero_lt_succ _) aF.out ?b1 ?_)
   case b1=>have:=af.out.2;simp;omega
   intro v5 W5 ay aA aP
   have aG:=cF af ag aA
   have aH:Hid (Rg.Own encT 1 W5 w.heap.size 9 v5 ((l.take (k+1)).map Pk.name)):=by show Rg.Own _ _ _ _ _ _ _;rw[aE.out];exact ay
   clear ay aA aP ag af
   go_wp2_with fail
   go_roundw
   case rel=>exact⟨k+1,by omega,by go_num,aH.out,aG.out⟩
   case measure=>simp[intOf];omega
  ·obtain rfl:k=n:=by omega
   have hO:=HO.out
   rw[List.take_of_length_le (by rw[HN.out];exact Nat.le_refl _)] at hO
   have ah:=zh (xa _ w.heap.size _ _ wr hO (by rw[List.length_map,HN.out];omega))
   clear hO HO
   obtain⟨zs,am⟩:=ex (l.map Pk.name)
   have aI:Hid (Lib.compact zs=X):=by show _=_;rw[<-am];exact HX.out
   rw[am,aI.out] at ah
   clear am
   go_wp2_with fail
   refine ah.out.mono ?_
   rintro _ u ⟨A',c',rfl,hr,hb⟩
   have aj:Hid (NamesRet w X (.returned (.slice A' X.length c')) u):=⟨A',c',rfl,hr,HB.out.1.trans hb⟩
   clear hr hb ah
   go_wp2_with fail
   go_ret
   exact aj.out
end
namespace Rp
open Go.RowKit Rs At Pg
def sp7:List Sp:=[⟨[50],[],true,false⟩]
def at7:Atm:=⟨[108,105,98],sp7⟩
def p71:Pk:=⟨[97,112,112],[49],[],[],[],0⟩
def p72:Pk:=⟨[97,112,112],[50],[[at7]],[],[],0⟩
def p73:Pk:=⟨[108,105,98],[49],[],[],[],0⟩
def r7:List Pk:=[p71,p72,p73]
def small7:List UInt8:=[80,97,99,107,97,103,101,58,32,97,112,112,10,86,101,114,115,105,111,110,58,32,50,10,68,101,112,101,110,100,115,58,32,108,105,98,32,40,62,61,32,50,41,10,10,80,97,99,107,97,103,101,58,32,97,112,112,10,86,101,114,115,105,111,110,58,32,49,10,10,80,97,99,107,97,103,101,58,32,108,105,98,10,86,101,114,115,105,111,110,58,32,49,10]
def two7:List UInt8:=[80,97,99,107,97,103,101,58,32,97,10,86,101,114,115,105,111,110,58,32,49,10,10,80,97,99,107,97,103,101,58,32,97,10,86,101,114,115,105,111,110,58,32,48,49,45,48,10]
def bad7:List UInt8:=[80,97,99,107,97,103,101,58,32,97,10,86,101,114,115,105,111,110,58,32,49,10,68,101,112,101,110,100,115,58,32,66,10]
def out7:List UInt8:=[80,97,99,107,97,103,101,58,32,97,112,112,10,86,101,114,115,105,111,110,58,32,49,10,10,80,97,99,107,97,103,101,58,32,97,112,112,10,86,101,114,115,105,111,110,58,32,50,10,68,101,112,101,110,100,115,58,32,108,105,98,32,40,62,61,32,50,41,10,10,80,97,99,107,97,103,101,58,32,108,105,98,10,86,101,114,115,105,111,110,58,32,49,10]
theorem k7a:parseR small7=(0,0,r7):=by decide +kernel
theorem k7b:parseR two7=(6,3,[]):=by decide +kernel
theorem k7c:parseR bad7=(3,2,[]):=by decide +kernel
def fitB (G:List (List Sz.Fld)):Bool:=G.all fun s=>decide (s.length<=1000)&&s.all fun f=>decide (f.key.length<=1000)&&decide (f.val.length<=1000)
theorem vs {G:List (List Sz.Fld)}(h:fitB G=true):Fits1 G:=fun s hs=>by
 have h1:=List.all_eq_true.1 h s hs
 rw[Bool.and_eq_true,decide_eq_true_eq] at h1
 have h2:∀ f∈s,f.key.length<=1000/\f.val.length<=1000:=fun f hf=>by
  have h3:=List.all_eq_true.1 h1.2 f hf
  rwa [Bool.and_eq_true,decide_eq_true_eq,decide_eq_true_eq] at h3
 exact⟨h1.1,fun f hf=>by have:=h2 f hf;omega,fun f hf=>uO (h2 f hf).2⟩
theorem k7d:fitB (Sz.parseS small7).2.2=true/\fitB (Sz.parseS two7).2.2=true/\fitB (Sz.parseS bad7).2.2=true:=by decide +kernel
theorem k7e:printR r7=(out7,0):=by decide +kernel
theorem k7f:findR [97,112,112] [48,50] r7=(1,true)/\findR [108,105,98] [50] r7=(0,false):=by decide +kernel
theorem k7g:chkR [p72,p71]=(1,7)/\chkR r7=(0,0):=by decide +kernel
theorem k7h:namesR r7=[[97,112,112],[108,105,98]]:=by decide +kernel
theorem k7i:numF (fun p=>decide (p.name=[97,112,112])) 0 r7=[0,1]:=by decide +kernel
theorem k7j:numF (fun p=>metP p at7) 0 r7=[]:=by decide +kernel
theorem k7k:samL r7 r7=true:=by decide +kernel
theorem k7l:checkP p71=0/\checkP p72=0/\checkP p73=0:=by decide +kernel
theorem k7m:(textR r7).length<=1000000:=by decide +kernel
theorem k7n:checkR sp7=0:=by decide +kernel
theorem all7 {P:Pk->Prop}(h:∀ p,checkP p=0->p.wt<Wm.W->P p):∀ p∈r7,P p:=fun p hp=>by
 have hw:(0:Nat)<Wm.W:=by decide +kernel
 rcases List.mem_cons.1 hp with rfl | hp
 ·exact h _ k7l.1 hw
 ·rcases List.mem_cons.1 hp with rfl | hp
  ·exact h _ k7l.2.1 hw
  ·rw[List.mem_singleton.1 hp];exact h _ k7l.2.2 hw
end Rp
section
open Go.RowKit Rs At Pg Rp
attribute [local go_sem ↓] Go.wp_at_zero Go.wp_at_succ
attribute [local go_sem] Pg.av
theorem Rp.lT {w:World}{A:Option Addr}{l:List Int}(h:IRow w A l)(k:Nat)(hk:k<l.length):∃ ad x,A=some ad/\l[k]=x/\ad.block<w.heap.size/\w.cell? (ad.add k)=some (.int .i64 x):=by
 obtain⟨ad,x,h1,h2,h3,h4⟩:=Rg.cK h k hk
 refine⟨ad,x,h1,h2,h3,?_⟩
 have:=h4 0 (.int .i64 x) rfl
 rwa [if_pos rfl,Nat.mul_one] at this
theorem Rp.eN {w w':World}{A:Option Addr}{l:List Int}(h:IRow w A l)(hb:Below w.heap.size w w'):IRow w' A l:=Rg.aj h hb
theorem iU (A B:Option Addr)(n m c d:Nat)(l k:List Int)(w:World)(hn:l.length=n)(hm:k.length=m)(hr:IRow w A l)(hq:IRow w B k)(hl:n<=1000000) :
  Calls Tryz.prog 19 #[.slice A n c,.slice B m d] w fun e w'=>e=.returned (.bool (decide (l=k)))/\Below w.heap.size w w':=by
 obtain⟨X,hX⟩:=ex (decide (l=k))
 rw[hX]
 have HX:=zh hX
 have HR:=zh hr
 have HQ:=zh hq
 have HN:=zh hn
 have HM:=zh hm
 clear hX hr hq hn hm
 by_cases hlen:n=m
 ·have hd:((n:Int) != m)=false:=by rw[hlen];simp
  have HL:=zh hlen
  clear hlen
  go_enter Tryz.func19,Tryz.ntmps19
  go_wp2_with fail
  clear hd
  go_loopw [5] (fun i wr=>∃ j:Nat,j<=n/\i=.int .i64 j/\Hid (l.take j=k.take j)/\Hid (Below w.heap.size w wr)) (fun i _=>n-(intOf i).toNat)
  case atStart=>exact⟨0,Nat.zero_le _,rfl,rfl,Below.refl _ _⟩
  case round =>
   obtain⟨j,hj,rfl,HT,HW⟩:=hrel
   by_cases ag:j<n
   ·have ab:j<m:=by have:=HL.out;omega
    have h1:j<l.length:=by rw[HN.out];exact ag
    have h2:j<k.length:=by rw[HM.out];exact ab
    obtain⟨ad,x,rfl,hx,hs,hc⟩:=lT (eN HR.out HW.out) j h1
    obtain⟨ae,y,rfl,hy,ht,he⟩:=lT (eN HQ.out HW.out) j h2
    have ac:Hid (x=y->l.take (j+1)=k.take (j+1)):=fun q=>by
     rw[List.take_succ_eq_append_getElem h1,List.take_succ_eq_append_getElem h2,HT.out,hx,hy,q]
    have af:Hid (x≠y->X=false):=fun q=>by
     rw[<-HX.out];exact decide_eq_false fun h=>q (by subst h;exact hx.symm.trans hy)
    have j0:(0:Int)<=(j:Int):=by omega
    have j1:(j:Int)<(n:Int):=by omega
    have j2:(j:Int)<(m:Int):=by omega
    clear hx hy hs ht h1 h2
    cases aa:x==y
    ·have ah:(x != y)=true:=by show (!(x==y))=true;rw[aa];rfl
     have HF:Hid (X=false):=af.out fun q=>by rw[q] at aa;simp at aa
     clear ac af
     go_wp2_with fail
     first | (go_quiet (fail)) | fail
     go_wp2_with fail
     go_ret
     exact⟨by rw[HF.out];rfl,below_drewN HW.out _⟩
    ·have ah:(x != y)=false:=by show (!(x==y))=false;rw[aa];rfl
     have ai:Hid (l.take (j+1)=k.take (j+1)):=ac.out (by simpa using aa)
     clear ac af
     go_wp2_with fail
     first | (go_quiet (fail)) | fail
     go_wp2_with fail
     go_roundw
     case rel=>exact⟨j+1,by omega,by go_num,ai,below_drewN HW.out _⟩
     case measure=>simp[intOf];omega
   ·have HF:Hid (X=true):=by
     show _=_
     rw[<-HX.out]
     refine decide_eq_true ?_
     have:=HT.out
     rwa [List.take_of_length_le (by rw[HN.out];omega),List.take_of_length_le (by rw[HM.out];have:=HL.out;omega)] at this
    go_wp2_with fail
    go_ret
    exact⟨by rw[HF.out];rfl,HW.out⟩
 ·have hd:((n:Int) != m)=true:=by
   show (!((n:Int)==m))=true
   have:((n:Int)==m)=false:=by simp;omega
   rw[this];rfl
  have HF:Hid (X=false):=by
   show _=_
   rw[<-HX.out]
   exact decide_eq_false fun h=>hlen (by rw[<-HN.out,<-HM.out,h])
  clear hlen
  go_enter Tryz.func19,Tryz.ntmps19
  go_wp2_with fail
  go_ret
  exact⟨by rw[HF.out];rfl,Below.refl _ _⟩
end
section
open Go.RowKit Rs At Pg Rp
attribute [local go_sem ↓] Go.wp_at_zero Go.wp_at_succ
theorem Rp.jq {w:World}{A:Option Addr}{l:List (List UInt8)}(h:Rg.Row encT 1 w A l)(k:Nat)(hk:k<l.length):∃ ad x,A=some ad/\l[k]=x/\ad.block<w.heap.size/\w.cell? (ad.add k)=some (.string ⟨x.toArray⟩):=by
 obtain⟨ad,e,hl,hc⟩:=Sz.dP h k hk
 exact⟨ad,_,e,rfl,hl,hc⟩
theorem lz (A B:Option Addr)(n m c d:Nat)(l k:List (List UInt8))(w:World)(hn:l.length=n)(hm:k.length=m)(hr:Rg.Row encT 1 w A l)(hq:Rg.Row encT 1 w B k)(hl:n<=1000000) :
  Calls Tryz.prog 16 #[.slice A n c,.slice B m d] w fun e w'=>e=.returned (.bool (decide (l=k)))/\Below w.heap.size w w':=by
 obtain⟨X,hX⟩:=ex (decide (l=k))
 rw[hX]
 have HX:=zh hX
 have HR:=zh hr
 have HQ:=zh hq
 have HN:=zh hn
 have HM:=zh hm
 clear hX hr hq hn hm
 by_cases hlen:n=m
 ·have hd:((n:Int) != m)=false:=by rw[hlen];simp
  have HL:=zh hlen
  clear hlen
  go_enter Tryz.func16,Tryz.ntmps16
  go_wp2_with fail
  clear hd
  go_loopw [5] (fun i wr=>∃ j:Nat,j<=n/\i=.int .i64 j/\Hid (l.take j=k.take j)/\Hid (Below w.heap.size w wr)) (fun i _=>n-(intOf i).toNat)
  case atStart=>exact⟨0,Nat.zero_le _,rfl,rfl,Below.refl _ _⟩
  case round =>
   obtain⟨j,hj,rfl,HT,HW⟩:=hrel
   by_cases ag:j<n
   ·have ab:j<m:=by have:=HL.out;omega
    have h1:j<l.length:=by rw[HN.out];exact ag
    have h2:j<k.length:=by rw[HM.out];exact ab
    obtain⟨ad,x,rfl,hx,hs,hc⟩:=jq (Rg.aj HR.out HW.out) j h1
    obtain⟨ae,y,rfl,hy,ht,he⟩:=jq (Rg.aj HQ.out HW.out) j h2
    have ac:Hid (x=y->l.take (j+1)=k.take (j+1)):=fun q=>by
     rw[List.take_succ_eq_append_getElem h1,List.take_succ_eq_append_getElem h2,HT.out,hx,hy,q]
    have af:Hid (x≠y->X=false):=fun q=>by
     rw[<-HX.out];exact decide_eq_false fun h=>q (by subst h;exact hx.symm.trans hy)
    have j0:(0:Int)<=(j:Int):=by omega
    have j1:(j:Int)<(n:Int):=by omega
    have j2:(j:Int)<(m:Int):=by omega
    clear hx hy hs ht h1 h2
    cases aa:x==y
    ·have ah:(x != y)=true:=by show (!(x==y))=true;rw[aa];rfl
     have HF:Hid (X=false):=af.out fun q=>by rw[q] at aa;simp at aa
     clear ac af
     go_wp2_with fail
     first | (go_quiet (fail)) | fail
     go_wp2_with fail
     go_ret
     exact⟨by rw[HF.out];rfl,below_drewN HW.out _⟩
    ·have ah:(x != y)=false:=by show (!(x==y))=false;rw[aa];rfl
     have ai:Hid (l.take (j+1)=k.take (j+1)):=ac.out (by simpa using aa)
     clear ac af
     go_wp2_with fail
     first | (go_quiet (fail)) | fail
     go_wp2_with fail
     go_roundw
     case rel=>exact⟨j+1,by omega,by go_num,ai,below_drewN HW.out _⟩
     case measure=>simp[intOf];omega
   ·have HF:Hid (X=true):=by
     show _=_
     rw[<-HX.out]
     refine decide_eq_true ?_
     have:=HT.out
     rwa [List.take_of_length_le (by rw[HN.out];omega),List.take_of_length_le (by rw[HM.out];have:=HL.out;omega)] at this
    go_wp2_with fail
    go_ret
    exact⟨by rw[HF.out];rfl,HW.out⟩
 ·have hd:((n:Int) != m)=true:=by
   show (!((n:Int)==m))=true
   have:((n:Int)==m)=false:=by simp;omega
   rw[this];rfl
  have HF:Hid (X=false):=by
   show _=_
   rw[<-HX.out]
   exact decide_eq_false fun h=>hlen (by rw[<-HN.out,<-HM.out,h])
  clear hlen
  go_enter Tryz.func16,Tryz.ntmps16
  go_wp2_with fail
  go_ret
  exact⟨by rw[HF.out];rfl,Below.refl _ _⟩
theorem vt (w:World):Calls Tryz.prog 31 #[] w fun e w'=>e=.returned (.string ⟨Rp.small7.toArray⟩)/\w=w':=by
 go_enter Tryz.func31,Tryz.ntmps31
 go_wp2_with fail
 go_ret
 exact⟨rfl,rfl⟩
end
end Go.Proofs.YtgnaiidgjmicaaaGreatDoor
