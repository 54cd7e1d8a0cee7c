/- Part 35 of what the laws lean on. -/
import Derived.Test.YtkaeamjnphaadaaGreatDoorL34
set_option maxRecDepth 100000
set_option maxHeartbeats 6400000
namespace Go.Proofs.YtkaeamjnphaadaaGreatDoor
section
open Go.RowKit Rs At Pg
attribute [local go_sem ↓] Go.wp_at_zero Go.wp_at_succ
attribute [local go_sem] Pg.a8
theorem vO (key t:List UInt8)(i:Int)(p:Pk)(D C G:Option Addr)(dc cc gc B:Nat)(w:World)(hw:MaxOk w)(hp:PRows B w p D C G)(hB:B<=w.heap.size)(ht:t.length<=1000)(h0:Nil0 p D dc G gc)(hkey:key=kPro)(hnil:p.prov=[]) :
  Calls Tryz.prog 24 #[.agg #[.string ⟨p.name.toArray⟩,.string ⟨p.ver.toArray⟩,.slice D p.deps.length dc,.slice C p.confl.length cc,.slice G p.prov.length gc,.float .f64 p.wt],.agg #[.string ⟨key.toArray⟩,.string ⟨t.toArray⟩,.int .i64 i]] w (FillRet B w (takeR p key t)):=by
 obtain⟨R,hR⟩:=ex (takeR p key t)
 rw[hR]
 unfold takeR at hR
 obtain⟨W1,a1⟩:=ex (w.alloc (.cells #[.string ⟨p.name.toArray⟩,.string ⟨p.ver.toArray⟩,.slice D p.deps.length dc,.slice C p.confl.length cc,.slice G p.prov.length gc,.float .f64 p.wt] 42))
 obtain⟨W2,a2⟩:=ex (W1.alloc (.cells #[.string ⟨key.toArray⟩,.string ⟨t.toArray⟩,.int .i64 i] 25))
 obtain⟨W3,a3⟩:=ex (W2.alloc (.cells zeroC 42))
 have aL:Below w.heap.size w W1:=ag a1
 have a9:Below W1.heap.size W1 W2:=ag a2
 have aF:Below W2.heap.size W2 W3:=ag a3
 have aM:Below W1.heap.size W1 W3:=bt a9 aF
 have HB:Hid (Below w.heap.size w W3):=bt aL aM
 have bC:Hid (∀ u,Below W3.heap.size W3 u->Below w.heap.size w u):=fun u h=>bt HB.out h
 obtain⟨b,hb⟩:=ex w.heap.size
 obtain⟨b1,bS⟩:=ex W1.heap.size
 obtain⟨b2,bT⟩:=ex W2.heap.size
 have HH:Hid (∀ u,Below W3.heap.size W3 u->u.heap[b]?=some (.cells (pCells p D C G dc cc gc) 42 (0,0))/\u.heap[b1]?=some (.cells #[.string ⟨key.toArray⟩,.string ⟨t.toArray⟩,.int .i64 i] 25 (0,0))/\u.heap[b2]?=some (.cells zeroC 42 (0,0))):=fun u h=>by
  rw[<-hb,<-bS,<-bT]
  have h2:=bt aF h
  have h1:=bt a9 h2
  exact⟨(h1.block _ (by rw[<-a1];simp)).trans (by rw[<-a1];exact heap_alloc_new w _),(h2.block _ (by rw[<-a2];simp)).trans (by rw[<-a2];exact heap_alloc_new W1 _),(h.block _ (by rw[<-a3];simp)).trans (by rw[<-a3];exact heap_alloc_new W2 _)⟩
 have ac:Hid (b<b1/\b1<b2/\b2<W3.heap.size/\b<=b2):=by
  show _/\_
  rw[<-hb,<-bS,<-bT,<-a3,<-a2,<-a1]
  refine⟨by simp,by simp,by simp,by simp;omega⟩
 have HM:Hid (MaxOk W3):=ah hw HB.out
 have HT:=zh ht
 have cF:=zh hw
 have aG:=zh hb
 have b8:=zh hp
 have b9:=zh hB
 have bD:=zh h0
 obtain⟨⟨c0,y0⟩,⟨c1,y1⟩,⟨c2,y2⟩,⟨c3,y3⟩,⟨c4,y4⟩,c5,y5⟩:=au (HH.out W3 (Below.refl _ _)).1
 obtain⟨f0,f1⟩:=eL (HH.out W3 (Below.refl _ _)).2.1
 obtain⟨⟨k0,z0⟩,⟨k1,z1⟩,⟨k2,z2⟩,⟨k3,z3⟩,⟨k4,z4⟩,k5,z5⟩:=au (HH.out W3 (Below.refl _ _)).2.2
 clear aL a9 aF aM hp hw ht h0
 obtain⟨hG,cB⟩:=bD.out.2 hnil
 subst hG cB
 subst hkey
 rw[if_neg (by decide)] at hR
 have d0:(kPro==[80,97,99,107,97,103,101])=false:=by decide
 rw[if_neg (by decide)] at hR
 have d1:(kPro==[86,101,114,115,105,111,110])=false:=by decide
 rw[if_neg (by decide)] at hR
 have d2:(kPro==[68,101,112,101,110,100,115])=false:=by decide
 rw[if_neg (by decide)] at hR
 have d3:(kPro==[67,111,110,102,108,105,99,116,115])=false:=by decide
 rw[if_pos rfl] at hR
 have d4:(kPro==[80,114,111,118,105,100,101,115])=true:=by decide
 have ca:Hid (p.prov.length=0):=by show _=_;rw[hnil];rfl
 have HC:Hid (Calls Tryz.prog 58 #[.string ⟨t.toArray⟩,.string ⟨#[59,32]⟩] W3 fun e w'=>∃ A n c,e=.returned (.slice A n c)/\(Lib.split t semi).length=n/\n<=4001/\Rg.Row encT 1 w' A (Lib.split t semi)/\(∀ a,A=some a->W3.heap.size<=a.block)/\Below W3.heap.size W3 w'):=dP t semi W3 (Nat.le_trans HT.out (by decide)) (by decide) (by decide)
 obtain⟨E,hE⟩:=ex (partsR gvR semi 16 t)
 rw[hE] at hR
 unfold partsR at hE
 have ba:1<=(Lib.split t semi).length:=fO (by decide)
 have bb:∀ x∈Lib.split t semi,x.length<=1000:=fun x hx=>Nat.le_trans (bM semi _ t x hx) HT.out
 obtain⟨qs,bV⟩:=ex (Lib.split t semi)
 rw[bV] at hE bb ba HC
 have cb:=zh ba
 have HR:=zh hR
 have bc:=zh hE
 have cd:=zh bb
 clear hR hE bb ba bV hnil
 go_enter Tryz.func24,Tryz.ntmps24
 go_wp2_with fail
 refine HC.out.mono ?_
 rintro _ zc ⟨A,n,c,rfl,hn,cC,aT,bW,aL⟩
 have HN:=zh hn
 have bd:=zh aT
 have ce:=zh bW
 have ap:=zh aL
 clear hn aT bW aL HC cC
 clear c0 y0 c1 y1 c2 y2 c3 y3 c4 y4 c5 y5 f0 f1 k0 z0 k1 z1 k2 z2 k3 z3 k4 z4 k5 z5
 by_cases aN:n<=16
 case neg =>
  have HF:Hid (R=.error 4):=by show _=_;rw[<-HR.out,<-bc.out,if_neg (by rw[HN.out];exact aN)]
  have bE:decide (16<n)=true:=decide_eq_true (by omega)
  have bF:decide ((16:Int)<(n:Int))=true:=decide_eq_true (by omega)
  have af:=zh (HH.out zc ap.out).2.2
  obtain⟨⟨c0,y0⟩,⟨c1,y1⟩,⟨c2,y2⟩,⟨c3,y3⟩,⟨c4,y4⟩,c5,y5⟩:=au (HH.out zc ap.out).1
  obtain⟨⟨k0,z0⟩,⟨k1,bs⟩,⟨k2,z2⟩,⟨k3,z3⟩,⟨k4,z4⟩,k5,z5⟩:=au af.out
  clear aN
  go_wp2_with fail
  (try simp only[Exit.inBlock,Exit.then])
  refine bodyPost_ret (bq af.out p D C none dc cc 0 4 ?q1 ?q2) ?q3 ?_
  case q3=>rfl
  case q1=>rfl
  case q2=>rfl
  exact⟨aI (bC.out zc ap.out) (by have:=ac.out;have:=aG.out;omega) p D C none dc cc 0,by rw[HF.out];exact⟨by decide,_,_,_,_,_,_,_,rfl⟩⟩
 have cf:Hid (rdL gvR [] qs=E):=by show _=_;rw[<-bc.out,if_pos (by rw[HN.out];exact aN)]
 have be:=zh aN
 have bE:decide (16<n)=false:=decide_eq_false (by omega)
 have bF:decide ((16:Int)<(n:Int))=false:=decide_eq_false (by omega)
 clear aN bc
 have cg:Hid (zc.heap[b]?=some (.cells #[.string ⟨p.name.toArray⟩,.string ⟨p.ver.toArray⟩,.slice D p.deps.length dc,.slice C p.confl.length cc,.slice none 0 0,.float .f64 p.wt] 42 (0,0))):=by
  have h:=(HH.out zc ap.out).1
  simp only[pCells,ca.out] at h
  exact h
 have ch:=zh (HH.out zc ap.out).2.2
 have aj:Hid (W3.heap.size<=zc.heap.size):=ap.out.size
 go_wp2_with fail
 clear bE bF
 go_loopw [15] (fun i wr=>∃ (k:Nat) (v:Value) (acc:List Gv),k<=n/\i=.int .i64 k/\Hid (wr.heap[b]?=some (.cells #[.string ⟨p.name.toArray⟩,.string ⟨p.ver.toArray⟩,.slice D p.deps.length dc,.slice C p.confl.length cc,v,.float .f64 p.wt] 42 (0,0)))/\Hid (Rg.Own encG 2 wr zc.heap.size 79 v acc)/\Hid (Below w.heap.size w wr)/\Hid (But (some b) zc wr)/\Hid (acc.length=k)/\Hid (rdL gvR acc (qs.drop k)=E)) (fun i _=>n-(intOf i).toNat)
 case atStart=>exact⟨0,.slice none 0 0,[],Nat.zero_le _,rfl,cg,Rg.az _ _ _,bC.out zc ap.out,iS (Below.refl _ _),rfl,by show rdL _ _ (qs.drop 0)=E;rw[List.drop_zero,cf.out]⟩
 case round =>
  obtain⟨k,v,acc,hk,rfl,ab,HO,am,ae,HA,HE⟩:=hrel
  have aO:Hid (wr.heap[b2]?=some (.cells zeroC 42 (0,0))):=(ae.out.2 b2 (by have:=ac.out;have:=aj.out;omega) (by have:=ac.out;simp;omega)).trans ch.out
  by_cases bG:k<n
  ·have aH:=zh bG
   have bf:k<qs.length:=by rw[HN.out];exact bG
   have hq:=fp bd.out ae.out (fun _ a ha e=>by have h1:=ce.out a ha;have h2:=ac.out;have h3:=Option.some.inj e;omega)
   obtain⟨ad,rfl,bX,q0⟩:=bU hq k bf
   have aU:=cd.out _ (List.getElem_mem bf)
   have he:=HE.out
   rw[List.drop_eq_getElem_cons bf] at he
   obtain⟨x,hx⟩:=ex (qs[k])
   rw[hx] at aU he q0
   have bH:Hid (acc.length+1<=1000000):=by have h1:=HA.out;have h3:=be.out;show _<=_;omega
   have bI:Hid (Calls Tryz.prog 58 #[.string ⟨x.toArray⟩,.string ⟨#[32,61,32]⟩] wr fun e w'=>∃ A n c,e=.returned (.slice A n c)/\(Lib.split x isT).length=n/\n<=4001/\Rg.Row encT 1 w' A (Lib.split x isT)/\(∀ a,A=some a->wr.heap.size<=a.block)/\Below wr.heap.size wr w'):=dP x isT wr (Nat.le_trans aU (by decide)) (by decide) (by decide)
   obtain⟨⟨r0,a4⟩,a5,a7⟩:=aa5 x
   obtain⟨X,hX⟩:=ex (gvR x)
   have aP:=hX
   unfold gvR at aP
   obtain⟨⟨nm,vr,fl⟩,bu⟩:∃ y,Lib.cut x isT=y:=⟨_,rfl⟩
   rw[bu] at a4 a5 a7 aP
   dsimp only at a4 a5 a7 aP
   have ci:nm.length<=1000:=Nat.le_trans (by have h9:(Lib.cut x isT).1.length<=x.length:=tR x;rw[bu] at h9;exact h9) aU
   have HX:=zh hX
   have cj:=zh aP
   have cl:=zh a5
   have cn:=zh a7
   have cG:=zh aU
   have co:=zh (fun u (h:Below wr.heap.size wr u)=>(World.cell?_of_block (a:=ad.add k) (h.block _ (by simpa [add_block] using bX))).trans q0)
   clear hx hX aP hq a5 a7 bu bX
   go_wp2_with fail
   refine bI.out.mono ?_
   rintro _ z3 ⟨A3,n3,cM,rfl,bv,_,bY,_,aF⟩
   have bJ:=zh aF
   have cp:=zh bv
   obtain⟨a8,rfl,bw,q3⟩:=bU bY 0 (by rw[a4];simp)
   have q4:z3.cell? (a8.add 0)=some (.string ⟨nm.toArray⟩):=by rw[q3];simp only[a4,List.getElem_cons_zero]
   have q5:z3.cell? a8=some (.string ⟨nm.toArray⟩):=by rw[Addr.add_zero'] at q4;exact q4
   have cH:0<n3:=aa6 bv
   clear q3 bY bv aF bI q0
   obtain⟨G1,bx⟩:=ex (z3.alloc (.cells #[.string ⟨nm.toArray⟩,.string ⟨#[]⟩] 79))
   obtain⟨Gw,bz⟩:=ex (G1.setCell ⟨z3.heap.size,1,none⟩ (.string ⟨#[]⟩))
   have aQ:G1.heap[z3.heap.size]?=some (.cells #[.string ⟨nm.toArray⟩,.string ⟨#[]⟩] 79 (0,0)):=by rw[<-bx];exact heap_alloc_new z3 _
   have aV:Hid (Gw.heap[z3.heap.size]?=some (.cells #[.string ⟨nm.toArray⟩,.string ⟨#[]⟩] 79 (0,0))):=by rw[<-bz];exact (aA aQ).trans rfl
   have cr:=ay aQ 1
   have cs:G1.cell? ⟨z3.heap.size,0,none⟩=some (.string ⟨nm.toArray⟩):=by simp[World.cell?,aQ]
   have ct:G1.cell? ⟨z3.heap.size,1,none⟩=some (.string ⟨#[]⟩):=by simp[World.cell?,aQ]
   have bK:Hid (Below z3.heap.size z3 Gw):=by rw[<-bz];exact (ag bx).setCell (p:=⟨z3.heap.size,1,none⟩) (Nat.le_refl _) _
   have ak:Hid (Below wr.heap.size wr Gw):=bt bJ.out bK.out
   have p0:Gw.cell? ⟨z3.heap.size,0,none⟩=some (.string ⟨nm.toArray⟩):=by simp[World.cell?,aV.out]
   have p1:Gw.cell? ⟨z3.heap.size,1,none⟩=some (.string ⟨#[]⟩):=by simp[World.cell?,aV.out]
   have bL:=zh (ee nm Gw (Nat.le_trans ci (by decide)))
   go_wp2_with fail
   clear bx bz
   refine bL.out.mono ?_
   rintro _ Gw ⟨rfl,rfl⟩
   obtain⟨bn,bZ⟩:=ex (nameB nm)
   rw[bZ]
   have aR:=cj.out
   rw[bZ] at aR
   clear bL
   cases bn
   ·have bg:X=.error 3:=aR.symm
    subst bg
    have al:Hid (E=.error 3):=by show _=_;rw[<-he];exact cm HX.out
    have HF:Hid (R=.error 3):=by show _=_;rw[<-HR.out,al.out]
    clear he aR
    obtain⟨A5,d5,rfl,-,-⟩:=iq HO.out
    have af:=zh (a6 aO.out ak.out (block_lt aO.out))
    obtain⟨⟨c0,y0⟩,⟨c1,y1⟩,⟨c2,y2⟩,⟨c3,y3⟩,⟨c4,y4⟩,c5,y5⟩:=au (a6 ab.out ak.out (block_lt ab.out))
    obtain⟨⟨k0,z0⟩,⟨k1,bs⟩,⟨k2,z2⟩,⟨k3,z3⟩,⟨k4,z4⟩,k5,z5⟩:=au af.out
    go_wp2_with fail
    (try simp only[Exit.inBlock,Exit.then])
    refine bodyPost_ret (bq af.out { p with prov:=acc } D C A5 dc cc d5 3 ?q1 ?q2) ?q3 ?_
    case q3=>rfl
    case q1=>rfl
    case q2=>rfl
    exact⟨aI (am.out.trans ((ak.out).mono am.out.size)) (by have:=ac.out;have:=aG.out;omega) { p with prov:=acc } D C A5 dc cc d5,by rw[HF.out];exact⟨(by decide),_,_,_,_,_,_,_,rfl⟩⟩
   have bh:Hid ((if fl=true then (if Vm.check vr=0 then .ok ⟨nm,canonOf vr⟩ else .error (Vm.check vr)) else .ok ⟨nm,[]⟩:Except Int Gv)=X):=aR
   clear aR
   have aW:fl=decide (1<n3):=by rw[cl.out,cp.out]
   cases fl
   ·obtain rfl:X=.ok ⟨nm,[]⟩:=bh.out.symm
    have aX:decide (1<n3)=false:=aW.symm
    have bN:decide ((1:Int)<(n3:Int))=false:=decide_eq_false (by have:=of_decide_eq_false aX;omega)
    clear aW
    have al:Hid (rdL gvR (acc++[(⟨nm,[]⟩:Gv)]) (qs.drop (k+1))=E):=by show _=_;rw[<-he];exact (eh HX.out).symm
    have aa:Hid (Below wr.heap.size wr (Gw.alloc (.cells #[.string ⟨((⟨nm,[]⟩:Gv):Gv).name.toArray⟩,.string ⟨((⟨nm,[]⟩:Gv):Gv).ver.toArray⟩] 79))):=ak.out.alloc ak.out.size _
    obtain⟨-,-,-,-,⟨c4,-⟩,-⟩:=au (a6 ab.out ak.out (block_lt ab.out))
    go_wp2_with (at_builtin;refine Rg.aC sliceRG rfl (.tmp 148) (.tmp 150) rfl zc.heap.size v acc [(⟨nm,[]⟩:Gv)] rfl (Rg.own_below HO.out aa.out) _ _ rfl (Rg.av Gw _ [(⟨nm,[]⟩:Gv)] _ (by rfl)) (Nat.zero_lt_succ _) bH.out ?b2 ?_)
    case b2=>have:=ae.out.1;have:=ak.out.size;simp;omega
    intro v5 W5 aD aE bA
    obtain⟨A5,n5,k5,rfl⟩:=fN aD
    have aS:=zh aD
    have aq:=zh (Rg.ao (Rg.own_below HO.out aa.out) (Nat.le_trans ae.out.1 aa.out.size) aE)
    have ar:=zh (dV (a6 ab.out aa.out (block_lt ab.out)) aE (gB (Rg.own_below HO.out aa.out) (by have:=ac.out;have:=aj.out;omega)))
    have ai:Hid (Below w.heap.size w W5):=(bt am.out aa.out).trans (aq.out.mono (Nat.le_trans HB.out.size aj.out))
    obtain⟨-,-,-,-,⟨x4,cD⟩,-⟩:=au ar.out
    obtain⟨W6,an⟩:=ex (W5.setCell ⟨b,4,none⟩ (.slice A5 n5 k5))
    have bi:Hid (W6.heap[b]?=some (.cells #[.string ⟨p.name.toArray⟩,.string ⟨p.ver.toArray⟩,.slice D p.deps.length dc,.slice C p.confl.length cc,.slice A5 n5 k5,.float .f64 p.wt] 42 (0,0))):=by rw[<-an];exact (aA ar.out).trans rfl
    have bj:Hid (Rg.Own encG 2 W6 zc.heap.size 79 (.slice A5 n5 k5) (acc++[(⟨nm,[]⟩:Gv)])):=by rw[<-an];exact jz aS.out (by have:=ac.out;have:=aj.out;omega)
    have aw:Hid (Below w.heap.size w W6):=by rw[<-an];exact ai.out.setCell (p:=⟨b,4,none⟩) (Nat.le_of_eq aG.out) _
    have ax:Hid (But (some b) zc W6):=by rw[<-an];exact fx (gC ae.out ((aa.out.mono ae.out.1).trans aq.out))
    clear aD aE bA aS aq ar ai HO ab am ae he
    have bk:=be.out
    have bl:=aH.out
    go_wp2_with fail
    go_roundw
    case rel=>exact⟨k+1,.slice A5 n5 k5,acc++[(⟨nm,[]⟩:Gv)],(by have:=aH.out;omega),by go_num,bi,bj,aw,ax,by show (acc++[_]).length=_;rw[List.length_append,HA.out];rfl,al⟩
    case measure=>have:=aH.out;simp[intOf];omega
   ·obtain⟨cN,b0⟩:=cn.out rfl
    obtain⟨vd,bB⟩:=ex (x.drop (nm.length+3))
    rw[bB] at b0
    subst b0
    have aX:decide (1<n3)=true:=aW.symm
    have bN:decide ((1:Int)<(n3:Int))=true:=decide_eq_true (by have:=of_decide_eq_true aX;omega)
    clear aW
    have w3:IntKind.i64.wrap ((nm.length:Int)+3)=(nm.length:Int)+3:=IntWalk.i64_in _ (by omega)
    have w4:(0:Int)<=(nm.length:Int)+3:=by omega
    have w5:((nm.length:Int)+3).toNat=nm.length+3:=by omega
    have w6:(nm.length:Int)+3<=(x.length:Int):=by omega
    have bm:=cT vr
    obtain⟨cv,b3⟩:=ex (canonOf vr)
    obtain⟨ck,b4⟩:=ex (Vm.check vr)
    have bo:=bh.out
    rw[b3,b4] at bm bo
    have cu:=zh bm
    have bO:=zh bo
    have cw:=zh bB
    have bP:Hid (∀ u,Below Gw.heap.size Gw u->u.cell? (ad.add k)=some (.string ⟨x.toArray⟩)/\u.cell? a8=some (.string ⟨nm.toArray⟩)):=fun u h=>⟨co.out u (bt ak.out h),(World.cell?_of_block ((bt bK.out h).block _ (by simpa using bw))).trans q5⟩
    have bQ:Hid (Below Gw.heap.size Gw Gw.drew):=(Below.refl _ _).drew
    have cx:Hid (∀ u,Below Gw.heap.size Gw u->u.heap[z3.heap.size]?=some (.cells #[.string ⟨nm.toArray⟩,.string ⟨#[]⟩] 79 (0,0))):=fun u h=>(h.block _ (block_lt aV.out)).trans aV.out
    clear bm b3 b4 bo bh bB p0 p1 q5 q4 aQ cr cs ct
    go_wp2_with fail
    clear aX bN
    go_region_held3 (fun u=>u.cell? (ad.add k)=some (.string ⟨x.toArray⟩)/\u.cell? a8=some (.string ⟨nm.toArray⟩))
     (first
      | with_reducible exact bP.out _ bQ.out
      | with_reducible exact bP.out _ bp.out)
     ((go_at_call 57;(try rw[extract_from,cw.out]);refine (cu.out _).mono ?_;rintro _ z5 ⟨rfl,b5⟩;have bp:Hid (Below Gw.heap.size Gw z5):=bt bQ.out b5;clear b5))
    have aY:Hid (Below wr.heap.size wr z5):=bt ak.out bp.out
    by_cases aJ:ck=0
    ·subst aJ
     obtain rfl:X=.ok ⟨nm,cv⟩:=bO.out.symm
     have aZ:=cx.out z5 bp.out
     obtain⟨Zw,b6⟩:=ex (z5.setCell ⟨z3.heap.size,1,none⟩ (.string ⟨cv.toArray⟩))
     have cI:=ay aZ 1
     have br:Zw.heap[z3.heap.size]?=some (.cells #[.string ⟨nm.toArray⟩,.string ⟨cv.toArray⟩] 79 (0,0)):=by rw[<-b6];exact (aA aZ).trans rfl
     have cJ:z5.cell? ⟨z3.heap.size,1,none⟩=some (.string ⟨#[]⟩):=by simp[World.cell?,aZ]
     have p0:Zw.cell? ⟨z3.heap.size,0,none⟩=some (.string ⟨nm.toArray⟩):=by simp[World.cell?,br]
     have p1:Zw.cell? ⟨z3.heap.size,1,none⟩=some (.string ⟨cv.toArray⟩):=by simp[World.cell?,br]
     have a0:Hid (Below wr.heap.size wr Zw):=by rw[<-b6];exact aY.out.setCell (p:=⟨z3.heap.size,1,none⟩) bJ.out.size _
     clear aZ br
     have al:Hid (rdL gvR (acc++[(⟨nm,cv⟩:Gv)]) (qs.drop (k+1))=E):=by show _=_;rw[<-he];exact (eh HX.out).symm
     have aa:Hid (Below wr.heap.size wr (Zw.alloc (.cells #[.string ⟨((⟨nm,cv⟩:Gv):Gv).name.toArray⟩,.string ⟨((⟨nm,cv⟩:Gv):Gv).ver.toArray⟩] 79))):=a0.out.alloc a0.out.size _
     obtain⟨-,-,-,-,⟨c4,-⟩,-⟩:=au (a6 ab.out a0.out (block_lt ab.out))
     go_wp2_with (at_builtin;refine Rg.aC sliceRG rfl (.tmp 148) (.tmp 150) rfl zc.heap.size v acc [(⟨nm,cv⟩:Gv)] rfl (Rg.own_below HO.out aa.out) _ _ rfl (Rg.av Zw _ [(⟨nm,cv⟩:Gv)] _ (by rfl)) (Nat.zero_lt_succ _) bH.out ?b2 ?_)
     case b2=>have:=ae.out.1;have:=a0.out.size;simp;omega
     intro v5 W5 aD aE bA
     obtain⟨A5,n5,k5,rfl⟩:=fN aD
     have aS:=zh aD
     have aq:=zh (Rg.ao (Rg.own_below HO.out aa.out) (Nat.le_trans ae.out.1 aa.out.size) aE)
     have ar:=zh (dV (a6 ab.out aa.out (block_lt ab.out)) aE (gB (Rg.own_below HO.out aa.out) (by have:=ac.out;have:=aj.out;omega)))
     have ai:Hid (Below w.heap.size w W5):=(bt am.out aa.out).trans (aq.out.mono (Nat.le_trans HB.out.size aj.out))
     obtain⟨-,-,-,-,⟨x4,cD⟩,-⟩:=au ar.out
     obtain⟨W6,an⟩:=ex (W5.setCell ⟨b,4,none⟩ (.slice A5 n5 k5))
     have bi:Hid (W6.heap[b]?=some (.cells #[.string ⟨p.name.toArray⟩,.string ⟨p.ver.toArray⟩,.slice D p.deps.length dc,.slice C p.confl.length cc,.slice A5 n5 k5,.float .f64 p.wt] 42 (0,0))):=by rw[<-an];exact (aA ar.out).trans rfl
     have bj:Hid (Rg.Own encG 2 W6 zc.heap.size 79 (.slice A5 n5 k5) (acc++[(⟨nm,cv⟩:Gv)])):=by rw[<-an];exact jz aS.out (by have:=ac.out;have:=aj.out;omega)
     have aw:Hid (Below w.heap.size w W6):=by rw[<-an];exact ai.out.setCell (p:=⟨b,4,none⟩) (Nat.le_of_eq aG.out) _
     have ax:Hid (But (some b) zc W6):=by rw[<-an];exact fx (gC ae.out ((aa.out.mono ae.out.1).trans aq.out))
     clear aD aE bA aS aq ar ai HO ab am ae he
     have bk:=be.out
     have bl:=aH.out
     go_wp2_with fail
     go_roundw
     case rel=>exact⟨k+1,.slice A5 n5 k5,acc++[(⟨nm,cv⟩:Gv)],(by have:=aH.out;omega),by go_num,bi,bj,aw,ax,by show (acc++[_]).length=_;rw[List.length_append,HA.out];rfl,al⟩
     case measure=>have:=aH.out;simp[intOf];omega
    ·have bg:X=.error ck:=by rw[<-bO.out,if_pos trivial,if_neg aJ]
     subst bg
     have al:Hid (E=.error ck):=by show _=_;rw[<-he];exact cm HX.out
     have HF:Hid (R=.error ck):=by show _=_;rw[<-HR.out,al.out]
     have cK:(ck != 0)=true:=by simpa using aJ
     have cL:(ck==0)=false:=by simpa using aJ
     have cy:=zh aJ
     clear he aJ
     obtain⟨A5,d5,rfl,-,-⟩:=iq HO.out
     have af:=zh (a6 aO.out aY.out (block_lt aO.out))
     obtain⟨⟨c0,y0⟩,⟨c1,y1⟩,⟨c2,y2⟩,⟨c3,y3⟩,⟨c4,y4⟩,c5,y5⟩:=au (a6 ab.out aY.out (block_lt ab.out))
     obtain⟨⟨k0,z0⟩,⟨k1,bs⟩,⟨k2,z2⟩,⟨k3,z3⟩,⟨k4,z4⟩,k5,z5⟩:=au af.out
     go_wp2_with fail
     (try simp only[Exit.inBlock,Exit.then])
     refine bodyPost_ret (bq af.out { p with prov:=acc } D C A5 dc cc d5 ck ?q1 ?q2) ?q3 ?_
     case q3=>rfl
     case q1=>rfl
     case q2=>rfl
     exact⟨aI (am.out.trans ((aY.out).mono am.out.size)) (by have:=ac.out;have:=aG.out;omega) { p with prov:=acc } D C A5 dc cc d5,by rw[HF.out];exact⟨cy.out,_,_,_,_,_,_,_,rfl⟩⟩
  ·obtain rfl:k=n:=by omega
   have al:Hid (E=.ok acc):=by show _=_;rw[<-HE.out,List.drop_eq_nil_of_le (by rw[HN.out];exact Nat.le_refl _)];rfl
   have HF:Hid (R=.ok { p with prov:=acc }):=by show _=_;rw[<-HR.out,al.out]
   obtain⟨A5,d5,rfl,aK,b7⟩:=iq HO.out
   have cz:=zh aK
   have bR:Hid (AFr zc.heap.size A5):=b7
   clear aK b7
   have af:=aO
   obtain⟨⟨c0,y0⟩,⟨c1,y1⟩,⟨c2,y2⟩,⟨c3,y3⟩,⟨c4,y4⟩,c5,y5⟩:=au ab.out
   obtain⟨⟨k0,z0⟩,⟨k1,bs⟩,⟨k2,z2⟩,⟨k3,z3⟩,⟨k4,z4⟩,k5,z5⟩:=au af.out
   go_wp2_with fail
   have aB:Below w.heap.size w (stP wr b2 { p with prov:=acc } D C A5 dc cc d5):=aI am.out (by have:=ac.out;have:=aG.out;omega) { p with prov:=acc } D C A5 dc cc d5
   have hd:=fp cz.out (cE wr b2 { p with prov:=acc } D C A5 dc cc d5) (fM bR.out (by have:=ac.out;have:=aj.out;omega))
   have hle:B<=zc.heap.size:=Nat.le_trans b9.out (Nat.le_trans HB.out.size aj.out)
   have aK:=cq b8.out aB
   have cA:=zh (show Pg.FillRet B w R (.returned (.tuple #[.agg (pCells { p with prov:=acc } D C A5 dc cc d5),.int .i64 0])) (stP wr b2 { p with prov:=acc } D C A5 dc cc d5) from ⟨aB,by rw[HF.out];exact⟨D,dc,C,cc,A5,d5,rfl,⟨aK.1,aK.2.1,⟨hd,fun a ha=>Nat.le_trans hle (bR.out a ha)⟩⟩,bD.out.1,fun (e:acc=[])=>by exfalso;have h1:=cb.out;have h2:=HN.out;have h3:=HA.out;rw[e,List.length_nil] at h3;omega⟩⟩)
   clear aB hd hle aK
   (try simp only[Exit.inBlock,Exit.then])
   refine bodyPost_ret (bq af.out { p with prov:=acc } D C A5 dc cc d5 0 ?q1 ?q2) ?q3 ?_
   case q3=>rfl
   case q1=>rfl
   case q2=>rfl
   exact cA.out
theorem vP (w:World) :
  Calls Tryz.prog 22 #[] w fun e w'=>e=.returned (.slice (some ⟨w.heap.size,0,none⟩) 6 6)/\Rg.Row encT 1 w' (some ⟨w.heap.size,0,none⟩) keys6/\Below w.heap.size w w':=by
 obtain⟨W2,ab⟩:=ex (w.alloc (.cells #[.string ⟨#[80,97,99,107,97,103,101]⟩,.string ⟨#[86,101,114,115,105,111,110]⟩,.string ⟨#[68,101,112,101,110,100,115]⟩,.string ⟨#[67,111,110,102,108,105,99,116,115]⟩,.string ⟨#[80,114,111,118,105,100,101,115]⟩,.string ⟨#[87,101,105,103,104,116]⟩] 9))
 have HB:Hid (Below w.heap.size w W2):=ag ab
 have aa:Rg.Row encT 1 W2 (some ⟨w.heap.size,0,none⟩) keys6:=by rw[<-ab];exact Rg.mh fitsT w 9 keys6 _ rfl rfl
 have HK:=zh aa
 clear aa
 go_enter Tryz.func22,Tryz.ntmps22
 go_wp2_with fail
 go_ret
 exact⟨rfl,HK.out,HB.out⟩
theorem vQ (key t:List UInt8)(i:Int)(p:Pk)(D C G:Option Addr)(dc cc gc B:Nat)(w:World)(hw:MaxOk w)(hp:PRows B w p D C G)(hB:B<=w.heap.size)(ht:t.length<=1000)(h0:Nil0 p D dc G gc)(hkey:key=kDep)(hnil:p.deps=[]) :
  Calls Tryz.prog 24 #[.agg #[.string ⟨p.name.toArray⟩,.string ⟨p.ver.toArray⟩,.slice D p.deps.length dc,.slice C p.confl.length cc,.slice G p.prov.length gc,.float .f64 p.wt],.agg #[.string ⟨key.toArray⟩,.string ⟨t.toArray⟩,.int .i64 i]] w (FillRet B w (takeR p key t)):=by
 obtain⟨R,hR⟩:=ex (takeR p key t)
 rw[hR]
 unfold takeR at hR
 obtain⟨W1,aG⟩:=ex (w.alloc (.cells #[.string ⟨p.name.toArray⟩,.string ⟨p.ver.toArray⟩,.slice D p.deps.length dc,.slice C p.confl.length cc,.slice G p.prov.length gc,.float .f64 p.wt] 42))
 obtain⟨W2,aH⟩:=ex (W1.alloc (.cells #[.string ⟨key.toArray⟩,.string ⟨t.toArray⟩,.int .i64 i] 25))
 obtain⟨W3,aJ⟩:=ex (W2.alloc (.cells zeroC 42))
 have an:Below w.heap.size w W1:=ag aG
 have aM:Below W1.heap.size W1 W2:=ag aH
 have aa:Below W2.heap.size W2 W3:=ag aJ
 have ap:Below W1.heap.size W1 W3:=bt aM aa
 have HB:Hid (Below w.heap.size w W3):=bt an ap
 have aY:Hid (∀ u,Below W3.heap.size W3 u->Below w.heap.size w u):=fun u h=>bt HB.out h
 obtain⟨b,hb⟩:=ex w.heap.size
 obtain⟨b1,a8⟩:=ex W1.heap.size
 obtain⟨b2,a9⟩:=ex W2.heap.size
 have HH:Hid (∀ u,Below W3.heap.size W3 u->u.heap[b]?=some (.cells (pCells p D C G dc cc gc) 42 (0,0))/\u.heap[b1]?=some (.cells #[.string ⟨key.toArray⟩,.string ⟨t.toArray⟩,.int .i64 i] 25 (0,0))/\u.heap[b2]?=some (.cells zeroC 42 (0,0))):=fun u h=>by
  rw[<-hb,<-a8,<-a9]
  have h2:=bt aa h
  have h1:=bt aM h2
  exact⟨(h1.block _ (by rw[<-aG];simp)).trans (by rw[<-aG];exact heap_alloc_new w _),(h2.block _ (by rw[<-aH];simp)).trans (by rw[<-aH];exact heap_alloc_new W1 _),(h.block _ (by rw[<-aJ];simp)).trans (by rw[<-aJ];exact heap_alloc_new W2 _)⟩
 have ab:Hid (b<b1/\b1<b2/\b2<W3.heap.size/\b<=b2):=by
  show _/\_
  rw[<-hb,<-a8,<-a9,<-aJ,<-aH,<-aG]
  refine⟨by simp,by simp,by simp,by simp;omega⟩
 have HM:Hid (MaxOk W3):=ah hw HB.out
 have HT:=zh ht
 have bg:=zh hw
 have aD:=zh hb
 have bh:=zh hp
 have bi:=zh hB
 have aZ:=zh h0
 obtain⟨⟨c0,y0⟩,⟨c1,y1⟩,⟨c2,y2⟩,⟨c3,y3⟩,⟨c4,y4⟩,c5,y5⟩:=au (HH.out W3 (Below.refl _ _)).1
 obtain⟨f0,f1⟩:=eL (HH.out W3 (Below.refl _ _)).2.1
 obtain⟨⟨k0,z0⟩,⟨k1,z1⟩,⟨k2,z2⟩,⟨k3,z3⟩,⟨k4,z4⟩,k5,z5⟩:=au (HH.out W3 (Below.refl _ _)).2.2
 clear an aM aa ap hp hw ht h0
 obtain⟨hD,bD⟩:=aZ.out.1 hnil
 subst hD bD
 subst hkey
 rw[if_neg (by decide)] at hR
 have d0:(kDep==[80,97,99,107,97,103,101])=false:=by decide
 rw[if_neg (by decide)] at hR
 have d1:(kDep==[86,101,114,115,105,111,110])=false:=by decide
 rw[if_pos rfl] at hR
 have d2:(kDep==[68,101,112,101,110,100,115])=true:=by decide
 have bj:Hid (p.deps.length=0):=by show _=_;rw[hnil];rfl
 have HC:Hid (Calls Tryz.prog 58 #[.string ⟨t.toArray⟩,.string ⟨#[59,32]⟩] W3 fun e w'=>∃ A n c,e=.returned (.slice A n c)/\(Lib.split t semi).length=n/\n<=4001/\Rg.Row encT 1 w' A (Lib.split t semi)/\(∀ a,A=some a->W3.heap.size<=a.block)/\Below W3.heap.size W3 w'):=dP t semi W3 (Nat.le_trans HT.out (by decide)) (by decide) (by decide)
 obtain⟨E,hE⟩:=ex (partsR depR semi 16 t)
 rw[hE] at hR
 unfold partsR at hE
 have aN:1<=(Lib.split t semi).length:=fO (by decide)
 have aO:∀ x∈Lib.split t semi,x.length<=1000:=fun x hx=>Nat.le_trans (bM semi _ t x hx) HT.out
 obtain⟨qs,ba⟩:=ex (Lib.split t semi)
 rw[ba] at hE aO aN HC
 have bk:=zh aN
 have HR:=zh hR
 have aP:=zh hE
 have bl:=zh aO
 clear hR hE aO aN ba hnil
 go_enter Tryz.func24,Tryz.ntmps24
 go_wp2_with fail
 refine HC.out.mono ?_
 rintro _ zc ⟨A,n,c,rfl,hn,bE,aB,bb,an⟩
 have HN:=zh hn
 have aQ:=zh aB
 have bm:=zh bb
 have ak:=zh an
 clear hn aB bb an HC bE
 clear c0 y0 c1 y1 c2 y2 c3 y3 c4 y4 c5 y5 f0 f1 k0 z0 k1 z1 k2 z2 k3 z3 k4 z4 k5 z5
 by_cases aq:n<=16
 case neg =>
  have HF:Hid (R=.error 4):=by show _=_;rw[<-HR.out,<-aP.out,if_neg (by rw[HN.out];exact aq)]
  have a0:decide (16<n)=true:=decide_eq_true (by omega)
  have a1:decide ((16:Int)<(n:Int))=true:=decide_eq_true (by omega)
  have ac:=zh (HH.out zc ak.out).2.2
  obtain⟨⟨c0,y0⟩,⟨c1,y1⟩,⟨c2,y2⟩,⟨c3,y3⟩,⟨c4,y4⟩,c5,y5⟩:=au (HH.out zc ak.out).1
  obtain⟨⟨k0,z0⟩,⟨k1,bc⟩,⟨k2,z2⟩,⟨k3,z3⟩,⟨k4,z4⟩,k5,z5⟩:=au ac.out
  clear aq
  go_wp2_with fail
  (try simp only[Exit.inBlock,Exit.then])
  refine bodyPost_ret (bq ac.out p none C G 0 cc gc 4 ?q1 ?q2) ?q3 ?_
  case q3=>rfl
  case q1=>rfl
  case q2=>rfl
  refine⟨aI (aY.out zc ak.out) (by have:=ab.out;have:=aD.out;omega) _ _ _ _ _ _ _,?_⟩
  rw[HF.out]
  exact⟨by decide,_,_,_,_,_,_,_,rfl⟩
 have bn:Hid (rdL depR [] qs=E):=by show _=_;rw[<-aP.out,if_pos (by rw[HN.out];exact aq)]
 have a2:=zh aq
 have a0:decide (16<n)=false:=decide_eq_false (by omega)
 have a1:decide ((16:Int)<(n:Int))=false:=decide_eq_false (by omega)
 clear aq aP
 have bo:Hid (zc.heap[b]?=some (.cells #[.string ⟨p.name.toArray⟩,.string ⟨p.ver.toArray⟩,.slice none 0 0,.slice C p.confl.length cc,.slice G p.prov.length gc,.float .f64 p.wt] 42 (0,0))):=by
  have h:=(HH.out zc ak.out).1
  simp only[pCells,bj.out] at h
  exact h
 have bp:=zh (HH.out zc ak.out).2.2
 have am:Hid (W3.heap.size<=zc.heap.size):=ak.out.size
 go_wp2_with fail
 clear a0 a1
 go_loopw [9] (fun i wr=>∃ (k:Nat) (v:Value) (acc:List (List Atm)) (ds:List Desc),k<=n/\i=.int .i64 k/\Hid (wr.heap[b]?=some (.cells #[.string ⟨p.name.toArray⟩,.string ⟨p.ver.toArray⟩,v,.slice C p.confl.length cc,.slice G p.prov.length gc,.float .f64 p.wt] 42 (0,0)))/\Hid (DOwnF wr zc.heap.size 39 v ds acc)/\Hid (Below w.heap.size w wr)/\Hid (But (some b) zc wr)/\Hid (acc.length=k)/\Hid (rdL depR acc (qs.drop k)=E)) (fun i _=>n-(intOf i).toNat)
 case atStart=>exact⟨0,.slice none 0 0,[],[],Nat.zero_le _,rfl,bo,ny _ _ _,aY.out zc ak.out,iS (Below.refl _ _),rfl,by show rdL _ _ (qs.drop 0)=E;rw[List.drop_zero,bn.out]⟩
 case round =>
  obtain⟨k,v,acc,ds,hk,rfl,ai,HO,aC,aj,HA,HE⟩:=hrel
  have aR:Hid (wr.heap[b2]?=some (.cells zeroC 42 (0,0))):=(aj.out.2 b2 (by have:=ab.out;have:=am.out;omega) (by have:=ab.out;simp;omega)).trans bp.out
  by_cases a3:k<n
  ·have aS:=zh a3
   have aT:k<qs.length:=by rw[HN.out];exact a3
   have hq:=fp aQ.out aj.out (fun _ a ha e=>by have h1:=bm.out a ha;have h2:=ab.out;have h3:=Option.some.inj e;omega)
   obtain⟨ad,rfl,_,q0⟩:=bU hq k aT
   have aE:=bl.out _ (List.getElem_mem aT)
   have he:=HE.out
   rw[List.drop_eq_getElem_cons aT] at he
   obtain⟨x,hx⟩:=ex (qs[k])
   rw[hx] at aE he q0
   have br:Hid (ds.length+1<=1000000):=by have h1:=HA.out;have h2:=HO.out.2.1.1;have h3:=a2.out;show _<=_;omega
   have ar:Hid (Calls Tryz.prog 59 #[.string ⟨x.toArray⟩,.string ⟨#[32,111,114,32]⟩,.int .i64 8] wr (Pg.ListRet ARow wr (depR x))):=kB x orT 8 wr (ah bg.out aC.out) aE (by decide) (by decide) (by decide)
   obtain⟨X,hX⟩:=ex (depR x)
   rw[hX] at ar
   cases X with
   | error y =>
    have ax:Hid (E=.error y):=by show _=_;rw[<-he];exact cm hX
    have HF:Hid (R=.error y):=by show _=_;rw[<-HR.out,ax.out]
    clear he hx aE hX hq
    go_wp2_with fail
    refine ar.out.mono ?_
    rintro r z3 ⟨aa,rfl,hy⟩
    have af:=zh aa
    have dy:decide (y=0)=false:=decide_eq_false hy
    clear aa ar q0
    obtain⟨A5,d5,rfl,-,-⟩:=down_row HO.out
    have ac:=zh (a6 aR.out af.out (block_lt aR.out))
    obtain⟨⟨c0,y0⟩,⟨c1,y1⟩,⟨c2,y2⟩,⟨c3,y3⟩,⟨c4,y4⟩,c5,y5⟩:=au (a6 ai.out af.out (block_lt ai.out))
    obtain⟨⟨k0,z0⟩,⟨k1,bc⟩,⟨k2,z2⟩,⟨k3,z3⟩,⟨k4,z4⟩,k5,z5⟩:=au ac.out
    go_wp2_with fail
    (try simp only[Exit.inBlock,Exit.then])
    refine bodyPost_ret (bq ac.out { p with deps:=acc } A5 C G d5 cc gc y ?q1 ?q2) ?q3 ?_
    case q3=>rfl
    case q1=>rfl
    case q2=>rfl
    exact⟨aI (bt aC.out af.out) (by have:=ab.out;have:=aD.out;omega) { p with deps:=acc } A5 C G d5 cc gc,by rw[HF.out];exact⟨hy,_,_,_,_,_,_,_,rfl⟩⟩
   | ok l =>
    have ax:Hid (rdL depR (acc++[l]) (qs.drop (k+1))=E):=by show _=_;rw[<-he];exact (eh hX).symm
    clear he hx aE hX hq
    go_wp2_with fail
    refine ar.out.mono ?_
    rintro r z3 ⟨aa,C3,m,d3,rfl,hm,hr,bd⟩
    have af:=zh aa
    have bs:=zh hm
    have bu:=zh hr
    have bv:Hid (∀ a,C3=some a->zc.heap.size<=a.block):=fun a ha=>Nat.le_trans aj.out.1 (bd a ha)
    clear aa hm hr bd ar q0
    have ae:Hid (Below wr.heap.size wr (z3.alloc (.cells #[.slice C3 m d3] 39))):=af.out.alloc af.out.size _
    obtain⟨-,-,⟨c2,-⟩,-,-,-⟩:=au (a6 ai.out af.out (block_lt ai.out))
    go_wp2_with (at_builtin;refine Pg.cJ sliceRD qP pQ rfl (.tmp 76) (.tmp 78) rfl zc.heap.size v ds [(C3,m,d3)] rfl (a7 HO.out ae.out).1 (a7 HO.out ae.out).2.2.2 _ _ rfl (Rg.av z3 _ [(C3,m,d3)] _ (by rfl)) (Nat.zero_lt_succ _) br.out ?b2 ?_)
    case b2=>have:=aj.out.1;have:=af.out.size;simp;omega
    intro v5 W5 aX be aK bF
    obtain⟨A5,n5,k5,rfl⟩:=fN aX
    have a4:=zh (nz (a7 HO.out ae.out) (aw bu.out ((Below.refl _ _).alloc (Nat.le_refl _) _)) bs.out bv.out aX be aK)
    have aU:=zh (Rg.ao (a7 HO.out ae.out).1 (Nat.le_trans aj.out.1 ae.out.size) aK)
    have aF:=zh (dV (a6 ai.out ae.out (block_lt ai.out)) aK (gB (a7 HO.out ae.out).1 (by have:=ab.out;have:=am.out;omega)))
    have ay:Hid (Below w.heap.size w W5):=(bt aC.out ae.out).trans (aU.out.mono (Nat.le_trans HB.out.size am.out))
    obtain⟨-,-,⟨x2,z2⟩,-,-,-⟩:=au aF.out
    obtain⟨W6,aL⟩:=ex (W5.setCell ⟨b,2,none⟩ (.slice A5 n5 k5))
    have bw:Hid (W6.heap[b]?=some (.cells #[.string ⟨p.name.toArray⟩,.string ⟨p.ver.toArray⟩,.slice A5 n5 k5,.slice C p.confl.length cc,.slice G p.prov.length gc,.float .f64 p.wt] 42 (0,0))):=by rw[<-aL];exact (aA aF.out).trans rfl
    have bx:Hid (DOwnF W6 zc.heap.size 39 (.slice A5 n5 k5) (ds++[(C3,m,d3)]) (acc++[l])):=by
     rw[<-aL]
     exact uf a4.out (by have:=ab.out;have:=am.out;omega) (nE aF.out (fN HO.out.1) (isl _ _ _) (isl _ _ _))
    have aV:Hid (Below w.heap.size w W6):=by rw[<-aL];exact ay.out.setCell (p:=⟨b,2,none⟩) (Nat.le_of_eq aD.out) _
    have aW:Hid (But (some b) zc W6):=by rw[<-aL];exact fx (gC aj.out ((ae.out.mono aj.out.1).trans aU.out))
    clear aX be aK bF a4 aU aF ay HO ai aC aj
    have bz:=a2.out
    have bA:=aS.out
    go_wp2_with fail
    go_roundw
    case rel=>exact⟨k+1,.slice A5 n5 k5,acc++[l],_,(by have:=aS.out;omega),by go_num,bw,bx,aV,aW,by show (acc++[l]).length=_;rw[List.length_append,HA.out];rfl,ax⟩
    case measure=>have:=aS.out;simp[intOf];omega
  ·obtain rfl:k=n:=by omega
   have ax:Hid (E=.ok acc):=by show _=_;rw[<-HE.out,List.drop_eq_nil_of_le (by rw[HN.out];exact Nat.le_refl _)];rfl
   have HF:Hid (R=.ok { p with deps:=acc }):=by show _=_;rw[<-HR.out,ax.out]
   obtain⟨A5,d5,rfl,az,bf⟩:=down_row HO.out
   have bB:=zh az
   have a5:Hid (AFr zc.heap.size A5):=bf
   clear az bf
   have ac:=aR
   obtain⟨⟨c0,y0⟩,⟨c1,y1⟩,⟨c2,y2⟩,⟨c3,y3⟩,⟨c4,y4⟩,c5,y5⟩:=au ai.out
   obtain⟨⟨k0,z0⟩,⟨k1,bc⟩,⟨k2,z2⟩,⟨k3,z3⟩,⟨k4,z4⟩,k5,z5⟩:=au ac.out
   go_wp2_with fail
   have al:Below w.heap.size w (stP wr b2 { p with deps:=acc } A5 C G d5 cc gc):=aI aC.out (by have:=ab.out;have:=aD.out;omega) { p with deps:=acc } A5 C G d5 cc gc
   have hd:=iV bB.out a5.out (cE wr b2 { p with deps:=acc } A5 C G d5 cc gc) (by have:=ab.out;have:=am.out;omega) (cP ac.out)
   have hle:B<=zc.heap.size:=Nat.le_trans bi.out (Nat.le_trans HB.out.size am.out)
   have az:=cq bh.out al
   have bC:=zh (show Pg.FillRet B w R (.returned (.tuple #[.agg (pCells { p with deps:=acc } A5 C G d5 cc gc),.int .i64 0])) (stP wr b2 { p with deps:=acc } A5 C G d5 cc gc) from ⟨al,by rw[HF.out];exact⟨A5,d5,C,cc,G,gc,rfl,⟨⟨gj hd hle,fun a ha=>Nat.le_trans hle (a5.out a ha)⟩,az.2⟩,fun (e:acc=[])=>by exfalso;have h1:=bk.out;have h2:=HN.out;have h3:=HA.out;rw[e,List.length_nil] at h3;omega,aZ.out.2⟩⟩)
   clear al hd hle az
   (try simp only[Exit.inBlock,Exit.then])
   refine bodyPost_ret (bq ac.out { p with deps:=acc } A5 C G d5 cc gc 0 ?q1 ?q2) ?q3 ?_
   case q3=>rfl
   case q1=>rfl
   case q2=>rfl
   exact bC.out
end
end Go.Proofs.YtkaeamjnphaadaaGreatDoor
