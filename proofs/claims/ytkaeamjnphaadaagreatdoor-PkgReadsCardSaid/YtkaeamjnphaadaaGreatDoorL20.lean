/- Part 20 of what the laws lean on. -/
import Derived.Test.YtkaeamjnphaadaaGreatDoorL19
set_option maxRecDepth 100000
set_option maxHeartbeats 6400000
namespace Go.Proofs.YtkaeamjnphaadaaGreatDoor
section
open Go.RowKit Rs At
attribute [local go_sem ↓] Go.wp_at_zero Go.wp_at_succ
theorem yk {v:List UInt8}{T:List (List Cond)}(hv:v.length<=4000)(h:termP v=some T):T.length<=4001/\∀ l∈T,l.length<=4001:=by
 obtain⟨h1,h2⟩:=sZ h
 exact⟨by omega,fun l hl=>by have:=h2 l hl;omega⟩
theorem acn (T:List (List Cond))(l:List Cond):vers (T++[l])=vers T+l.length:=by
 unfold vers;rw[List.map_append,List.sum_append];simp
theorem rn (s:List UInt8)(w:World)(hw:MaxOk w)(hs:s.length<=4000)(hsp:Vm.has 32 s=true) :
  Calls Tryz.prog 110 #[.string ⟨s.toArray⟩] w (ParseRet w (parseA s)):=by
 obtain⟨X,hX⟩:=ex (parseA s)
 rw[hX]
 obtain⟨W1,bg⟩:=ex (w.alloc (.cells #[.string ⟨#[]⟩,.slice none 0 0] 132))
 have af:Hid (∀ u,Below W1.heap.size W1 u->RC w.heap.size u):=fun u hb=>cu bg hb
 have ao:Hid (∀ u,Below W1.heap.size W1 u->∀ (name:List UInt8) (C:Option Addr) (m d:Nat) (k:Int) (l:List Sp),X=(k,⟨name,l⟩)->l.length=m->SRow u C l->ParseRet w X (.returned (.tuple #[.agg #[.string ⟨name.toArray⟩,.slice C m d],.int .i64 k])) (stA u w.heap.size name C m d)):=fun u hb _ _ _ _ _ _ h1 h2 h3=>wL bg hb h1 h2 h3
 have av:Hid (Below W1.heap.size W1 W1):=Below.refl _ _
 have cv:Hid (MaxOk W1):=ah hw (ag bg)
 rw[yh hsp] at hX
 have b2:=zh (cH s 32 W1 hs hsp)
 obtain⟨aD,ci,bX⟩:=cZ s 32 hsp
 have cw:(Vm.snd 32 s).length<=4000:=by unfold Vm.snd;rw[List.length_drop];have:=(List.dropWhile_sublist (. != (32:UInt8)) (l:=s)).length_le;omega
 obtain⟨nm,cj⟩:=ex (Vm.fst 32 s)
 obtain⟨t,ht⟩:=ex (Vm.snd 32 s)
 rw[cj] at hX b2 aD ci bX
 rw[ht] at hX bX cw
 obtain⟨r0,r1,f0,f1⟩:=af.out _ av.out
 clear hsp hw cj ht
 go_enter Tryz.func110,Tryz.ntmps110
 go_wp2_with fail
 clear bg
 refine b2.out.mono ?_
 rintro _ z ⟨rfl,rfl⟩
 go_wp2_with fail
 refine (eV nm _ (by omega)).mono ?_
 rintro _ z ⟨rfl,rfl⟩
 cases a4:wordB nm
 ·have HX:Hid (X=(2,zeroA)):=by rw[a4] at hX;exact hX.symm
  clear hX a4
  go_wp2_with fail
  exact bodyPost_ret (bB (af.out _ av.out) rfl rfl) rfl (ao.out _ av.out [] none 0 0 2 [] HX.out rfl (bG _))
 ·rw[a4,if_pos rfl] at hX
  clear a4
  by_cases h3:t.length<3
  ·have HX:Hid (X=(2,zeroA)):=by rw[yi h3] at hX;exact hX.symm
   have d3:decide ((t.length:Int)<3)=true:=decide_eq_true (by omega)
   clear hX h3
   go_wp2_with fail
   exact bodyPost_ret (bB (af.out _ av.out) rfl rfl) rfl (ao.out _ av.out [] none 0 0 2 [] HX.out rfl (bG _))
  ·have d3:decide ((t.length:Int)<3)=false:=decide_eq_false (by omega)
   have bm:0<t.length:=by omega
   have aQ:t.length-1<t.length:=by omega
   obtain⟨c0,cV,aq⟩:=byte_at t 0 bm
   obtain⟨cn,cW,ar⟩:=byte_at t (t.length-1) aQ
   by_cases e0:c0.toNat=40
   ·have n0:((c0.toNat:Int) != 40)=false:=by simp[e0]
    have g0:c0=40:=by rw[<-UInt8.toNat_inj];exact e0
    by_cases en:cn.toNat=41
    ·have n1:((cn.toNat:Int) != 41)=false:=by simp[en]
     have gn:cn=41:=by rw[<-UInt8.toNat_inj];exact en
     have bn:=acm (by omega) (aq.trans g0) (ar.trans gn)
     have b3:(⟨t.toArray⟩:ByteArray).extract 1 (t.length-1)=⟨((t.drop 1).take (t.length-2)).toArray⟩:=j8 t 1 (t.length-1)
     obtain⟨v,hv⟩:=ex ((t.drop 1).take (t.length-2))
     have bo:v.length<=4000:=by rw[<-hv,List.length_take,List.length_drop];omega
     rw[hv] at bn b3
     have HX:Hid (X=match termP v with | none=>(2,zeroA) | some t=>readA nm t):=by rw[bn] at hX;exact hX.symm
     have c4:(1:Int)<=((t.length-1:Nat):Int):=by omega
     clear hX bn hv aq ar e0 g0 en gn h3
     go_upto_if 74 with fail
     go_cut [7,8] (fun v7 v8 wx=>∃ (T:List (List Cond)) (ps:List (List (List UInt8))) (C:Option Addr) (m d x:Nat),v7=.slice C m d/\v8=.int .i64 x/\x<=20000000/\m<=4001/\Hid (termP v=some T)/\Hid (Ways ps T)/\Hid (ps.length=m)/\Hid (vers T=x)/\Hid (Gr.Row encT 1 wx C ps)/\Hid (Below W1.heap.size W1 wx)/\Hid (∀ p∈ps,∀ e∈p,e.length<=4000))
     case first =>
      by_cases a5:v=noneT
      ·subst a5
       have a6:Hid (termP noneT=some []):=by show _=_;unfold termP;rw[if_pos rfl]
       go_wp2_with fail
       go_meet
       case rel=>exact⟨[],[],none,0,0,0,rfl,rfl,by omega,by omega,a6,ways_nil,rfl,rfl,Gr.lW _ _,av,fun p hp=>by simp at hp⟩
      ·have aN:(v==[110,111,110,101])=false:=beq_eq_false_iff_ne.2 a5
       obtain⟨R,hR⟩:=ex (termP v)
       have bp:(Lib.split v [32,124,32]).mapM altP=R:=by rw[<-hR];unfold termP;rw[if_neg a5]
       have bq:∀ p∈Lib.split v [32,124,32],p.length<=v.length:=bM _ _ _
       obtain⟨L,hL⟩:=ex (Lib.split v [32,124,32])
       have br:=zh (dP v [32,124,32] W1 bo (by decide) (by decide))
       rw[hL] at bp bq br
       have HR:=zh hR
       have cx:=zh bp
       have bs:Hid (∀ p∈L,p.length<=4000):=fun p hp=>Nat.le_trans (bq p hp) bo
       clear a5 hR bp bq hL r0 r1 f0 f1
       rw[aN]
       go_wp2_with fail
       refine br.out.mono ?_
       rintro _ z1 ⟨A1,n1,c1,rfl,ck,cX,aG,cY,bO⟩
       have b4:=zh ck
       have aR:=zh aG
       have a7:=zh bO
       clear ck aG cY bO br
       go_wp2_with fail
       go_loopw [7,8,10] (fun v7 v8 i wr=>∃ (k x:Nat) (ps:List (List (List UInt8))) (T:List (List Cond)),k<=n1/\i=.int .i64 k/\v8=.int .i64 x/\x<=k*4001/\Hid (Gr.Own encT 1 wr z1.heap.size 71 v7 ps)/\Hid (ps.length=k)/\Hid (Ways ps T)/\Hid (vers T=x)/\Hid (((L.drop k).mapM altP).map (T++·)=R)/\Hid (Below z1.heap.size z1 wr/\z1.heap.size<=wr.heap.size)/\Hid (∀ p∈ps,∀ e∈p,e.length<=4000)) (fun _ _ i _=>n1-(intOf i).toNat)
       case atStart=>exact⟨0,0,[],[],Nat.zero_le _,rfl,rfl,Nat.zero_le _,Gr.az _ _ _,rfl,ways_nil,rfl,by show ((L.drop 0).mapM altP).map _=R;rw[List.drop_zero,cx.out];cases R <;> rfl,⟨Below.refl _ _,Nat.le_refl _⟩,fun p hp=>by simp at hp⟩
       case round =>
        obtain⟨k,x,ps,T,hk,rfl,rfl,hx,HO,bY,a1,bh,HE,HB,bi⟩:=hrel
        by_cases aD:k<n1
        ·have bu:k<L.length:=by rw[b4.out];exact aD
         obtain⟨ad,rfl,_,c0⟩:=bU (Rg.ai aR.out HB.out.1) k bu
         have a8:=bs.out _ (List.getElem_mem bu)
         have he:=HE.out
         rw[List.drop_eq_getElem_cons bu] at he
         obtain⟨p,hp⟩:=ex (L[k])
         rw[hp] at a8 he c0
         have bv:=zh (dP p [32,38,32] wr a8 (by decide) (by decide))
         have bw:∀ x∈Lib.split p [32,38,32],x.length<=p.length:=bM _ _ _
         obtain⟨RA,aB⟩:=ex (altP p)
         have aH:(Lib.split p [32,38,32]).mapM condP=RA:=aB
         obtain⟨W,hW⟩:=ex (Lib.split p [32,38,32])
         rw[hW] at bw aH bv
         have a9:=zh aH
         have b5:Hid (∀ x∈W,x.length<=4000):=fun x hx=>Nat.le_trans (bw x hx) a8
         have bx:Hid (RA=none->X=(2,zeroA)):=fun h=>by
          rw[HX.out,HR.out];have:R=none:=by rw[<-he];exact eC (aB.trans h)
          rw[this]
         have cy:Hid (∀ acc,RA=some acc->((L.drop (k+1)).mapM altP).map ((T++[acc])++·)=R):=fun acc h=>(iM (acc:=T) (aB.trans h)).symm.trans he
         clear he hp a8 bw aB aH hW
         go_wp2_with fail
         refine bv.out.mono ?_
         rintro _ z2 ⟨A2,n2,bj,rfl,aL,bK,ac,cl,bP⟩
         have aT:=zh aL
         have aj:=zh ac
         have aO:=zh bP
         have cA:=zh cl
         clear aL ac cl bP bv c0
         go_wp2_with fail
         go_loop [8,12] (fun v8 j=>∃ (q y:Nat) (acc:List Cond),q<=n2/\j=.int .i64 q/\v8=.int .i64 y/\y<=k*4001+q/\Hid (acc.length=q)/\Hid (x+q=y)/\Hid (((W.drop q).mapM condP).map (acc++·)=RA)) (fun _ j=>n2-(intOf j).toNat)
         case atStart=>exact⟨0,x,[],Nat.zero_le _,rfl,rfl,by omega,rfl,rfl,by show ((W.drop 0).mapM condP).map _=RA;rw[List.drop_zero,a9.out];cases RA <;> rfl⟩
         case round =>
          obtain⟨q,y,acc,bL,rfl,rfl,hy,cm,co,cp⟩:=hrel
          have al:Hid (Below W1.heap.size W1 z2):=a7.out.trans ((HB.out.1.trans (aO.out.mono HB.out.2)).mono a7.out.size)
          by_cases hq:q<n2
          ·have bz:q<W.length:=by rw[aT.out];exact hq
           obtain⟨c3,rfl,_,c2⟩:=bU aj.out q bz
           have aI:=b5.out _ (List.getElem_mem bz)
           have aw:=cp.out
           rw[List.drop_eq_getElem_cons bz] at aw
           obtain⟨e,aC⟩:=ex (W[q])
           rw[aC] at aI aw c2
           obtain⟨r0,r1,f0,f1⟩:=af.out _ al.out
           rcases mG e with⟨am,ae⟩ | ⟨am,ae,hsg⟩ | ⟨am,ae,hsg,hwd⟩ | ⟨am,ae,hsg,hwd⟩
           ·have aU:Hid (RA=none):=by show _=_;rw[<-aw];exact eC am
            have aA:Hid (X=(2,zeroA)):=bx.out aU.out
            have aa:=zh (fg e 32 z2 aI ae)
            clear aw aC am ae
            go_wp2_with fail
            refine aa.out.mono ?_
            rintro _ z ⟨rfl,rfl⟩
            go_wp2_with fail
            (try simp only[Exit.inBlock,Exit.then])
            exact bodyPost_ret (bB (af.out _ al.out) rfl rfl) rfl (ao.out _ al.out [] none 0 0 2 [] aA.out rfl (bG _))
           ·have aU:Hid (RA=none):=by show _=_;rw[<-aw];exact eC am
            have aA:Hid (X=(2,zeroA)):=bx.out aU.out
            have aa:=zh (cH e 32 z2 aI ae)
            obtain⟨an,aM,au⟩:=cZ e 32 ae
            obtain⟨sg,ab⟩:=ex (Vm.fst 32 e)
            rw[ab] at aa an aM au hsg
            have aV:=zh hsg
            clear aw aC am ae hsg ab au
            go_wp2_with fail
            refine aa.out.mono ?_
            rintro _ z ⟨rfl,rfl⟩
            go_wp2_with fail
            refine (hJ sg _).mono ?_
            rintro _ z ⟨rfl,rfl⟩
            rw[aV.out]
            go_wp2_with fail
            (try simp only[Exit.inBlock,Exit.then])
            exact bodyPost_ret (bB (af.out _ al.out) rfl rfl) rfl (ao.out _ al.out [] none 0 0 2 [] aA.out rfl (bG _))
           ·have aU:Hid (RA=none):=by show _=_;rw[<-aw];exact eC am
            have aA:Hid (X=(2,zeroA)):=bx.out aU.out
            have aa:=zh (cH e 32 z2 aI ae)
            obtain⟨an,aM,au⟩:=cZ e 32 ae
            obtain⟨sg,ab⟩:=ex (Vm.fst 32 e)
            obtain⟨vr,ax⟩:=ex (Vm.snd 32 e)
            have aJ:vr.length<=4000:=by rw[<-ax];unfold Vm.snd;rw[List.length_drop];have:=(List.dropWhile_sublist (. != (32:UInt8)) (l:=e)).length_le;omega
            rw[ab] at aa an aM au hsg
            rw[ax] at au hwd
            have aV:=zh hsg
            have bA:=zh hwd
            clear aw aC am ae hsg ab ax hwd
            go_wp2_with fail
            refine aa.out.mono ?_
            rintro _ z ⟨rfl,rfl⟩
            go_wp2_with fail
            refine (hJ sg _).mono ?_
            rintro _ z ⟨rfl,rfl⟩
            rw[aV.out]
            go_wp2_with fail
            refine (eV vr _ aJ).mono ?_
            rintro _ z ⟨rfl,rfl⟩
            rw[bA.out]
            go_wp2_with fail
            (try simp only[Exit.inBlock,Exit.then])
            exact bodyPost_ret (bB (af.out _ al.out) rfl rfl) rfl (ao.out _ al.out [] none 0 0 2 [] aA.out rfl (bG _))
           ·have bC:=zh ((iM (acc:=acc) am).symm.trans aw)
            have aa:=zh (cH e 32 z2 aI ae)
            obtain⟨an,aM,au⟩:=cZ e 32 ae
            obtain⟨sg,ab⟩:=ex (Vm.fst 32 e)
            obtain⟨vr,ax⟩:=ex (Vm.snd 32 e)
            have aJ:vr.length<=4000:=by rw[<-ax];unfold Vm.snd;rw[List.length_drop];have:=(List.dropWhile_sublist (. != (32:UInt8)) (l:=e)).length_le;omega
            rw[ab] at aa an aM au hsg bC
            rw[ax] at au hwd bC
            have aV:=zh hsg
            have bA:=zh hwd
            have HQ:=zh hq
            clear aw aC am ae hsg ab ax hwd
            go_wp2_with fail
            refine aa.out.mono ?_
            rintro _ z ⟨rfl,rfl⟩
            go_wp2_with fail
            refine (hJ sg _).mono ?_
            rintro _ z ⟨rfl,rfl⟩
            rw[aV.out]
            go_wp2_with fail
            refine (eV vr _ aJ).mono ?_
            rintro _ z ⟨rfl,rfl⟩
            rw[bA.out]
            go_wp2_with fail
            go_round
            case rel=>exact⟨q+1,y+1,acc++[(sg,vr)],by omega,by go_num,by go_num,by omega,by show (acc++[(sg,vr)]).length=_;rw[List.length_append,cm.out];rfl,by have:=co.out;show _=_;omega,bC⟩
            case measure=>simp[intOf];omega
          ·obtain rfl:q=n2:=by omega
           have b6:Hid (RA=some acc):=by show _=_;rw[<-cp.out,List.drop_eq_nil_of_le (by rw[aT.out];exact Nat.le_refl _)];show some (acc++[])=_;rw[List.append_nil]
           have cB:Hid (W.mapM condP=some acc):=by show _=_;rw[a9.out];exact b6.out
           have cC:=zh (cy.out acc b6.out)
           have cD:Hid (ps.length+1<=1000000):=by have:=bY.out;show _<=_;omega
           have cE:Hid (vers (T++[acc])=y):=by show _=_;rw[acn,bh.out,cm.out];exact co.out
           have ap:=zh aD
           go_wp2_with (at_builtin;refine Gr.uJ sliceSS rfl (.tmp 125) (.tmp 127) rfl z1.heap.size _ ps W A2 _ bj rfl rfl (Gr.own_below HO.out aO.out) aT.out aj.out (Gr.fresh HO.out (Nat.le_refl _) cA.out W) cD.out (Nat.le_trans HB.out.2 aO.out.size) ?_)
           intro v5 W5 cq aK cr
           have cF:=zh cq
           have ba:Hid (Below z1.heap.size z1 W5/\z1.heap.size<=W5.heap.size):=⟨(HB.out.1.trans (aO.out.mono HB.out.2)).trans aK,Nat.le_trans (Nat.le_trans HB.out.2 aO.out.size) cr⟩
           clear cq aK cr HO HB aO aj
           go_wp2_with fail
           go_roundw
           case rel=>exact⟨k+1,y,ps++[W],T++[acc],(by have:=ap.out;omega),by go_num,rfl,by omega,cF,by show (ps++[W]).length=_;rw[List.length_append,bY.out];rfl,z8 a1.out cB.out,cE,cC,ba,fun p hp=>by
            rcases List.mem_append.1 hp with hp | hp
            ·exact bi.out p hp
            ·rw[List.mem_singleton.1 hp];exact b5.out⟩
           case measure=>have:=ap.out;simp[intOf];omega
        ·obtain rfl:k=n1:=by omega
         have cG:Hid (termP v=some T):=by show _=_;rw[HR.out,<-HE.out,List.drop_eq_nil_of_le (by rw[b4.out];exact Nat.le_refl _)];show some (T++[])=_;rw[List.append_nil]
         obtain⟨C,d,rfl,a2⟩:=Gr.aE HO.out
         have aW:=zh a2
         have c5:ps.length=k:=bY.out
         have cI:Hid (Below W1.heap.size W1 wr):=a7.out.trans (HB.out.1.mono a7.out.size)
         clear a2
         go_wp2_with fail
         go_meet
         case rel=>exact⟨T,ps,C,_,d,x,rfl,rfl,by omega,by omega,cG,a1.out,rfl,bh.out,aW.out,cI.out,bi.out⟩
     case rest =>
      obtain⟨T,ps,C,m,d,x,rfl,rfl,hx,hm,a6,a1,cs,bh,bZ,ay,bi⟩:=hcut
      have aA:Hid (X=readA nm T):=by show _=_;rw[HX.out,a6.out]
      clear HX r0 r1 f0 f1 ci bX b3 cV cW n0 n1 d3
      obtain⟨r0,r1,f0,f1⟩:=af.out _ ay.out
      go_wp2_with fail
      refine (ee nm _ (by unfold maxLen;omega)).mono ?_
      rintro _ z ⟨rfl,rfl⟩
      cases aN:nameB nm
      ·have aX:Hid (X=(3,zeroA)):=by show _=_;rw[aA.out];unfold readA;rw[aN];rfl
       clear aN
       go_wp2_with fail
       exact bodyPost_ret (bB (af.out _ ay.out) rfl rfl) rfl (ao.out _ ay.out [] none 0 0 3 [] aX.out rfl (bG _))
      ·obtain⟨R3,b0⟩:=ex (hTerm [] T)
       have aX:Hid (X=if x<=16 then (if R3.1=0 then (if checkA ⟨nm,R3.2.map spOf⟩=0 then (0,⟨nm,R3.2.map spOf⟩) else (checkA ⟨nm,R3.2.map spOf⟩,zeroA)) else (R3.1,zeroA)) else (4,zeroA)):=by show _=_;rw[aA.out];unfold readA;rw[aN,bh.out,b0];rfl
       have cJ:=zh b0
       clear aN b0 aA
       by_cases b7:16<x
       ·have cK:decide ((16:Int)<(x:Int))=true:=decide_eq_true (by omega)
        have bb:Hid (X=(4,zeroA)):=by show _=_;rw[aX.out,if_neg (by omega)]
        clear b7
        go_wp2_with fail
        exact bodyPost_ret (bB (af.out _ ay.out) rfl rfl) rfl (ao.out _ ay.out [] none 0 0 4 [] bb.out rfl (bG _))
       ·have cK:decide ((16:Int)<(x:Int))=false:=decide_eq_false (by omega)
        have bb:Hid (X=if R3.1=0 then (if checkA ⟨nm,R3.2.map spOf⟩=0 then (0,⟨nm,R3.2.map spOf⟩) else (checkA ⟨nm,R3.2.map spOf⟩,zeroA)) else (R3.1,zeroA)):=by show _=_;rw[aX.out,if_pos (by omega)]
        clear b7 aX
        have cL:Hid (MaxOk wc):=ah cv.out ay.out
        have b8:Hid (T.length=m):=by have:=a1.out.1;show _=_;rw[<-this,cs.out]
        have bD:Hid (∀ l∈T,l.length<=4001):=(yk bo a6.out).2
        clear r0 r1 f0 f1
        go_wp2_with fail
        go_loopw [14,15] (fun v14 i wr=>∃ (k:Nat) (C1:Option Addr) (m1 d1:Nat) (r:List (Rm.P Cut)),k<=m/\i=.int .i64 k/\v14=.slice C1 m1 d1/\Hid (St wc wr [⟨C1,m1,r.map spOf⟩])/\Hid (Rs.Good r)/\Hid (hTerm r (T.drop k)=R3)) (fun _ i _=>m-(intOf i).toNat)
        case atStart=>exact⟨0,none,0,0,[],Nat.zero_le _,rfl,rfl,⟨cL.out,Below.refl _ _,fun x hx=>by rw[List.mem_singleton.1 hx];exact⟨m7 _ _,rfl⟩⟩,gV,cJ.out⟩
        case round =>
         obtain⟨k,C1,m1,d1,r,hk,rfl,rfl,HW,HG,HH⟩:=hrel
         by_cases aD:k<m
         ·have bE:k<ps.length:=by rw[cs.out];exact aD
          have bF:k<T.length:=by rw[b8.out];exact aD
          obtain⟨ad,C2,n2,c2,rfl,a3,c0,aL,ac⟩:=Gr.cz bZ.out k bE
          obtain⟨W,hW⟩:=ex (ps[k])
          obtain⟨l,hl⟩:=ex (T[k])
          have bH:W.mapM condP=some l:=a1.out.2 k W l (by rw[List.getElem?_eq_getElem bE,hW]) (by rw[List.getElem?_eq_getElem bF,hl])
          have hd:T.drop k=l :: T.drop (k+1):=by rw[List.drop_eq_getElem_cons bF,hl]
          have bI:=bD.out _ (List.getElem_mem bF)
          rw[hl] at bI
          rw[hW] at aL ac
          have b9:l.length=W.length:=(j4 bH).1
          have hh:=HH.out
          rw[hd,j3] at hh
          obtain⟨RA,aB⟩:=ex (hAlt allR l)
          have c6:Hid (Rs.Good RA.2):=by show Rs.Good _;rw[<-aB];exact iG l _ goodAll
          rw[aB] at hh
          have a9:=zh aB
          have ca:=zh hh
          have aT:=zh aL
          have aj:=zh ac
          have cb:=zh c0
          have cM:=zh bH
          have bJ:Hid (l.length=n2):=by show _=_;rw[b9];exact aL
          have bK:n2<=4001:=by rw[<-bJ.out];exact bI
          have aY:=zh a3
          have cN:Hid (W∈ps):=by show _∈_;rw[<-hW];exact List.getElem_mem bE
          clear hd hl hh aB aL ac hW bH bI b9 c0 a3
          have c0:=(HW.out.2.1.cell (p:=ad.add k) (by rw[add_block];exact aY.out)).trans cb.out
          go_wp2_with fail
          refine (acj HW.out).mono ?_
          rintro _ u1 ⟨C3,m3,d3,rfl,hs⟩
          have aZ:=zh hs
          clear hs c0
          go_wp2_with fail
          go_loopw [16,17] (fun v16 j wq=>∃ (q:Nat) (C3:Option Addr) (m3 d3:Nat) (r3:List (Rm.P Cut)),q<=n2/\j=.int .i64 q/\v16=.slice C3 m3 d3/\Hid (St wc wq [⟨C3,m3,r3.map spOf⟩,⟨C1,m1,r.map spOf⟩])/\Hid (Rs.Good r3)/\Hid (hAlt r3 (l.drop q)=RA)) (fun _ j _=>n2-(intOf j).toNat)
          case atStart=>exact⟨0,C3,m3,d3,allR,Nat.zero_le _,rfl,rfl,aZ,goodAll,a9.out⟩
          case round =>
           clear aZ
           obtain⟨q,C3,m3,d3,r3,hq,rfl,rfl,HS,bk,b1⟩:=hrel
           have c0:=(HS.out.2.1.cell (p:=ad.add k) (by rw[add_block];exact aY.out)).trans cb.out
           by_cases bL:q<n2
           ·have bN:q<W.length:=by rw[aT.out];exact bL
            have cc:q<l.length:=by rw[bJ.out];exact bL
            obtain⟨c3,rfl,_,bj⟩:=bU (Rg.ai aj.out HS.out.2.1) q bN
            have am:=td cM.out q bN cc
            have hd:=List.drop_eq_getElem_cons cc
            obtain⟨e,aC⟩:=ex (W[q])
            obtain⟨cd,ct⟩:=ex (l[q])
            rw[aC] at am bj
            rw[ct] at am hd
            obtain⟨ae,rfl⟩:=yg am
            have aI:e.length<=4000:=bi.out W (cN.out) e (by rw[<-aC];exact List.getElem_mem bN)
            have aa:=zh (cH e 32 wr aI ae)
            obtain⟨an,aM,au⟩:=cZ e 32 ae
            obtain⟨sg,ab⟩:=ex (Vm.fst 32 e)
            obtain⟨vr,ax⟩:=ex (Vm.snd 32 e)
            rw[ab] at aa an aM au hd
            rw[ax] at au hd
            have hh:=b1.out
            rw[hd,lx] at hh
            dsimp only at hh
            obtain⟨x1,bl⟩:=ex (ofR sg vr)
            obtain⟨y,hy⟩:=ex (ofE sg vr)
            have ce:Hid (Rs.Good x1):=by show Rs.Good _;rw[<-bl];exact mX _ _
            rw[bl,hy] at hh
            have cO:=zh bl
            have HY:=zh hy
            have cf:=zh hh
            clear hd hh am ct aC bl hy ae ab ax b1
            go_wp2_with fail
            refine aa.out.mono ?_
            rintro _ z ⟨rfl,rfl⟩
            go_wp2_with fail
            have aZ:Hid (St wc wr.drew [⟨C3,m3,r3.map spOf⟩,⟨C1,m1,r.map spOf⟩]):=cU HS.out (Below.refl _ _).drew
            have c7:(0:Int)<=(sg.length:Int):=by omega
            have bO:(sg.length:Int)<=(e.length:Int):=by omega
            have bP:(0:Int)<=(sg.length:Int)+1:=by omega
            have c8:(sg.length:Int)+1<=(e.length:Int):=by omega
            have c9:IntKind.i64.wrap ((sg.length:Int)+1)=(sg.length:Int)+1:=IntWalk.i64_in _ (by omega)
            have aK:((sg.length:Int)+1).toNat=sg.length+1:=by omega
            go_region_held3 (fun _=>True)
             (trivial)
             (first
              | (go_at_call 154;refine (adP aZ.out sg vr x1 y cO.out HY.out).mono ?_;rintro _ u2 ⟨C4,n4,d4,rfl,hs⟩;have bQ:=zh hs;clear hs))
            clear c0 bj aZ
            by_cases aP:y=0
            ·subst aP
             go_wp2_with fail
             refine (aci bQ.out 1 0 rfl rfl bk.out ce.out _ _ _ rfl).mono ?_
             rintro _ u4 ⟨C5,n5,d5,rfl,hs⟩
             have bR:Hid (St wc u4 [⟨C5,n5,(andR r3 x1).map spOf⟩,⟨C1,m1,r.map spOf⟩]):=fH (fH hs)
             have bS:Hid (Rs.Good (andR r3 x1)):=goodA bk.out ce.out
             have bT:Hid (hAlt (andR r3 x1) (l.drop (q+1))=RA):=by show _=_;have h:=cf.out;first | rwa [if_pos rfl] at h | rwa [if_pos trivial] at h
             clear hs bQ HS
             go_wp2_with fail
             go_roundw
             case rel=>exact⟨q+1,C5,n5,d5,andR r3 x1,by omega,by go_num,rfl,bR,bS,bT⟩
             case measure=>simp[intOf];omega
            ·have cP:(y != 0)=true:=by simpa using aP
             have a0:Hid (RA=(y,[])):=by show _=_;have h:=cf.out;rw[if_neg aP] at h;exact h.symm
             have bV:Hid (R3=(y,[])):=by show _=_;have h:=ca.out;rw[a0.out,if_neg aP] at h;exact h.symm
             have bc:Hid (X=(y,zeroA)):=by show _=_;rw[bb.out,bV.out];exact if_neg aP
             have al:Hid (Below W1.heap.size W1 u2):=ay.out.trans (bQ.out.2.1.mono ay.out.size)
             clear aP
             obtain⟨r0,r1,f0,f1⟩:=af.out _ al.out
             go_wp2_with fail
             (try simp only[Exit.inBlock,Exit.then])
             exact bodyPost_ret (bB (af.out _ al.out) rfl rfl) rfl (ao.out _ al.out [] none 0 0 y [] bc.out rfl (bG _))
           ·obtain rfl:q=n2:=by omega
            have a0:Hid (RA=(0,r3)):=by show _=_;rw[<-b1.out,List.drop_eq_nil_of_le (by rw[bJ.out];exact Nat.le_refl _)];rfl
            have bT:Hid (hTerm (orR r r3) (T.drop (k+1))=R3):=by show _=_;have h:=ca.out;rw[a0.out,if_pos rfl] at h;exact h
            have bS:Hid (Rs.Good (orR r r3)):=goodO HG.out bk.out
            have ap:=zh aD
            go_wp2_with fail
            refine (adQ HS.out 1 0 rfl rfl HG.out bk.out _ _ _ rfl).mono ?_
            rintro _ u4 ⟨C5,n5,d5,rfl,hs⟩
            have bR:Hid (St wc u4 [⟨C5,n5,(orR r r3).map spOf⟩]):=fH (fH hs)
            clear hs HS c0
            go_wp2_with fail
            go_roundw
            case rel=>exact⟨k+1,C5,n5,d5,orR r r3,(by have:=ap.out;omega),by go_num,rfl,bR,bS,bT⟩
            case measure=>have:=ap.out;simp[intOf];omega
         ·obtain rfl:k=m:=by omega
          have a0:Hid (R3=(0,r)):=by show _=_;rw[<-HH.out,List.drop_eq_nil_of_le (by rw[b8.out];exact Nat.le_refl _)];rfl
          have bc:Hid (X=if checkA ⟨nm,r.map spOf⟩=0 then (0,⟨nm,r.map spOf⟩) else (checkA ⟨nm,r.map spOf⟩,zeroA)):=by show _=_;rw[bb.out,a0.out];exact if_pos rfl
          obtain⟨K,hK⟩:=ex (checkA ⟨nm,r.map spOf⟩)
          have cg:Hid (X=if K=0 then (0,⟨nm,r.map spOf⟩) else (K,zeroA)):=by show _=_;rw[bc.out,hK]
          have bd:(r.map spOf).length=m1:=(aF HW.out 0 rfl).2
          have cQ:m1<=64:=by rw[<-bd,List.length_map];exact HG.out.2.2
          have be:Below wr.heap.size wr (wr.alloc (.cells #[.string ⟨nm.toArray⟩,.slice C1 m1 d1] 132)):=(Below.refl _ _).alloc (Nat.le_refl _) _
          have ch:=zh (nc nm C1 m1 d1 (r.map spOf) _ (ah (eS HW.out) be) (by unfold maxLen;omega) bd (ak (aF HW.out 0 rfl).1 be) (by omega))
          rw[hK] at ch
          have cR:=zh be
          have cS:=zh bd
          clear hK bd be bc
          go_wp2_with fail
          refine ch.out.mono ?_
          rintro _ z5 ⟨rfl,aK⟩
          have cT:Hid (Bx2 wr.heap.size nm C1 m1 d1 z5):=aS (eB wr nm C1 m1 d1 132) (by simp) aK
          have ba:Hid (Below wr.heap.size wr z5):=bt cR.out aK
          have al:Hid (Below W1.heap.size W1 z5):=ay.out.trans ((HW.out.2.1.trans (ba.out.mono HW.out.2.1.size)).mono ay.out.size)
          have bV:Hid (SRow z5 C1 (r.map spOf)):=ak (aF HW.out 0 rfl).1 ba.out
          clear aK
          obtain⟨r0,r1,f0,f1⟩:=af.out _ al.out
          obtain⟨k0,k1⟩:=cT.out
          by_cases bf:K=0
          ·subst bf
           have bW:Hid (X=(0,⟨nm,r.map spOf⟩)):=cg.out
           go_wp2_with fail
           exact bodyPost_ret (bB (af.out _ al.out) rfl rfl) rfl (ao.out _ al.out nm C1 m1 d1 0 _ bW.out cS.out bV.out)
          ·have cP:(K != 0)=true:=by simpa using bf
           have bW:Hid (X=(K,zeroA)):=by show _=_;rw[cg.out,if_neg bf]
           clear bf
           go_wp2_with fail
           exact bodyPost_ret (bB (af.out _ al.out) rfl rfl) rfl (ao.out _ al.out [] none 0 0 K [] bW.out rfl (bG _))
    ·have n1:((cn.toNat:Int) != 41)=true:=by simp;omega
     have HX:Hid (X=(2,zeroA)):=by rw[yj (by omega) ar (fun e=>en (by rw[e];rfl))] at hX;exact hX.symm
     clear hX aq ar e0 g0 en h3
     go_wp2_with fail
     exact bodyPost_ret (bB (af.out _ av.out) rfl rfl) rfl (ao.out _ av.out [] none 0 0 2 [] HX.out rfl (bG _))
   ·have n0:((c0.toNat:Int) != 40)=true:=by simp;omega
    have HX:Hid (X=(2,zeroA)):=by rw[aab (by omega) aq (fun e=>e0 (by rw[e];rfl))] at hX;exact hX.symm
    clear hX aq ar e0 h3
    go_wp2_with fail
    exact bodyPost_ret (bB (af.out _ av.out) rfl rfl) rfl (ao.out _ av.out [] none 0 0 2 [] HX.out rfl (bG _))
end
section
open Go.RowKit Rs At
attribute [local go_sem ↓] Go.wp_at_zero Go.wp_at_succ
theorem nf (s:List UInt8)(w:World)(hw:MaxOk w)(hs:s.length<=4000) :
  Calls Tryz.prog 110 #[.string ⟨s.toArray⟩] w (ParseRet w (parseA s)):=by
 cases h:Vm.has 32 s
 ·exact tf s w hs h
 ·exact rn s w hw hs h
def AC (b:Nat) (name:List UInt8) (A:Option Addr) (n c:Nat) (u:World):Prop :=
 u.cell? ⟨b,0,none⟩=some (.string ⟨name.toArray⟩)/\u.cell? ⟨b,1,none⟩=some (.slice A n c)/\u.cell? ⟨b+1,0,none⟩=some (.string ⟨#[]⟩)/\u.cell? ⟨b+1,1,none⟩=some (.slice none 0 0)/\u.frozen? ⟨b+1,0,none⟩=false/\u.frozen? ⟨b+1,1,none⟩=false/\∀ j,2<=j->u.cell? ⟨b+1,j,none⟩=none
theorem afl {w W1 W2 u:World}{T1 T2:TypeId}{name:List UInt8}{A:Option Addr}{n c:Nat}(h1:w.alloc (.cells #[.string ⟨name.toArray⟩,.slice A n c] T1)=W1)(h2:W1.alloc (.cells #[.string ⟨#[]⟩,.slice none 0 0] T2)=W2)(hb:Below W2.heap.size W2 u):AC w.heap.size name A n c u:=by
 have aa:W1.heap.size=w.heap.size+1:=by rw[<-h1];simp
 have ab:Below W1.heap.size W1 u:=(ag h2).trans (hb.mono (ag h2).size)
 obtain⟨a0,a1,_⟩:=cu h1 ab
 obtain⟨b0,b1,b2,b3⟩:=cu h2 hb
 have e1:u.heap[W1.heap.size]?=some (.cells #[.string ⟨#[]⟩,.slice none 0 0] T2 (0,0)):=(hb.block _ (by rw[<-h2];simp)).trans (by rw[<-h2];exact heap_alloc_new W1 _)
 rw[aa] at b0 b1 b2 b3 e1
 exact⟨a0,a1,b0,b1,b2,b3,fun j hj=>by simp[World.cell?,e1];omega⟩
theorem ac2 {b:Nat}{name:List UInt8}{A:Option Addr}{n c:Nat}{u:World}(h:AC b name A n c u):u.cell? ⟨b,0,none⟩=some (.string ⟨name.toArray⟩)/\u.cell? ⟨b,1,none⟩=some (.slice A n c):=⟨h.1,h.2.1⟩
theorem aeR {b:Nat}{name:List UInt8}{A:Option Addr}{n c:Nat}{u:World}(h:AC b name A n c u)(x y:Value) :
  ((u.setCell ⟨b+1,0,none⟩ x).setCell ⟨b+1,1,none⟩ y).cell? ⟨b,0,none⟩=some (.string ⟨name.toArray⟩)/\((u.setCell ⟨b+1,0,none⟩ x).setCell ⟨b+1,1,none⟩ y).cell? ⟨b,1,none⟩=some (.slice A n c):=by
 have far:∀ j,((u.setCell ⟨b+1,0,none⟩ x).setCell ⟨b+1,1,none⟩ y).cell? ⟨b,j,none⟩=u.cell? ⟨b,j,none⟩:=fun j=>by
  rw[World.cell?_setCell_far _ _ _ _ (by show b+1≠b;omega),World.cell?_setCell_far _ _ _ _ (by show b+1≠b;omega)]
 exact⟨(far 0).trans h.1,(far 1).trans h.2.1⟩
theorem aeS {b:Nat}{name:List UInt8}{A:Option Addr}{n c:Nat}{u:World}(h:AC b name A n c u)(x y:Value) :
  ((u.setCell ⟨b+1,0,none⟩ x).setCell ⟨b+1,1,none⟩ y).cell? ⟨b+1,0,none⟩=some x/\((u.setCell ⟨b+1,0,none⟩ x).setCell ⟨b+1,1,none⟩ y).cell? ⟨b+1,1,none⟩=some y:=by
 obtain⟨_,_,b0,b1,_⟩:=h
 constructor <;> simp[go_sem,b0,b1]
theorem adU (name:List UInt8)(A:Option Addr)(n c:Nat)(l:List Sp)(w:World)(hn:l.length=n)(hr:SRow w A l)(hl:n<=1000) :
  Calls Tryz.prog 65 #[.agg #[.string ⟨name.toArray⟩,.slice A n c]] w fun e w'=>∃ C d,e=.returned (.agg #[.string ⟨name.toArray⟩,.slice C n d])/\SRow w' C l/\Below w.heap.size w w':=by
 obtain⟨W1,ac⟩:=ex (w.alloc (.cells #[.string ⟨name.toArray⟩,.slice A n c] 64))
 obtain⟨W2,af⟩:=ex (W1.alloc (.cells #[.string ⟨#[]⟩,.slice none 0 0] 132))
 have aa:Hid (∀ u,Below W2.heap.size W2 u->AC w.heap.size name A n c u):=fun u hb=>afl ac af hb
 have ap:W1.heap.size=w.heap.size+1:=by rw[<-ac];simp
 have ah:Hid (Below w.heap.size w W2):=(ag ac).trans ((ag af).mono (ag ac).size)
 have am:Hid (SRow W2 A l):=ak hr ah.out
 subst hn
 clear hr
 go_enter Tryz.func65,Tryz.ntmps65
 go_wp2_with fail
 have ad:Hid (Below W2.heap.size W2 W2.drew):=(Below.refl _ _).drew
 obtain⟨a0,a1,_⟩:=aa.out _ ad.out
 clear ac af
 go_region_held3 (fun w'=>w'.cell? ⟨w.heap.size,0,none⟩=some (.string ⟨name.toArray⟩)/\w'.cell? ⟨w.heap.size,1,none⟩=some (.slice A l.length c))
  (first
   | exact ac2 (aa.out _ ad.out)
   | exact ac2 (aa.out _ ab.out)
   | exact aeR (aa.out _ ab.out) _ _)
  (first
   | (go_at_call 116;refine (adz A c l _ (ak am.out ad.out) hl).mono ?_;rintro _ u3 ⟨⟨C,d,rfl,aj,_,_⟩,al⟩;have ab:=zh (bt ad.out al);have ai:=zh aj;clear al aj;obtain⟨_,_,b0,b1,f0,f1,_⟩:=aa.out _ ab.out))
 have an:Hid (Below w.heap.size w ((u3.setCell ⟨w.heap.size+1,0,none⟩ (.string ⟨name.toArray⟩)).setCell ⟨w.heap.size+1,1,none⟩ (.slice C l.length d))) :=
  ((bt ah.out ab.out).setCell (Nat.le_succ _) _).setCell (Nat.le_succ _) _
 have ae:=eD ai.out (aa.out _ ab.out).2.2.2.2.2.2
 have ao:Hid (SRow ((u3.setCell ⟨w.heap.size+1,0,none⟩ (.string ⟨name.toArray⟩)).setCell ⟨w.heap.size+1,1,none⟩ (.slice C l.length d)) C l):=cO (cO ai.out ae) ae
 have g:=aeS (aa.out _ ab.out) (.string ⟨name.toArray⟩) (.slice C l.length d)
 clear ae
 go_wp2_with fail
 generalize (u3.setCell ⟨w.heap.size+1,0,none⟩ (.string ⟨name.toArray⟩)).setCell ⟨w.heap.size+1,1,none⟩ (.slice C l.length d)=V at *
 obtain⟨g0,g1⟩:=g
 refine bodyPost_ret (v:=.agg #[.string ⟨name.toArray⟩,.slice C l.length d]) ?_ rfl ⟨C,d,rfl,ao.out,an.out⟩
 simp[results,Tryz.results65,go_sem,g0,g1]
end
section
open Go.RowKit Rs At
variable {w0 u:World} {L:List Ent} {A B:Option Addr} {n m:Nat}
theorem lA {l:List Sp}(h:checkR l=0):l.length<=64:=by
 have:=(fZ h).1.2.2
 rwa [List.length_map] at this
end
section
open Go.RowKit Rs At
theorem aac {w0 u:World}{L:List Ent}{A:Option Addr}{n:Nat}(h:St w0 u L)(i:Nat){l:List Sp}(hi:L[i]?=some ⟨A,n,l⟩)(hk:checkR l=0)(c:Nat)(v:List UInt8)(hv:Vm.check v=0)(b:Bool)(hb:hasR (l.map Sp.piece) v=b) :
  Calls Tryz.prog 42 #[.slice A n c,.string ⟨v.toArray⟩] u (BoolRet w0 L b) :=
 afh h i (a:=l.map Sp.piece) (by rw[(fZ hk).2];exact hi) (fZ hk).1 c v hv b hb
end
section
open Go.RowKit Rs At
theorem vl {s:List UInt8}{a:Atm}(h:parseA s=(0,a)):checkA a=0:=by
 have key:∀ (name:List UInt8) (t:List (List Cond)),readA name t=(0,a)->checkA a=0:=fun name t h=>by
  unfold readA at h
  split at h
  ·split at h
   ·split at h
    ·split at h
     ·rename_i h4
      injection h with _ h2
      rw[<-h2];exact h4
     ·rename_i h4
      injection h with h1 _
      exact absurd h1 h4
    ·rename_i h3
     injection h with h1 _
     exact absurd h1 h3
   ·injection h with h1 _;cases h1
  ·injection h with h1 _;cases h1
 rw[qu] at h
 cases hp:parseT s with
 | none=>rw[hp] at h;injection h with h1 _;cases h1
 | some t=>rw[hp] at h;exact key _ t h
theorem ef {a:Atm}(h:checkA a=0):nameB a.name=true/\checkR a.rng=0/\vers (At.termOf a.rng)<=16:=by
 unfold checkA at h
 split at h
 ·rename_i h1
  split at h
  ·rename_i h2
   split at h
   ·cases h
   ·rename_i h3;exact⟨h1,h2,by omega⟩
  ·rename_i h2;exact absurd h h2
 ·cases h
theorem dp {l:List UInt8}(h:nameB l=true):l.length<=24:=by
 rcases Nat.lt_or_ge 24 l.length with h1 | h1
 ·rw[lh h1] at h;cases h
 ·exact h1
theorem aeT {l:List Cond}(h:∀ c∈l,(condT c).length<=43):(altT l).length<=l.length*46:=by
 have:=gX [32,38,32] (l.map condT) 43 (fun t ht=>by
  obtain⟨c,hc,rfl⟩:=List.mem_map.1 ht
  exact h c hc)
 rw[List.length_map] at this
 exact this
theorem qx:∀ {t:List (List Cond)},(∀ l∈t,∀ c∈l,(condT c).length<=43)->Lib.lens (t.map altT)<=vers t*46
 | [],_=>by simp[Lib.lens]
 | l :: t,h=>by
  have h1:=aeT (h l (by simp))
  have h2:=qx (t:=t) (fun x hx=>h x (by simp[hx]))
  have e1:Lib.lens ((l :: t).map altT)=(altT l).length+Lib.lens (t.map altT):=by simp[Lib.lens]
  have e2:vers (l :: t)=l.length+vers t:=rfl
  rw[e1,e2,Nat.add_mul];omega
theorem aco {t:List (List Cond)}(h:∀ l∈t,∀ c∈l,(condT c).length<=43)(hl:t.length<=64)(hv:vers t<=16):(termT t).length<=928:=by
 unfold termT
 split
 ·decide
 ·cases t with
  | nil=>contradiction
  | cons l t =>
   rw[List.map_cons,Lib.join_length,<-List.map_cons (f:=altT)]
   have:=qx h
   simp only[List.length_map,List.length_cons] at hl ⊢
   show 3*t.length+_<=_
   omega
theorem adV {a:Atm}(h:checkA a=0):(textA a).length<=1000:=by
 obtain⟨h1,h2,h3⟩:=ef h
 have hn:=dp h1
 unfold textA
 split
 ·omega
 ·have hl:(At.termOf a.rng).length<=64:=by show (a.rng.map conds).length<=64;rw[List.length_map];exact lA h2
  have ht:=aco (t:=At.termOf a.rng) (fun l hl c hc=>by
   obtain⟨s,hs,rfl⟩:=List.mem_map.1 hl
   obtain⟨i,hi,he,ho⟩:=sP ((mC h2).2.2 s hs) c hc
   have aa:=wB ho
   have ab:(sgnT i).length<=2:=by
    match i,hi with
    | 0,_ | 1,_ | 2,_ | 3,_ | 4,_ | 5,_=>decide
   unfold condT
   rw[he]
   simp only[List.length_append,List.length_cons]
   omega) hl h3
  rw[List.length_append]
  simp only[List.length_cons,List.length_append,List.length_nil]
  omega
end
end Go.Proofs.YtkaeamjnphaadaaGreatDoor
