/- Part 29 of what the laws lean on. -/
import Derived.Test.YtkaeamjnphaadaaGreatDoorL28
set_option maxRecDepth 100000
set_option maxHeartbeats 3200000
namespace Go.Proofs.YtkaeamjnphaadaaGreatDoor
section
open Go.RowKit Go.Maps Sz
attribute [local go_sem ↓] Go.wp_at_zero Go.wp_at_succ
theorem rF (p q:Addr)(x y k n:Int)(w:World)(hc:∀ u,Below w.heap.size w u->u.cell? p=some (.int .i64 x))(hz:∀ u,Below w.heap.size w u->u.frozen? p=false)(hc2:∀ u,Below w.heap.size w u->(u.setCell p (.int .i64 k)).cell? q=some (.int .i64 y))(hz2:∀ u,Below w.heap.size w u->(u.setCell p (.int .i64 k)).frozen? q=false) :
  CallsD Tryz.prog 93 #[.pointer (some p),.pointer (some q)] (.panicking [{ v:=.iface 113 (.agg #[.int .i64 k,.int .i64 n]),recovered:=false }]) w fun e u' w' =>
   e=.returned (.tuple #[])/\u'=.panicking [{ v:=.iface 113 (.agg #[.int .i64 k,.int .i64 n]),recovered:=true }]/\∃ u,Below w.heap.size w u/\w'=(u.setCell p (.int .i64 k)).setCell q (.int .i64 n):=by
 refine callsD_of_wpS Tryz.func93 rfl fun c₀ cs hu=>?_
 apply wpS_region
 simp[wpOpsS,go_sem,recoverD,hu,Tryz.ntmps93]
 refine (eX k n _).mono ?_
 rintro e w' ⟨rfl,hb⟩
 simp[go_sem,hc _ hb,hz _ hb,hc2 _ hb,hz2 _ hb,bodyPostS,results,Tryz.results93]
 exact⟨w',hb,rfl⟩
theorem vA (p q:Addr)(x y:Int)(w:World)(hc:w.cell? p=some (.int .i64 x))(hz:w.frozen? p=false)(hc2:(w.setCell p (.int .i64 0)).cell? q=some (.int .i64 y))(hz2:(w.setCell p (.int .i64 0)).frozen? q=false) :
  CallsD Tryz.prog 93 #[.pointer (some p),.pointer (some q)] .returning w fun e u' w'=>e=.returned (.tuple #[])/\u'=.returning/\w'=(w.setCell p (.int .i64 0)).setCell q (.int .i64 0):=by
 refine callsD_of_wpS Tryz.func93 rfl fun c₀ cs hu=>?_
 apply wpS_region
 simp[wpOpsS,go_sem,recoverD,hu,Tryz.ntmps93]
 refine (eP _).mono ?_
 rintro e w' ⟨rfl,rfl⟩
 cases c₀
 simp_all [go_sem,bodyPostS,results,Tryz.results93]
theorem Sz.qM (ks:List (List UInt8)):∀ (l:List Fld) (i:Nat) (x:Int),(ordP ks i x l).2=0->(ordP ks i x l).1=0
 | [],i,x,_=>rfl
 | f :: l,i,x,h=>by
  rw[lO] at h ⊢
  cases hp:placeOf ks f.key with
  | none=>rw[hp] at h;cases h
  | some p =>
   rw[hp] at h
   dsimp only at h ⊢
   by_cases hx:x<p
   ·rw[if_pos hx] at h ⊢;exact qM ks l _ _ h
   ·rw[if_neg hx] at h;cases h
def Sz.OrderRet (w:World) (X:Int × Int) (e:Ending) (w':World):Prop:=e=.returned (.tuple #[.int .i64 X.1,.int .i64 X.2])/\Below w.heap.size w w'
theorem oZ (A:Option Addr)(n c:Nat)(l:List Fld)(B:Option Addr)(m d:Nat)(ks:List (List UInt8))(w:World)(hn:l.length=n)(hr:Rg.Row encF 3 w A l)(hl:n<=100000)(hs:Sz.Short l)(hm:ks.length=m)(hk:Rg.Row encT 1 w B ks)(hml:m<=100000)(hks:Sz.ShortT ks) :
  Calls Tryz.prog 52 #[.slice A n c,.slice B m d] w (Sz.OrderRet w (ordP ks 0 (-1) l)):=by
 have al:∀ (fn:Fn) (first cap:Array Value) (w:World),(Instr.makeFunc fn first cap).run Tryz.prog w=.ok (.func fn first cap) w:=fun _ _ _ _=>rfl
 obtain⟨W1,ab⟩:=ex (w.alloc (.cells #[.int .i64 0] 3))
 obtain⟨W2,af⟩:=ex (W1.alloc (.cells #[.int .i64 0] 32))
 have aa:Hid (∀ u,Below W2.heap.size W2 u->P2 w.heap.size u):=fun u hb=>yw ab af hb
 have am:W1.heap.size=w.heap.size+1:=by rw[<-ab];simp
 have ac:Hid (Below w.heap.size w W2):=(ag ab).trans ((ag af).mono (ag ab).size)
 have ad:=zh (nC A n c l B m d ks W2 hn (Rg.ai hr ac.out) hl hs hm (Rg.ai hk ac.out) hml hks)
 obtain⟨X,hX⟩:=ex (ordP ks 0 (-1) l)
 rw[hX]
 have ah:Hid (X.2=0->X.1=0):=by rw[<-hX];exact qM ks l 0 (-1)
 rw[hX] at ad
 clear hX hn hr hl hs hm hk hml hks
 go_enter_defers Tryz.func52,Tryz.ntmps52
 go_wp2_with fail
 clear ab af
 refine ad.out.mono ?_
 rintro e z1 ⟨hb,hr⟩
 have HB:=zh hb
 clear hb ad
 obtain⟨n,k⟩:=X
 dsimp only at hr ah
 by_cases hk:k=0
 ·subst hk
  obtain rfl:=ah.out rfl
  obtain rfl:e=.returned (.tuple #[]):=by rw[if_pos rfl] at hr;exact hr
  obtain⟨c0,f0,c1,f1⟩:=bC (aa.out _ HB.out)
  obtain⟨d0,g0,d1,g1⟩:=bD (aa.out _ HB.out) (.int .i64 0)
  have ae:=zh (ns (aa.out _ HB.out))
  have ak:Hid (Below w.heap.size w ((z1.setCell ⟨w.heap.size,0,none⟩ (.int .i64 0)).setCell ⟨w.heap.size+1,0,none⟩ (.int .i64 0))):=((bt ac.out HB.out).setCell (Nat.le_refl _) _).setCell (Nat.le_succ _) _
  clear hr
  go_wp2_with fail
  generalize (z1.setCell ⟨w.heap.size,0,none⟩ (.int .i64 0)).setCell ⟨w.heap.size+1,0,none⟩ (.int .i64 0)=V at *
  obtain⟨k0,m0,k1,m1⟩:=bC ae.out
  obtain⟨l0,o0,l1,o1⟩:=bD ae.out (.int .i64 0)
  obtain⟨q0,q1⟩:=eI ae.out (.int .i64 0) (.int .i64 0)
  refine leaves_cons (f:=93) (args:=#[.pointer (some ⟨w.heap.size,0,none⟩),.pointer (some ⟨w.heap.size+1,0,none⟩)]) (by simp) (by simp[go_sem]) ?_
  refine (vA ⟨w.heap.size,0,none⟩ ⟨w.heap.size+1,0,none⟩ 0 0 _ k0 m0 l1 o1).mono ?_
  rintro e u' w3 ⟨rfl,rfl,rfl⟩
  simp[Leaves,settle,results,Tryz.results52,go_sem,q0,q1]
  exact⟨rfl,(ak.out.setCell (Nat.le_refl _) _).setCell (Nat.le_succ _) _⟩
 ·obtain rfl:e=panAt n k:=by rw[if_neg hk] at hr;exact hr
  clear hr hk
  go_wp2_with fail
  refine leaves_cons (f:=93) (args:=#[.pointer (some ⟨w.heap.size,0,none⟩),.pointer (some ⟨w.heap.size+1,0,none⟩)]) (by simp) (by simp[go_sem]) ?_
  refine (rF ⟨w.heap.size,0,none⟩ ⟨w.heap.size+1,0,none⟩ 0 0 n k _ (fun u hb=>(bC (aa.out _ (bt HB.out hb))).1) (fun u hb=>(bC (aa.out _ (bt HB.out hb))).2.1) (fun u hb=>(bD (aa.out _ (bt HB.out hb)) _).2.2.1) (fun u hb=>(bD (aa.out _ (bt HB.out hb)) _).2.2.2)).mono ?_
  rintro e u' w3 ⟨rfl,rfl,u,hb,rfl⟩
  have aj:=zh (bt HB.out hb)
  obtain⟨q0,q1⟩:=eI (aa.out _ aj.out) (.int .i64 n) (.int .i64 k)
  simp[Leaves,settle,results,Tryz.results52,go_sem,q0,q1]
  exact⟨rfl,((bt ac.out aj.out).setCell (Nat.le_refl _) _).setCell (Nat.le_succ _) _⟩
theorem yC (A:Option Addr)(n c:Nat)(l:List Fld)(key:List UInt8)(w:World)(hn:l.length=n)(hr:Rg.Row encF 3 w A l)(hl:n<=100000) :
  Calls Tryz.prog 23 #[.slice A n c,.string ⟨key.toArray⟩] w (Sz.GotRet w (getF l key)):=by
 obtain⟨R,hR⟩:=ex (getF l key)
 rw[hR]
 obtain⟨W1,ac⟩:=ex (w.alloc (.cells #[.string ⟨#[]⟩,.string ⟨#[]⟩,.int .i64 0] 25))
 have aa:Hid (Below w.heap.size w W1):=ag ac
 obtain⟨b0,b1,b2,f0,f1,f2⟩:=dq ac (Below.refl _ _)
 have HR:=zh (Rg.ai hr aa.out)
 have HG:=zh hR
 have HN:=zh hn
 clear hr hR hn
 go_enter Tryz.func23,Tryz.ntmps23
 go_wp2_with fail
 clear ac
 go_loop [6] (fun i=>∃ k:Nat,k<=n/\i=.int .i64 k/\Hid (getF (l.drop k) key=R)) (fun i=>n-(intOf i).toNat)
 case atStart=>exact⟨0,Nat.zero_le _,rfl,HG.out⟩
 case round =>
  obtain⟨k,hk,rfl,HH⟩:=hrel
  by_cases af:k<n
  ·have ae:k<l.length:=by rw[HN.out];exact af
   obtain⟨ad,rfl,_,c0,c1,c2⟩:=bS HR.out k ae
   have hd:l.drop k=l[k] :: l.drop (k+1):=List.drop_eq_getElem_cons ae
   have hh:=HH.out
   rw[hd,qF] at hh
   obtain⟨f,hf⟩:=ex (l[k])
   rw[hf] at c0 c1 c2 hh
   obtain⟨fk,fv,fl⟩:=f
   dsimp only at c0 c1 c2 hh
   clear hd hf
   cases hq:fk==key
   ·have HE:Hid (getF (l.drop (k+1)) key=R):=by show _=_;rw[<-hh,if_neg (by rw[hq];decide)]
    clear hh
    go_wp2_with fail
    go_round
    case rel=>exact⟨k+1,by omega,by go_num,HE⟩
    case measure=>simp[intOf];omega
   ·have HE:Hid (R=some ⟨fk,fv,fl⟩):=by show _=_;rw[<-hh,if_pos hq]
    clear hh
    have ab:Hid (Below w.heap.size w (((W1.setCell ⟨w.heap.size,0,none⟩ (.string ⟨fk.toArray⟩)).setCell ⟨w.heap.size,1,none⟩ (.string ⟨fv.toArray⟩)).setCell ⟨w.heap.size,2,none⟩ (.int .i64 fl))):=((aa.out.setCell (Nat.le_refl _) _).setCell (Nat.le_refl _) _).setCell (Nat.le_refl _) _
    have g0:(((W1.setCell ⟨w.heap.size,0,none⟩ (.string ⟨fk.toArray⟩)).setCell ⟨w.heap.size,1,none⟩ (.string ⟨fv.toArray⟩)).setCell ⟨w.heap.size,2,none⟩ (.int .i64 fl)).cell? ⟨w.heap.size,0,none⟩=some (.string ⟨fk.toArray⟩):=by simp[go_sem,b0]
    have g1:(((W1.setCell ⟨w.heap.size,0,none⟩ (.string ⟨fk.toArray⟩)).setCell ⟨w.heap.size,1,none⟩ (.string ⟨fv.toArray⟩)).setCell ⟨w.heap.size,2,none⟩ (.int .i64 fl)).cell? ⟨w.heap.size,1,none⟩=some (.string ⟨fv.toArray⟩):=by simp[go_sem,b1]
    have g2:(((W1.setCell ⟨w.heap.size,0,none⟩ (.string ⟨fk.toArray⟩)).setCell ⟨w.heap.size,1,none⟩ (.string ⟨fv.toArray⟩)).setCell ⟨w.heap.size,2,none⟩ (.int .i64 fl)).cell? ⟨w.heap.size,2,none⟩=some (.int .i64 fl):=by simp[go_sem,b2]
    go_wp2_with fail
    generalize ((W1.setCell ⟨w.heap.size,0,none⟩ (.string ⟨fk.toArray⟩)).setCell ⟨w.heap.size,1,none⟩ (.string ⟨fv.toArray⟩)).setCell ⟨w.heap.size,2,none⟩ (.int .i64 fl)=V at *
    refine bodyPost_ret (v:=.tuple #[.agg #[.string ⟨fk.toArray⟩,.string ⟨fv.toArray⟩,.int .i64 fl],.bool true]) ?_ rfl ?_
    ·simp[results,Tryz.results23,go_sem,g0,g1,g2]
    ·show GotRet w R _ _
     rw[HE.out];exact⟨rfl,ab.out⟩
  ·obtain rfl:k=n:=by omega
   have HE:Hid (R=none):=by show _=_;rw[<-HH.out,List.drop_eq_nil_of_le (by rw[HN.out];exact Nat.le_refl _)];rfl
   have ab:Hid (Below w.heap.size w (((W1.setCell ⟨w.heap.size,0,none⟩ (.string ⟨#[]⟩)).setCell ⟨w.heap.size,1,none⟩ (.string ⟨#[]⟩)).setCell ⟨w.heap.size,2,none⟩ (.int .i64 0))):=((aa.out.setCell (Nat.le_refl _) _).setCell (Nat.le_refl _) _).setCell (Nat.le_refl _) _
   have g0:(((W1.setCell ⟨w.heap.size,0,none⟩ (.string ⟨#[]⟩)).setCell ⟨w.heap.size,1,none⟩ (.string ⟨#[]⟩)).setCell ⟨w.heap.size,2,none⟩ (.int .i64 0)).cell? ⟨w.heap.size,0,none⟩=some (.string ⟨#[]⟩):=by simp[go_sem,b0]
   have g1:(((W1.setCell ⟨w.heap.size,0,none⟩ (.string ⟨#[]⟩)).setCell ⟨w.heap.size,1,none⟩ (.string ⟨#[]⟩)).setCell ⟨w.heap.size,2,none⟩ (.int .i64 0)).cell? ⟨w.heap.size,1,none⟩=some (.string ⟨#[]⟩):=by simp[go_sem,b1]
   have g2:(((W1.setCell ⟨w.heap.size,0,none⟩ (.string ⟨#[]⟩)).setCell ⟨w.heap.size,1,none⟩ (.string ⟨#[]⟩)).setCell ⟨w.heap.size,2,none⟩ (.int .i64 0)).cell? ⟨w.heap.size,2,none⟩=some (.int .i64 0):=by simp[go_sem,b2]
   go_wp2_with fail
   generalize ((W1.setCell ⟨w.heap.size,0,none⟩ (.string ⟨#[]⟩)).setCell ⟨w.heap.size,1,none⟩ (.string ⟨#[]⟩)).setCell ⟨w.heap.size,2,none⟩ (.int .i64 0)=V at *
   refine bodyPost_ret (v:=.tuple #[.agg #[.string ⟨#[]⟩,.string ⟨#[]⟩,.int .i64 0],.bool false]) ?_ rfl ?_
   ·simp[results,Tryz.results23,go_sem,g0,g1,g2]
   ·show GotRet w R _ _
    rw[HE.out];exact⟨rfl,ab.out⟩
def Sz.lastAt (ks:List (List UInt8)) (key:List UInt8) (j:Nat):Int:=match (ks.drop j).findIdx? (. == key) with
 | some p=>((p+j:Nat):Int)
 | none => -1
theorem Sz.yD (ks:List (List UInt8))(key:List UInt8)(j:Nat)(h:ks.length<=j):lastAt ks key j = -1:=by
 unfold lastAt;rw[List.drop_eq_nil_of_le h];rfl
theorem Sz.vB (ks:List (List UInt8))(key:List UInt8)(j:Nat)(h:j<ks.length):lastAt ks key j=if (ks[j]==key)=true then (j:Int) else lastAt ks key (j+1):=by
 unfold lastAt
 rw[List.drop_eq_getElem_cons h,List.findIdx?_cons]
 cases hq:ks[j]==key
 ·rw[if_neg (by decide),if_neg (by decide)]
  cases (ks.drop (j+1)).findIdx? (. == key) with
  | none=>rfl
  | some p=>show ((p+1+j:Nat):Int)=((p+(j+1):Nat):Int);congr 1;omega
 ·rw[if_pos rfl,if_pos rfl];show ((0+j:Nat):Int)=_;rw[Nat.zero_add]
theorem Sz.qN {w u:World}{B:Nat}(h:Below B w u)(n:Nat):Below B w (u.drewN n):=below_drewN h n
theorem tV (A:Option Addr)(n c:Nat)(l:List Fld)(B:Option Addr)(m d:Nat)(ks:List (List UInt8))(w:World)(hn:l.length=n)(hr:Rg.Row encF 3 w A l)(hl:n<=100000)(hm:ks.length=m)(hk:Rg.Row encT 1 w B ks)(hml:m<=100000) :
  Calls Tryz.prog 21 #[.slice A n c,.slice B m d] w (Sz.OrderRet w (ordP ks 0 (-1) l)):=by
 obtain⟨R,hR⟩:=ex (ordP ks 0 (-1) l)
 rw[hR]
 have HG:=zh hR
 have HR:=zh hr
 have HK:=zh hk
 have HN:=zh hn
 have HM:=zh hm
 clear hR hr hn hm hk
 go_enter Tryz.func21,Tryz.ntmps21
 go_wp2_with fail
 go_loopw [6,7] (fun v i wr=>∃ (k:Nat) (x:Int),k<=n/\i=.int .i64 k/\v=.int .i64 x/\-1<=x/\x<=1000000/\Hid (Below w.heap.size w wr)/\Hid (ordP ks k x (l.drop k)=R)) (fun _ i _=>n-(intOf i).toNat)
 case atStart=>exact⟨0,-1,Nat.zero_le _,rfl,rfl,by decide,by decide,Below.refl _ _,HG.out⟩
 case round =>
  obtain⟨k,x,hk,rfl,rfl,aq,ar,HW,HH⟩:=hrel
  by_cases ak:k<n
  ·have aa:k<l.length:=by rw[HN.out];exact ak
   obtain⟨ad,rfl,_,c0,c1,c2⟩:=bS (Rg.ai HR.out HW.out) k aa
   have hd:l.drop k=l[k] :: l.drop (k+1):=List.drop_eq_getElem_cons aa
   have hh:=HH.out
   rw[hd,lO] at hh
   obtain⟨f,hf⟩:=ex (l[k])
   rw[hf] at c0 c1 c2 hh
   obtain⟨fk,fv,fl⟩:=f
   dsimp only at c0 c1 c2 hh
   have al:=zh hh
   have am:Hid (∀ u,Below w.heap.size w u->u.cell? (ad.add (k*3))=some (.string ⟨fk.toArray⟩)):=fun u hb=>by
    obtain⟨au,e2,_,c2,_⟩:=bS (Rg.ai HR.out hb) k aa
    cases e2
    rw[hf] at c2;exact c2
   clear hd hf hh c0 c1 c2
   go_wp2_with fail
   go_loopw [8,9] (fun a j wr=>∃ (y q:Int),-1<=q/\q<m/\-1<=y/\y<=m/\j=.int .i64 q/\a=.int .i64 y/\Hid (Below w.heap.size w wr)/\Hid (lastAt ks fk (q+1).toNat=y)) (fun _ j _=>(intOf j+1).toNat)
   case atStart=>exact⟨-1,(m:Int)-1,by omega,by omega,by decide,by omega,rfl,rfl,HW.out,yD _ _ _ (by rw[HM.out];omega)⟩
   case round =>
    obtain⟨y,q,av,aw,ao,ap,rfl,rfl,HI,HA⟩:=hrel
    obtain⟨_,_,_,c0,_⟩:∃ ad':Addr,ad'=ad'/\True/\wr.cell? (ad.add (k*3))=some (.string ⟨fk.toArray⟩)/\True:=⟨ad,rfl,trivial,am.out _ HI.out,trivial⟩
    by_cases hq:0<=q
    ·obtain⟨i,rfl⟩:∃ i:Nat,q=i:=⟨q.toNat,by omega⟩
     have an:i<m:=by omega
     have ab:i<ks.length:=by rw[HM.out];exact an
     obtain⟨ae,rfl,_,e0⟩:=Sz.bU (Rg.ai HK.out HI.out) i ab
     have hs:=vB ks fk i ab
     have hy:=HA.out
     have et:((i:Int)+1).toNat=i+1:=by omega
     have ac:((i:Int)-1+1).toNat=i:=by omega
     rw[et] at hy
     rw[hy] at hs
     obtain⟨kk,aj⟩:=ex (ks[i])
     rw[aj] at e0 hs
     have af:=zh ac
     clear hy et ac aj
     cases ag:kk==fk
     ·have HS:Hid (lastAt ks fk i=y):=by show _=_;rw[hs,if_neg (by rw[ag];decide)]
      clear hs
      go_wp2_with fail
      go_quiet (fail)
      go_wp2_with fail
      go_roundw
      case rel=>exact⟨y,(i:Int)-1,by omega,by omega,ao,ap,by go_num,rfl,qN HI.out _,by show lastAt _ _ _=_;rw[af.out];exact HS.out⟩
      case measure=>simp[intOf]
     ·have HS:Hid (lastAt ks fk i=i):=by show _=_;rw[hs,if_pos ag]
      clear hs
      go_wp2_with fail
      go_quiet (fail)
      go_wp2_with fail
      go_roundw
      case rel=>exact⟨i,(i:Int)-1,by omega,by omega,by omega,by omega,by go_num,rfl,qN HI.out _,by show lastAt _ _ _=_;rw[af.out];exact HS.out⟩
      case measure=>simp[intOf]
    ·obtain rfl:q = -1:=by omega
     have hy:(match placeOf ks fk with | some p=>(p:Int) | none => -1)=y:=HA.out
     have hh:=al.out
     cases hp:placeOf ks fk with
     | none =>
      rw[hp] at hy hh
      dsimp only at hy hh
      subst hy
      have HE:=zh hh
      clear hh hp
      go_wp2_with fail
      go_ret2
      rw[<-HE.out]
      exact⟨rfl,HI.out⟩
     | some p =>
      rw[hp] at hy hh
      dsimp only at hy hh
      subst hy
      clear hp
      by_cases ah:x<p
      ·have d0:decide ((p:Int)<=x)=false:=decide_eq_false (by omega)
       have HE:Hid (ordP ks (k+1) p (l.drop (k+1))=R):=by rw[if_pos ah] at hh;exact hh
       clear hh
       go_wp2_with fail
       go_roundw
       case rel=>exact⟨k+1,p,by omega,by go_num,rfl,by omega,by omega,HI,HE⟩
       case measure=>simp[intOf];omega
      ·have d0:decide ((p:Int)<=x)=true:=decide_eq_true (by omega)
       have HE:Hid (((k:Int),(7:Int))=R):=by rw[if_neg ah] at hh;exact hh
       clear hh
       go_wp2_with fail
       go_ret2
       rw[<-HE.out]
       exact⟨rfl,HI.out⟩
  ·obtain rfl:k=n:=by omega
   have HE:Hid (R=(0,0)):=by show _=_;rw[<-HH.out,List.drop_eq_nil_of_le (by rw[HN.out];exact Nat.le_refl _)];rfl
   go_wp2_with fail
   go_ret2
   rw[HE.out]
   exact⟨rfl,HW.out⟩
end
section
open Go.RowKit Rs Sz
attribute [local go_sem ↓] Go.wp_at_zero Go.wp_at_succ
theorem Sz.jV {α:Type}{enc:α->List Value}{K:Nat}{T:TypeId}{v:Value}{l:List α}{w wr wq W5:World}{o:Obj}(hB:Hid (Below w.heap.size w wr/\w.heap.size<=wr.heap.size))(hq:Below wr.heap.size wr wq)(hO:Hid (Rg.Own enc K wr w.heap.size T v l))(hg:(wq.alloc o).grownBy W5 v.ownBlock) :
  Hid (Below w.heap.size w W5/\w.heap.size<=W5.heap.size):=by
 have hs:w.heap.size<=wq.heap.size:=Nat.le_trans hB.out.2 hq.size
 have h1:Below w.heap.size w (wq.alloc o):=(hB.out.1.trans (hq.mono hB.out.2)).alloc hs _
 have e:(wq.alloc o).heap.size=wq.heap.size+1:=by simp
 have h2:w.heap.size<=(wq.alloc o).heap.size:=by omega
 exact⟨h1.trans (Rg.ao (Rg.own_below hO.out (hq.alloc hq.size _)) h2 hg),Nat.le_trans h2 hg.size⟩
end
section
open Go.RowKit Go.Maps Sz
attribute [local go_sem ↓] Go.wp_at_zero Go.wp_at_succ
variable {TO TF:TypeId}
def Sz.Tri (b:Nat) (k v:List UInt8) (n:Int) (T:TypeId) (u:World):Prop:=u.heap[b]?=some (.cells #[.string ⟨k.toArray⟩,.string ⟨v.toArray⟩,.int .i64 n] T (0,0))
theorem Sz.aek {w W1:World}{k v:List UInt8}{n:Int}{T:TypeId}(h:w.alloc (.cells #[.string ⟨k.toArray⟩,.string ⟨v.toArray⟩,.int .i64 n] T)=W1):Tri w.heap.size k v n T W1:=by
 subst h;exact heap_alloc_new w _
theorem Sz.aaP {b:Nat}{k v:List UInt8}{n:Int}{T:TypeId}{u:World}(h:Tri b k v n T u):u.cell? ⟨b,0,none⟩=some (.string ⟨k.toArray⟩)/\u.cell? ⟨b,1,none⟩=some (.string ⟨v.toArray⟩)/\u.cell? ⟨b,2,none⟩=some (.int .i64 n)/\u.frozen? ⟨b,0,none⟩=false/\u.frozen? ⟨b,1,none⟩=false/\u.frozen? ⟨b,2,none⟩=false:=by
 unfold Tri at h
 refine⟨?_,?_,?_,?_,?_,?_⟩ <;> simp[World.cell?,World.frozen?,h]
end
end Go.Proofs.YtkaeamjnphaadaaGreatDoor
namespace Go.Proofs
open Go.Shelf
def Tryz.mM:Go.Shelf.Ren:=⟨fun | 166=>35 | 240=>82 | 276=>131 | n=>n,fun | 0=>0 | 3=>3 | 4=>4 | 5=>5 | 9=>9 | 20=>20 | 37=>87 | 70=>86 | 72=>89 | 75=>91 | 80=>94 | 164=>201 | n=>n,fun | n=>n⟩
theorem Tryz.lays166:Go.Proofs.Lays.n166 Tryz.prog Tryz.mM:=YtkaeamjnphaadaaGreatDoor.zl
theorem Tryz.mn:Builder.Extra Tryz.prog Tryz.mM where
 sizeBuilder:=by kernel_rfl
 liesBuilder:=by kernel_rfl
 t5:=Tryz.underlying5
 a5:=Tryz.isAgg5
 z5:=Tryz.sizeOf5
 v5:=Tryz.zeroValue5
 infoByte:=by kernel_rfl
 cellsByte:=by kernel_rfl
 sizeByte:=by kernel_rfl
 neB5:=by decide
open Go.RowKit in
theorem Tryz.Builder_WriteString_kc (B b:Nat)(bs:List Value)(s:ByteArray)(w:World)(h:Lib.IsBuilderF 89 5 B b bs w)(hlen:bs.length+s.size<=140737488355328)(hBw:B<=w.heap.size) :
  Calls Tryz.prog 35 #[.pointer (some ⟨b,0,none⟩),.string s] w fun e w'=>e=.returned (.tuple #[.int .i64 s.size,.nilIface])/\(Lib.BuilderAtF 89 5 B b (.pointer (some ⟨b,0,none⟩)) (bs++Lib.strCells s) w'/\Below B w w'/\Lib.OthersKept 5 (some b) w w')/\∀ v0,w.cell? ⟨b,1,none⟩=some v0->∃ v1,w'.cell? ⟨b,1,none⟩=some v1/\v0.capOf<=v1.capOf:=Any.Builder_WriteString_kc Tryz.lays166 Tryz.mn B b bs s w h hlen hBw
end Go.Proofs
namespace Go.Proofs.YtkaeamjnphaadaaGreatDoor
section
open Go.RowKit Sz
def Sz.Bld (w:World) (t:List UInt8) (u:World):Prop:=Lib.IsBuilderF 89 5 w.heap.size w.heap.size (Lib.byteCells t) u/\Below w.heap.size w u
theorem Sz.ael {w W1:World}(h:w.alloc (.cells #[.pointer none,.slice none 0 0] 89)=W1):Bld w [] W1:=by
 subst h
 exact⟨Lib.IsBuilderF.of (Lib.fresh_isBuilder _ _ w),(Below.refl _ _).alloc (Nat.le_refl _) _⟩
theorem Sz.rG (t s:List UInt8):Lib.byteCells t++Lib.strCells ⟨s.toArray⟩=Lib.byteCells (t++s):=by
 unfold Lib.byteCells Lib.strCells
 simp
theorem Sz.aaQ {u u':World}{B b:Nat}{p:Value}{bs:List Value}(h:Lib.BuilderAtF 89 5 B b p bs u)(hb:Below u.heap.size u u'):Lib.BuilderAtF 89 5 B b p bs u':=by
 have ab:=h.lt
 obtain⟨hB,v,hk,aa,ac⟩:=h
 refine⟨hB,v,(hb.block _ ab).trans hk,aa.kept (row:=none) ⟨hb.os,hb.tape,hb.output,hb.size,fun k hk _=>hb.block k hk⟩ ?_,ac⟩
 cases v.ownBlock with
 | none=>exact Or.inl rfl
 | some x=>exact Or.inr (by simp)
theorem Sz.qO {w u u':World}{t:List UInt8}(h:Bld w t u)(hb:Below u.heap.size u u'):Bld w t u' :=
 ⟨h.1.elim (fun x=>.inl (aaQ x hb)) (fun x=>.inr (aaQ x hb)),h.2.trans (hb.mono h.2.size)⟩
theorem Sz.aaR {w u:World}{t:List UInt8}(h:Bld w t u):w.heap.size<u.heap.size:=h.1.elim (fun x=>x.lt) (fun x=>x.lt)
theorem Sz.cL {w u:World}{t:List UInt8}(h:Bld w t u)(s:List UInt8)(hl:t.length+s.length<=10000000) :
  Calls Tryz.prog 35 #[.pointer (some ⟨w.heap.size,0,none⟩),.string ⟨s.toArray⟩] u fun e u'=>e=.returned (.tuple #[.int .i64 s.length,.nilIface])/\Bld w (t++s) u'/\Lib.OthersKept 5 (some w.heap.size) u u':=by
 refine (Tryz.Builder_WriteString_kc w.heap.size w.heap.size (Lib.byteCells t) ⟨s.toArray⟩ u h.1 (by
  have:(Lib.byteCells t).length=t.length:=by unfold Lib.byteCells;simp
  rw[this];show t.length+s.toArray.size<=_;rw[List.size_toArray];omega) h.2.size).mono ?_
 rintro e u' ⟨rfl,⟨hb,hB,hk⟩,_⟩
 refine⟨by show _=Ending.returned (.tuple #[.int .i64 s.toArray.size,.nilIface]);rfl,⟨?_,h.2.trans hB⟩,hk⟩
 rw[<-rG]
 exact .inr hb
theorem Sz.yE {w u:World}{t:List UInt8}(h:Bld w t u) :
  Calls Tryz.prog 36 #[.pointer (some ⟨w.heap.size,0,none⟩)] u fun e u'=>e=.returned (.string ⟨t.toArray⟩)/\Bld w t u':=by
 refine (Tryz.Builder_String_any_k w.heap.size w.heap.size t u h.1 h.2.size).mono ?_
 rintro e u' ⟨rfl,hb,hB,_⟩
 exact⟨rfl,hb,h.2.trans hB⟩
end
section
open Go.RowKit Go.Maps Sz
attribute [local go_sem ↓] Go.wp_at_zero Go.wp_at_succ
def Sz.FBk (b:Nat) (k v:List UInt8) (n:Int) (u:World):Prop:=u.heap[b]?=some (.cells #[.string ⟨k.toArray⟩,.string ⟨v.toArray⟩,.int .i64 n] 53 (0,0))
theorem Sz.wZ {w W1:World}{k v:List UInt8}{n:Int}(h:w.alloc (.cells #[.string ⟨k.toArray⟩,.string ⟨v.toArray⟩,.int .i64 n] 53)=W1):FBk w.heap.size k v n W1:=by
 subst h;exact heap_alloc_new w _
theorem Sz.c8 {b:Nat}{k v:List UInt8}{n:Int}{u:World}(h:FBk b k v n u):u.cell? ⟨b,0,none⟩=some (.string ⟨k.toArray⟩)/\u.cell? ⟨b,1,none⟩=some (.string ⟨v.toArray⟩)/\u.cell? ⟨b,2,none⟩=some (.int .i64 n):=by
 unfold FBk at h
 refine⟨?_,?_,?_⟩ <;> simp[World.cell?,h]
theorem Sz.ft {b c:Nat}{k v:List UInt8}{n:Int}{u u':World}(h:FBk b k v n u)(hk:Lib.OthersKept 5 (some c) u u')(hne:c<b):FBk b k v n u' :=
 hk b _ h (by simp;omega) (fun cs fz e=>by
  have:=(Obj.cells.inj e).2.1
  exact absurd this (by decide))
theorem Sz.lP (l:List Fld)(i:Nat)(hi:i<l.length):stanzaT (l.take (i+1))=stanzaT (l.take i)++fieldT l[i]:=by
 rw[List.take_succ_eq_append_getElem hi,lE]
theorem Sz.o5 (l:List Fld)(i:Nat):(stanzaT (l.take i)).length<=(stanzaT l).length:=by
 have h:stanzaT l=stanzaT (l.take i)++stanzaT (l.drop i):=by
  unfold stanzaT;rw[<-List.flatMap_append,List.take_append_drop]
 rw[h,List.length_append];omega
theorem Sz.yF (t:List (List Fld))(k:Nat)(hk:k<t.length):textS (t.take (k+1))=textS (t.take k)++(if k=0 then [] else [10])++stanzaT t[k]:=by
 rw[List.take_succ_eq_append_getElem hk,dR]
 by_cases h:k=0
 ·subst h;rw[if_pos rfl];rfl
 ·rw[if_neg h,if_neg]
  simp;exact⟨h,fun e=>by subst e;simp at hk⟩
theorem Sz.lQ (a:List (List Fld)):∀ n (b:List (List Fld)),b.length=n->(textS a).length<=(textS (a++b)).length
 | 0,b,h=>by rw[List.length_eq_zero_iff.1 h,List.append_nil];exact Nat.le_refl _
 | n+1,b,h=>by
  rcases List.eq_nil_or_concat b with rfl | ⟨c,x,rfl⟩
  ·simp at h
  ·rw[List.concat_eq_append] at h ⊢
   have hc:c.length=n:=by simp at h;exact h
   have ih:=lQ a n c hc
   rw[<-List.append_assoc,dR,List.length_append]
   split
   ·rename_i he
    have:a++c=[]:=by simpa using he
    rw[this] at ih
    have h0:(textS ([]:List (List Fld))).length=0:=rfl
    omega
   ·rw[List.length_append];omega
theorem Sz.acK (t:List (List Fld))(k:Nat):(textS (t.take k)).length<=(textS t).length:=by
 have:=lQ (t.take k) _ (t.drop k) rfl
 rwa [List.take_append_drop] at this
theorem Sz.aem {w:World}{A:Option Addr}{t:List (List Fld)}(h:Gr.Row encF 3 w A t)(k:Nat)(hk:k<t.length):∃ ad C n c,A=some ad/\t[k].length=n/\Rg.Row encF 3 w C t[k]/\∀ u,Below w.heap.size w u->u.cell? (ad.add k)=some (.slice C n c):=by
 obtain⟨ds,h1,h2,h3⟩:=h
 have aa:k<ds.length:=by omega
 obtain⟨ad,e,_,_⟩:=h1 (by omega)
 obtain⟨q1,q2⟩:=h3 k ds[k] t[k] (List.getElem?_eq_getElem aa) (List.getElem?_eq_getElem hk)
 refine⟨ad,ds[k].1,ds[k].2.1,ds[k].2.2,e,q1.symm,q2,fun u hb=>?_⟩
 obtain⟨ab,x,e',hx,_,hc⟩:=Rg.cz (Rg.ai h1 hb) k aa
 rw[e] at e';cases e'
 have:=hc 0 _ rfl
 rw[if_pos rfl,Nat.mul_one] at this
 rw[hx];exact this
theorem o6 (A:Option Addr)(n c:Nat)(t:List (List Fld))(w:World)(hn:t.length=n)(hr:Gr.Row encF 3 w A t)(hl:n<=1000000)(hls:∀ l∈t,l.length<=1000000)(ht:(textS t).length<=1000000) :
  Calls Tryz.prog 13 #[.slice A n c] w fun e w'=>e=.returned (.string ⟨(textS t).toArray⟩)/\Below w.heap.size w w':=by
 obtain⟨R,hR⟩:=ex (textS t)
 rw[hR] at ht
 rw[hR]
 have aP:=zh hR
 obtain⟨W1,aL⟩:=ex (w.alloc (.cells #[.pointer none,.slice none 0 0] 89))
 have aQ:Hid (Bld w [] W1):=ael aL
 have HR:=zh hr
 have HN:=zh hn
 have HL:=zh hls
 have HT:=zh ht
 have aR:Hid (∀ k,(textS (t.take k)).length<=R.length):=fun k=>by rw[<-hR];exact acK t k
 clear hr hn hls ht hR
 go_enter Tryz.func13,Tryz.ntmps13
 go_wp2_with fail
 clear aL
 go_loopw [10] (fun i wr=>∃ k:Nat,k<=n/\i=.int .i64 k/\Hid (Bld w (textS (t.take k)) wr)) (fun i _=>n-(intOf i).toNat)
 case atStart=>exact⟨0,Nat.zero_le _,rfl,aQ.out⟩
 case round =>
  obtain⟨k,hk,rfl,HW⟩:=hrel
  by_cases aS:k<n
  ·have az:k<t.length:=by rw[HN.out];exact aS
   obtain⟨ad,C,m,d,rfl,hm,an,af⟩:=aem HR.out k az
   have hc:=af _ HW.out.2
   have ah:=yF t k az
   have hle:=aR.out (k+1)
   have aA:=HL.out _ (List.getElem_mem az)
   obtain⟨l,aM⟩:=ex (t[k])
   rw[aM] at hm an ah aA
   rw[ah,List.length_append,List.length_append] at hle
   obtain⟨T1,aN⟩:=ex (textS (t.take k))
   rw[aN] at ah hle HW
   have ap:=zh an
   have HM:=zh hm
   have aV:m<=1000000:=by rw[<-hm];exact aA
   clear af aM hm an aA aN
   by_cases ao:k=0
   ·have d0:decide (0<k)=false:=decide_eq_false (by omega)
    have aB:Hid (Bld w T1 wr):=HW.out
    have ax:Hid (textS (t.take (k+1))=T1++stanzaT l):=by show _=_;rw[ah,if_pos ao,List.append_nil]
    have aC:Hid (T1.length+(stanzaT l).length<=R.length):=by show _<=_;rw[if_pos ao] at hle;have h0:([]:List UInt8).length=0:=rfl;omega
    clear ah hle ao
    go_wp2_with fail
    go_loopw [20] (fun j wr=>∃ i:Nat,i<=m/\j=.int .i64 i/\Hid (Bld w (T1++stanzaT (l.take i)) wr)) (fun j _=>m-(intOf j).toNat)
    case atStart=>exact⟨0,Nat.zero_le _,rfl,by show Bld w (T1++[]) _;rw[List.append_nil];exact aB.out⟩
    case round =>
     obtain⟨i,hi,rfl,HI⟩:=hrel
     by_cases aj:i<m
     ·have aq:i<l.length:=by rw[HM.out];exact aj
      obtain⟨ae,rfl,_,c0,c1,c2⟩:=bS (Rg.ai ap.out HI.out.2) i aq
      have ab:=lP l i aq
      have ak:=o5 l (i+1)
      obtain⟨f,hf⟩:=ex (l[i])
      rw[hf] at c0 c1 c2 ab
      obtain⟨fk,fv,fl⟩:=f
      have al:fieldT ⟨fk,fv,fl⟩=fk++[58,32]++fv++[10]:=rfl
      rw[ab,al] at ak
      have ar:Hid (T1++stanzaT (l.take (i+1))=T1++stanzaT (l.take i)++fk++[58,32]++fv++[10]):=by show _=_;rw[ab,al];simp only[List.append_assoc]
      obtain⟨S,hS⟩:=ex (T1++stanzaT (l.take i))
      rw[hS] at ar HI
      have ac:Hid (S.length+fk.length+2+fv.length+1<=1000000):=by
       have h1:=aC.out;have h2:=HT.out
       show _<=_
       rw[<-hS];simp only[List.length_append,List.length_cons,List.length_nil] at ak ⊢;omega
      dsimp only at c0 c1 c2
      obtain⟨V,hV⟩:=ex (wr.alloc (.cells #[.string ⟨fk.toArray⟩,.string ⟨fv.toArray⟩,.int .i64 fl] 53))
      have au:Hid (FBk wr.heap.size fk fv fl V):=wZ hV
      have aD:Hid (Bld w S V):=qO HI.out (ag hV)
      have am:Hid (w.heap.size<wr.heap.size):=aaR HI.out
      obtain⟨v0,v1,v2⟩:=c8 au.out
      have x1:=zh (cL aD.out fk (by have:=ac.out;omega))
      clear ab ak hf al hS
      go_wp2_with fail
      clear hV v0 v1 v2
      refine x1.out.mono ?_
      rintro _ y1 ⟨rfl,hb,aa⟩
      have aE:=zh hb
      have av:=zh (ft au.out aa am.out)
      obtain⟨v0,v1,v2⟩:=c8 av.out
      clear hb aa
      clear x1
      go_wp2_with fail
      clear v0 v1 v2
      refine (cL aE.out [58,32] (by have:=ac.out;simp only[List.length_append,List.length_cons,List.length_nil];omega)).mono ?_
      rintro _ y2 ⟨rfl,hb,aa⟩
      have aF:=zh hb
      have aw:=zh (ft av.out aa am.out)
      obtain⟨v0,v1,v2⟩:=c8 aw.out
      clear hb aa
      go_wp2_with fail
      clear v0 v1 v2
      refine (cL aF.out fv (by have:=ac.out;simp only[List.length_append,List.length_cons,List.length_nil];omega)).mono ?_
      rintro _ y3 ⟨rfl,hb,aa⟩
      have aG:=zh hb
      have aH:=zh (ft aw.out aa am.out)
      obtain⟨v0,v1,v2⟩:=c8 aH.out
      clear hb aa
      go_wp2_with fail
      clear v0 v1 v2
      refine (cL aG.out [10] (by have:=ac.out;simp only[List.length_append,List.length_cons,List.length_nil];omega)).mono ?_
      rintro _ y4 ⟨rfl,hb,aa⟩
      have aI:=zh hb
      clear hb aa
      go_wp2_with fail
      go_roundw
      case rel=>exact⟨i+1,by omega,by go_num,by show Bld w _ _;rw[ar.out];exact aI.out⟩
      case measure=>simp[intOf];omega
     ·obtain rfl:i=m:=by omega
      have HE:Hid (Bld w (textS (t.take (k+1))) wr):=by
       have h:=HI.out
       rw[List.take_of_length_le (by rw[HM.out];exact Nat.le_refl _),<-ax.out] at h
       exact h
      go_wp2_with fail
      go_roundw
      case rel=>exact⟨k+1,by omega,by go_num,HE⟩
      case measure=>simp[intOf];omega
   ·have d0:decide (0<k)=true:=decide_eq_true (by omega)
    have ax:Hid (textS (t.take (k+1))=(T1++[10])++stanzaT l):=by show _=_;rw[ah,if_neg ao]
    have ay:(T1++[10]).length+(stanzaT l).length<=R.length:=by rw[if_neg ao] at hle;rw[List.length_append];exact hle
    have aK:T1.length+([10]:List UInt8).length<=10000000:=by have:=HT.out;rw[List.length_append] at ay;omega
    have aT:=zh aK
    obtain⟨T2,aJ⟩:=ex (T1++[10])
    rw[aJ] at ax ay
    have aC:Hid (T2.length+(stanzaT l).length<=R.length):=ay
    clear ah hle ao ay aK
    go_wp2_with fail
    refine (cL HW.out [10] aT.out).mono ?_
    rintro _ u1 ⟨rfl,hb,_⟩
    rw[aJ] at hb
    have aB:=zh hb
    clear hb aJ
    go_wp2_with fail
    go_loopw [20] (fun j wr=>∃ i:Nat,i<=m/\j=.int .i64 i/\Hid (Bld w (T2++stanzaT (l.take i)) wr)) (fun j _=>m-(intOf j).toNat)
    case atStart=>exact⟨0,Nat.zero_le _,rfl,by show Bld w (T2++[]) _;rw[List.append_nil];exact aB.out⟩
    case round =>
     obtain⟨i,hi,rfl,HI⟩:=hrel
     by_cases aj:i<m
     ·have aq:i<l.length:=by rw[HM.out];exact aj
      obtain⟨ae,rfl,_,c0,c1,c2⟩:=bS (Rg.ai ap.out HI.out.2) i aq
      have ab:=lP l i aq
      have ak:=o5 l (i+1)
      obtain⟨f,hf⟩:=ex (l[i])
      rw[hf] at c0 c1 c2 ab
      obtain⟨fk,fv,fl⟩:=f
      have al:fieldT ⟨fk,fv,fl⟩=fk++[58,32]++fv++[10]:=rfl
      rw[ab,al] at ak
      have ar:Hid (T2++stanzaT (l.take (i+1))=T2++stanzaT (l.take i)++fk++[58,32]++fv++[10]):=by show _=_;rw[ab,al];simp only[List.append_assoc]
      obtain⟨S,hS⟩:=ex (T2++stanzaT (l.take i))
      rw[hS] at ar HI
      have ac:Hid (S.length+fk.length+2+fv.length+1<=1000000):=by
       have h1:=aC.out;have h2:=HT.out
       show _<=_
       rw[<-hS];simp only[List.length_append,List.length_cons,List.length_nil] at ak ⊢;omega
      dsimp only at c0 c1 c2
      obtain⟨V,hV⟩:=ex (wr.alloc (.cells #[.string ⟨fk.toArray⟩,.string ⟨fv.toArray⟩,.int .i64 fl] 53))
      have au:Hid (FBk wr.heap.size fk fv fl V):=wZ hV
      have aD:Hid (Bld w S V):=qO HI.out (ag hV)
      have am:Hid (w.heap.size<wr.heap.size):=aaR HI.out
      obtain⟨v0,v1,v2⟩:=c8 au.out
      have x1:=zh (cL aD.out fk (by have:=ac.out;omega))
      clear ab ak hf al hS
      go_wp2_with fail
      clear hV v0 v1 v2
      refine x1.out.mono ?_
      rintro _ y1 ⟨rfl,hb,aa⟩
      have aE:=zh hb
      have av:=zh (ft au.out aa am.out)
      obtain⟨v0,v1,v2⟩:=c8 av.out
      clear hb aa
      clear x1
      go_wp2_with fail
      clear v0 v1 v2
      refine (cL aE.out [58,32] (by have:=ac.out;simp only[List.length_append,List.length_cons,List.length_nil];omega)).mono ?_
      rintro _ y2 ⟨rfl,hb,aa⟩
      have aF:=zh hb
      have aw:=zh (ft av.out aa am.out)
      obtain⟨v0,v1,v2⟩:=c8 aw.out
      clear hb aa
      go_wp2_with fail
      clear v0 v1 v2
      refine (cL aF.out fv (by have:=ac.out;simp only[List.length_append,List.length_cons,List.length_nil];omega)).mono ?_
      rintro _ y3 ⟨rfl,hb,aa⟩
      have aG:=zh hb
      have aH:=zh (ft aw.out aa am.out)
      obtain⟨v0,v1,v2⟩:=c8 aH.out
      clear hb aa
      go_wp2_with fail
      clear v0 v1 v2
      refine (cL aG.out [10] (by have:=ac.out;simp only[List.length_append,List.length_cons,List.length_nil];omega)).mono ?_
      rintro _ y4 ⟨rfl,hb,aa⟩
      have aI:=zh hb
      clear hb aa
      go_wp2_with fail
      go_roundw
      case rel=>exact⟨i+1,by omega,by go_num,by show Bld w _ _;rw[ar.out];exact aI.out⟩
      case measure=>simp[intOf];omega
     ·obtain rfl:i=m:=by omega
      have HE:Hid (Bld w (textS (t.take (k+1))) wr):=by
       have h:=HI.out
       rw[List.take_of_length_le (by rw[HM.out];exact Nat.le_refl _),<-ax.out] at h
       exact h
      go_wp2_with fail
      go_roundw
      case rel=>exact⟨k+1,by omega,by go_num,HE⟩
      case measure=>simp[intOf];omega
  ·obtain rfl:k=n:=by omega
   have HE:Hid (Bld w R wr):=by
    have h:=HW.out
    rw[List.take_of_length_le (by rw[HN.out];exact Nat.le_refl _),aP.out] at h
    exact h
   go_wp2_with fail
   refine (yE HE.out).mono ?_
   rintro _ u2 ⟨rfl,aO⟩
   have aU:=zh aO
   clear aO
   go_wp2_with fail
   go_ret
   exact⟨rfl,aU.out.2⟩
theorem Sz.afb {w:World}{A:Option Addr}{l:List Fld}(h:Rg.Row encF 3 w A l){k:Nat}(hk:k<l.length){ad:Addr}{f:Fld}(hA:A=some ad)(hf:l[k]=f){u:World}(hb:Below w.heap.size w u) :
  u.cell? (ad.add (k*3))=some (.string ⟨f.key.toArray⟩)/\u.cell? ⟨(ad.add (k*3)).block,(ad.add (k*3)).off+1,none⟩=some (.string ⟨f.val.toArray⟩)/\u.cell? ⟨(ad.add (k*3)).block,(ad.add (k*3)).off+2,none⟩=some (.int .i64 f.line):=by
 obtain⟨aa,e,_,h1,h2,h3⟩:=bS (Rg.ai h hb) k hk
 rw[hA] at e;cases e
 rw[hf] at h1 h2 h3
 exact⟨h1,h2,h3⟩
theorem Sz.sliceGF:Rg.SliceT Tryz.prog encF 3 36 53:=sliceF
theorem aen (A:Option Addr)(n c:Nat)(l:List Fld)(w:World)(hn:l.length=n)(hr:Rg.Row encF 3 w A l)(hl:n<=100000) :
  Calls Tryz.prog 6 #[.slice A n c] w fun e w'=>∃ C d,e=.returned (.slice C n d)/\Rg.Row encF 3 w' C l/\Below w.heap.size w w':=by
 subst hn
 have HR:=zh hr
 clear hr
 go_enter Tryz.func6,Tryz.ntmps6
 go_wp2_with fail
 go_loopw [3,4] (fun v i wr=>∃ k:Nat,k<=l.length/\i=.int .i64 k/\Hid (Rg.Own encF 3 wr w.heap.size 53 v (l.take k))/\Hid (Below w.heap.size w wr/\w.heap.size<=wr.heap.size)) (fun _ i _=>l.length-(intOf i).toNat)
 case atStart=>exact⟨0,Nat.zero_le _,rfl,Rg.az _ _ _,Below.refl _ _,Nat.le_refl _⟩
 case round =>
  obtain⟨k,hk,rfl,HO,HB⟩:=hrel
  by_cases ae:k<l.length
  ·have af:(l.take k).length+1<=1000000:=by rw[List.length_take];omega
   obtain⟨ad,rfl,_,_⟩:=bS HR.out k ae
   have ag:Hid (l.take (k+1)=l.take k++[l[k]]):=List.take_succ_eq_append_getElem ae
   have H3:=zh (fun u hb=>afb HR.out ae rfl rfl (u:=u) hb)
   obtain⟨f,hf⟩:=ex (l[k])
   rw[hf] at ag H3
   obtain⟨fk,fv,fl⟩:=f
   dsimp only at H3
   obtain⟨pre,aa⟩:=ex (l.take k)
   rw[aa] at ag HO af
   have am:=zh af
   have HD:Hid (Below w.heap.size w wr.drew):=HB.out.1.drew
   have HS:Hid (w.heap.size<=wr.drew.heap.size):=HB.out.2
   obtain⟨c0,c1,c2⟩:=H3.out _ HB.out.1
   have k0:(0:Int)<=(k:Int):=by omega
   have k1:(k:Int)<(l.length:Int):=by omega
   have ai:w.heap.size<=(wr.drew.alloc (.cells #[.string ⟨fk.toArray⟩,.string ⟨fv.toArray⟩,.int .i64 fl] 53)).heap.size:=Nat.le_trans HS.out ((Below.refl _ _).alloc (Nat.le_refl _) _:Below wr.drew.heap.size wr.drew _).size
   have an:=zh ai
   clear hf aa af ai
   go_wp2_with fail
   go_region_held3 (fun w'=>w'.cell? (ad.add (k*3))=some (.string ⟨fk.toArray⟩)/\w'.cell? ⟨(ad.add (k*3)).block,(ad.add (k*3)).off+1,none⟩=some (.string ⟨fv.toArray⟩)/\w'.cell? ⟨(ad.add (k*3)).block,(ad.add (k*3)).off+2,none⟩=some (.int .i64 fl))
    (first
     | exact H3.out _ HD.out
     | exact H3.out _ (HD.out.alloc HS.out _)
     | exact H3.out _ aj.out.1)
    ((refine Rg.cB sliceGF (by rfl) (.tmp 11) (.tmp 28) (by rfl) w.heap.size u3 pre [(⟨fk,fv,fl⟩:Fld)] (by rfl) (Rg.own_below HO.out ((Below.refl _ _).drew.alloc (Nat.le_refl _) _)) _ _ (by rfl) (Rg.av wr.drew _ [(⟨fk,fv,fl⟩:Fld)] _ (by rfl)) (Nat.zero_lt_succ _) am.out an.out ?_;intro v5 W5 ak al ao;have aj:=Sz.jV HB (Below.refl _ _).drew HO al))
   have ac:Hid (Rg.Own encF 3 W5 w.heap.size 53 v5 (l.take (k+1))):=by show Rg.Own _ _ _ _ _ _ _;rw[ag.out];exact ak
   clear ak al ao c0 c1 c2 HD HS
   go_wp2_with fail
   go_roundw
   case rel=>exact⟨k+1,by omega,by go_num,ac,aj⟩
   case measure=>simp[intOf];omega
  ·obtain rfl:k=l.length:=by omega
   have ac:Rg.Own encF 3 wr w.heap.size 53 u3 l:=by have:=HO.out;rwa [List.take_length] at this
   clear HO
   obtain⟨C,d,rfl,ab,_,_⟩:=Rg.aE fitsF ac
   have ah:=zh ab
   clear ac ab
   go_wp2_with fail
   go_ret
   exact⟨C,d,rfl,ah.out,HB.out.1⟩
theorem Sz.acL {u:World}(A:Option Addr)(n c:Nat)(l:List Fld)(B:Option Addr)(m d:Nat)(ks:List (List UInt8))(hn:l.length=n)(hr:Rg.Row encF 3 u A l)(hl:n<=100000)(hs:Short l)(hm:ks.length=m)(hk:Rg.Row encT 1 u B ks)(hml:m<=100000)(hks:ShortT ks){i e0:Int}(hX:ordP ks 0 (-1) l=(i,e0)) :
  Calls Tryz.prog 52 #[.slice A n c,.slice B m d] u fun e w'=>e=.returned (.tuple #[.int .i64 i,.int .i64 e0])/\Below u.heap.size u w' :=
 (oZ A n c l B m d ks u hn hr hl hs hm hk hml hks).mono fun e w' ⟨he,hb⟩=>by
  rw[hX] at he
  exact⟨he,hb⟩
theorem Sz.nD {l:List Fld}(h:l.all (fun f=>decide (f.key.length<=140737488355328)&&decide (f.val.length<=140737488355328))=true):Short l:=fun f hf=>by
 have:=List.all_eq_true.1 h f hf
 rw[Bool.and_eq_true,decide_eq_true_eq,decide_eq_true_eq] at this
 exact this
theorem Sz.ja {w u:World}{B:Nat}(h:Below B w u)(hB:B<=w.heap.size)(o:Obj):Below B w (u.alloc o):=h.alloc (Nat.le_trans hB h.size) _
theorem Sz.aaS {l:List (List UInt8)}(h:l.all (fun k=>decide (k.length<=140737488355328))=true):ShortT l:=fun k hk=>by
 have:=List.all_eq_true.1 h k hk
 rwa [decide_eq_true_eq] at this
theorem Sz.acM {u:World}(A:Option Addr)(n c:Nat)(t:List (List Fld))(hn:t.length=n)(hr:Gr.Row encF 3 u A t)(hl:n<=1000000)(hls:∀ l∈t,l.length<=1000000){T:List UInt8}(hT:textS t=T)(ht:T.length<=1000000) :
  Calls Tryz.prog 13 #[.slice A n c] u fun e w'=>e=.returned (.string ⟨T.toArray⟩)/\Below u.heap.size u w' :=
 (o6 A n c t u hn hr hl hls (by rw[hT];exact ht)).mono fun e w' ⟨he,hb⟩=>by
  rw[hT] at he;exact⟨he,hb⟩
theorem Rg.mh {α:Type}{enc:α->List Value}{K:Nat}(hf:Rg.Fits enc K)(w:World)(T:TypeId)(l:List α)(cs:Array Value)(h:cs.toList=Rg.flat enc l){b:Nat}(hb:w.heap.size=b):Rg.Row enc K (w.alloc (.cells cs T)) (some ⟨b,0,none⟩) l:=by
 subst hb
 intro _
 refine⟨_,rfl,by simp,fun i hi j v hv=>?_⟩
 have hj:j<K:=by rw[<-hf.len l[i]];exact (List.getElem?_eq_some_iff.1 hv).1
 rw[<-Rg.jM]
 exact Rg.av w T l cs h _ _ ((Rg.flat_get hf l i hi j hj).trans hv)
end
end Go.Proofs.YtkaeamjnphaadaaGreatDoor
