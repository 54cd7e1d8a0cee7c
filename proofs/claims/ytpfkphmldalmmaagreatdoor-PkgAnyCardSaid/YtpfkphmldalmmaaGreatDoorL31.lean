/- Part 31 of what the laws lean on. -/
import Derived.Test.YtpfkphmldalmmaaGreatDoorL30
set_option maxRecDepth 100000
set_option maxHeartbeats 6400000
namespace Go.Proofs.YtpfkphmldalmmaaGreatDoor
section
open Go.RowKit Rs At Pg
namespace Pg
theorem jT {B B':Nat}{u:World}{p:Pk}{D C G:Option Addr}(h:PRows B u p D C G)(hB:B'<=B):PRows B' u p D C G :=
 ⟨⟨jR h.1.1 hB,fun a ha=>Nat.le_trans hB (h.1.2 a ha)⟩,⟨h.2.1.1,fun a ha=>Nat.le_trans hB (h.2.1.2 a ha)⟩,⟨h.2.2.1,fun a ha=>Nat.le_trans hB (h.2.2.2 a ha)⟩⟩
abbrev zeroC:Array Value:=#[.string ⟨#[]⟩,.string ⟨#[]⟩,.slice none 0 0,.slice none 0 0,.slice none 0 0,.float .f64 0]
theorem qU (B:Nat)(u:World):PRows B u zeroP none none none :=
 ⟨⟨⟨[],fun h=>absurd h (by decide),⟨rfl,fun i a d h=>by simp at h⟩,fun i a h=>by simp at h⟩,fun a h=>by cases h⟩,⟨⟨[],fun h=>absurd h (by decide),⟨rfl,fun i a d h=>by simp at h⟩⟩,fun a h=>by cases h⟩,⟨fun h=>absurd h (by decide),fun a h=>by cases h⟩⟩
theorem acz {T:TypeId}{w W:World}(h:w.alloc (.cells zeroC T)=W):PBlk T w.heap.size (w.heap.size+1) zeroP W :=
 ⟨none,0,none,0,none,0,by rw[<-h];exact heap_alloc_new w _,qU _ _⟩
abbrev stP (u:World) (b:Nat) (p:Pk) (D C G:Option Addr) (dc cc gc:Nat):World :=
 (((((u.setCell ⟨b,0,none⟩ (.string ⟨p.name.toArray⟩)).setCell ⟨b,1,none⟩ (.string ⟨p.ver.toArray⟩)).setCell ⟨b,2,none⟩ (.slice D p.deps.length dc)).setCell ⟨b,3,none⟩ (.slice C p.confl.length cc)).setCell ⟨b,4,none⟩ (.slice G p.prov.length gc)).setCell ⟨b,5,none⟩ (.float .f64 p.wt)
theorem jU {u:World}{b:Nat}{T:TypeId}(h:u.heap[b]?=some (.cells zeroC T (0,0)))(p:Pk)(D C G:Option Addr)(dc cc gc:Nat):(stP u b p D C G dc cc gc).heap[b]?=some (.cells (pCells p D C G dc cc gc) T (0,0)):=by
 unfold stP
 exact (aG (aG (aG (aG (aG (aG h)))))).trans rfl
theorem fV (u:World)(b:Nat)(p:Pk)(D C G:Option Addr)(dc cc gc:Nat):But (some b) u (stP u b p D C G dc cc gc) :=
 bK (bK (bK (bK (bK (aQ u ⟨b,0,none⟩ _) (aQ _ ⟨b,1,none⟩ _)) (aQ _ ⟨b,2,none⟩ _)) (aQ _ ⟨b,3,none⟩ _)) (aQ _ ⟨b,4,none⟩ _)) (aQ _ ⟨b,5,none⟩ _)
theorem du {T:TypeId}{b:Nat}{u:World}(h:u.heap[b]?=some (.cells zeroC T (0,0))):∀ j x,u.cell? ⟨b,j,none⟩=some x->NoB x:=eV (p:=zeroP) (D:=none) (C:=none) (G:=none) (dc:=0) (cc:=0) (gc:=0) h
theorem iq {B:Nat}{w u:World}{b:Nat}(h:Below B w u)(hb:B<=b)(p:Pk)(D C G:Option Addr)(dc cc gc:Nat):Below B w (stP u b p D C G dc cc gc) :=
 (((((h.setCell (p:=⟨b,0,none⟩) hb _).setCell (p:=⟨b,1,none⟩) hb _).setCell (p:=⟨b,2,none⟩) hb _).setCell (p:=⟨b,3,none⟩) hb _).setCell (p:=⟨b,4,none⟩) hb _).setCell (p:=⟨b,5,none⟩) hb _
theorem aA {u:World}{b:Nat}{T:TypeId}{x0 x1 x2 x3 x4 x5:Value}(h:u.heap[b]?=some (.cells #[x0,x1,x2,x3,x4,x5] T (0,0))):u.cell? ⟨b,0,none⟩=some x0/\u.cell? ⟨b,1,none⟩=some x1/\u.cell? ⟨b,2,none⟩=some x2/\u.cell? ⟨b,3,none⟩=some x3/\u.cell? ⟨b,4,none⟩=some x4/\u.cell? ⟨b,5,none⟩=some x5:=by
 refine⟨?_,?_,?_,?_,?_,?_⟩ <;> simp[World.cell?,h]
theorem av {u:World}{b:Nat}{T:TypeId}{cs:Array Value}(h:u.heap[b]?=some (.cells cs T (0,0)))(j:Nat):u.frozen? ⟨b,j,none⟩=false:=by
 simp[World.frozen?,h]
end Pg
def Pg.ReadRet (w:World) (R:Except (Int × Int) Pk) (e:Ending) (w':World):Prop:=Below w.heap.size w w'/\match R with
 | .ok p=>∃ D dc C cc G gc,e=.returned (.agg (pCells p D C G dc cc gc))/\PRows w.heap.size w' p D C G
 | .error x=>e=panAt x.1 x.2
theorem Pg.acA {u:World}{b:Nat}(h:u.heap[b]?=some (.cells zeroC 34 (0,0)))(p:Pk)(D C G:Option Addr)(dc cc gc:Nat){tmps:Array Value}(ht:tmps.getD 2 undef=.pointer (some ⟨b,0,none⟩)) :
  (results Tryz.f48 tmps).run Tryz.prog (stP u b p D C G dc cc gc)=.ok (.agg (pCells p D C G dc cc gc)) (stP u b p D C G dc cc gc):=by
 obtain⟨g0,g1,g2,g3,g4,g5⟩:=aA (jU h p D C G dc cc gc)
 have hr:Tryz.f48.results=#[.cell 2 34]:=Tryz.results48
 simp only[results,hr]
 generalize stP u b p D C G dc cc gc=V at *
 simp only[Array.getD_eq_getD_getElem?] at ht ⊢
 simp[go_sem,ht,g0,g1,g2,g3,g4,g5]
attribute [local go_sem ↓] Go.wp_at_zero Go.wp_at_succ
attribute [local go_sem] Pg.bd
theorem vW (A:Option Addr)(n c:Nat)(l:List Sz.Fld)(w:World)(hk:KOk w)(hn:l.length=n)(hr:Rg.Row Sz.encF 3 w A l)(hl:n<=1000)(hs:Sz.Short l)(hv:∀ f∈l,ValFit f.key f.val) :
  Calls Tryz.prog 48 #[.slice A n c] w (Pg.ReadRet w (readP l)):=by
 obtain⟨R,hR⟩:=ex (readP l)
 rw[hR]
 unfold readP at hR
 obtain⟨W1,ao⟩:=ex (w.alloc (.cells zeroC 34))
 have aM:Hid (Below w.heap.size w W1):=ai ao
 have HZ:Hid (∀ u,Below W1.heap.size W1 u->u.heap[w.heap.size]?=some (.cells zeroC 34 (0,0))):=fun u hb=>(hb.block _ (by rw[<-ao];simp)).trans (by rw[<-ao];exact heap_alloc_new w _)
 obtain⟨b1,ar⟩:=ex W1.heap.size
 obtain⟨W2,aC⟩:=ex (W1.alloc (.cells #[.string ⟨#[80,97,99,107,97,103,101]⟩,.string ⟨#[86,101,114,115,105,111,110]⟩,.string ⟨#[68,101,112,101,110,100,115]⟩,.string ⟨#[67,111,110,102,108,105,99,116,115]⟩,.string ⟨#[80,114,111,118,105,100,101,115]⟩,.string ⟨#[87,101,105,103,104,116]⟩] 9))
 have aj:Hid (Below W1.heap.size W1 W2):=ai aC
 have aD:Hid (Below w.heap.size w W2):=bt aM.out aj.out
 have aE:Rg.Row encT 1 W2 (some ⟨b1,0,none⟩) keys6:=by rw[<-aC];exact Rg.pQ fitsT W1 9 keys6 _ rfl ar
 obtain⟨X,hX⟩:=ex (Sz.ordP keys6 0 (-1) l)
 rw[hX] at hR
 obtain⟨i0,e0⟩:=X
 dsimp only at hR
 have HO:=zh (Sz.acx (u:=W2) A n c l (some ⟨b1,0,none⟩) 6 6 keys6 hn (Rg.ak hr aD.out) (Nat.le_trans hl (by decide)) hs rfl aE (by decide) (Sz.aaF (by decide +kernel)) hX)
 have HS:=zh hs
 have HV:=zh hv
 have HN:=zh hn
 have au:=zh hr
 have HL:=zh hl
 have HK:=zh hk
 have HR:=zh hR
 have aW:Hid (w.heap.size<b1):=by rw[<-ar,<-ao];show _<_;simp
 have aN:=zh ar
 clear hR hs hv hn hr hl hk hX aE
 go_enter Tryz.func48,Tryz.ntmps48
 go_wp2_with fail
 clear ao aC ar
 refine HO.out.mono ?_
 rintro _ u1 ⟨rfl,hb⟩
 have aF:Hid (Below W1.heap.size W1 u1):=bt aj.out hb
 have ab:Hid (Below w.heap.size w u1):=bt aD.out hb
 clear hb HO
 by_cases he:e0=0
 case neg =>
  have HF:Hid (R=.error (i0,e0)):=by show _=_;rw[<-HR.out,if_neg he]
  have d0:(e0==0)=false:=beq_eq_false_iff_ne.2 he
  clear he
  go_wp2_with fail
  refine (aK _).mono ?_
  rintro _ u2 ⟨rfl,rfl⟩
  go_wp2_with fail
  exact⟨rfl,ab.out,by rw[HF.out]⟩
 subst he
 have al:Hid ((if ((Sz.getF l kPkg).isSome&&(Sz.getF l kVer).isSome)=true then readR 0 zeroP l else .error (0,10))=R):=by show _=_;rw[<-HR.out];rfl
 have aw:Hid (∀ u,Below w.heap.size w u->Calls Tryz.prog 88 #[.slice A n c,.string ⟨#[80,97,99,107,97,103,101]⟩] u fun e w'=>e=.returned (.bool (Sz.getF l kPkg).isSome)/\Below u.heap.size u w'):=fun u hb=>oP A n c l kPkg u HN.out (Rg.ak au.out hb) (Nat.le_trans HL.out (by decide)) HS.out
 have ax:Hid (∀ u,Below w.heap.size w u->Calls Tryz.prog 88 #[.slice A n c,.string ⟨#[86,101,114,115,105,111,110]⟩] u fun e w'=>e=.returned (.bool (Sz.getF l kVer).isSome)/\Below u.heap.size u w'):=fun u hb=>oP A n c l kVer u HN.out (Rg.ak au.out hb) (Nat.le_trans HL.out (by decide)) HS.out
 obtain⟨x,hx⟩:=ex ((Sz.getF l kPkg).isSome)
 obtain⟨y,hy⟩:=ex ((Sz.getF l kVer).isSome)
 rw[hx,hy] at al
 rw[hx] at aw
 rw[hy] at ax
 clear hx hy HR
 go_wp2_with fail
 refine (aS _).mono ?_
 rintro _ u2 ⟨rfl,rfl⟩
 go_wp2_with fail
 refine (aw.out _ ab.out).mono ?_
 rintro _ u2 ⟨rfl,hb⟩
 have aG:Hid (Below W1.heap.size W1 u2):=bt aF.out hb
 have ac:Hid (Below w.heap.size w u2):=bt ab.out hb
 clear hb aw aF ab
 cases x
 ·have HF:Hid (R=.error (0,10)):=al.out.symm
  go_wp2_with fail
  refine (aK _).mono ?_
  rintro _ u3 ⟨rfl,rfl⟩
  go_wp2_with fail
  exact⟨rfl,ac.out,by rw[HF.out]⟩
 go_wp2_with fail
 refine (ax.out _ ac.out).mono ?_
 rintro _ u3 ⟨rfl,hb⟩
 have ap:Hid (Below W1.heap.size W1 u3):=bt aG.out hb
 have aa:Hid (Below w.heap.size w u3):=bt ac.out hb
 clear hb ax aG ac
 cases y
 ·have HF:Hid (R=.error (0,10)):=al.out.symm
  go_wp2_with fail
  refine (aK _).mono ?_
  rintro _ u3 ⟨rfl,rfl⟩
  go_wp2_with fail
  exact⟨rfl,aa.out,by rw[HF.out]⟩
 have aO:Hid (readR 0 zeroP l=R):=al.out
 clear al
 go_wp2_with fail
 refine (aS _).mono ?_
 rintro _ u4 ⟨rfl,rfl⟩
 obtain⟨b,hb⟩:=ex u3.heap.size
 obtain⟨U,hU⟩:=ex (u3.alloc (.cells zeroC 34))
 have aP:Hid (PBlk 34 b (b+1) zeroP U):=by rw[<-hb];exact acz hU
 have ay:Hid (Below W1.heap.size W1 U/\Below w.heap.size w U):=⟨ap.out.trans ((ai hU).mono ap.out.size),aa.out.trans ((ai hU).mono aa.out.size)⟩
 have af:Hid (W1.heap.size<=b/\w.heap.size<=b/\U.heap.size=b+1):=⟨by rw[<-hb];exact ap.out.size,by rw[<-hb];exact aa.out.size,by rw[<-hU,<-hb];simp⟩
 clear ap aa
 go_wp2_with fail
 clear hU hb
 go_loopw [28] (fun i wr=>∃ (k:Nat) (p:Pk),k<=n/\i=.int .i64 k/\Hid (PBlk 34 b (b+1) p wr)/\Hid (Below b U wr/\b+1<=wr.heap.size)/\Hid (readR k p (l.drop k)=R)) (fun i _=>n-(intOf i).toNat)
 case atStart=>exact⟨0,zeroP,Nat.zero_le _,rfl,aP,⟨Below.refl _ _,Nat.le_of_eq af.out.2.2.symm⟩,by show readR _ _ (l.drop 0)=R;rw[List.drop_zero,aO.out]⟩
 case round =>
  obtain⟨k,p,hk,rfl,HP,ag,HE⟩:=hrel
  have az:Hid (Below w.heap.size w wr):=ay.out.2.trans (ag.out.1.mono af.out.2.1)
  have aY:=HL.out
  by_cases aH:k<n
  ·have aI:=zh aH
   have aB:k<l.length:=by rw[HN.out];exact aH
   obtain⟨ad,rfl,_,q0,q1,q2⟩:=Sz.cV (Rg.ak au.out az.out) k aB
   have am:=HV.out _ (List.getElem_mem aB)
   have he:=HE.out
   rw[List.drop_eq_getElem_cons aB] at he
   obtain⟨f,hf⟩:=ex (l[k])
   rw[hf] at am he q0 q1 q2
   obtain⟨fk,fv,fl⟩:=f
   dsimp only at am q0 q1 q2
   obtain⟨V,hV⟩:=ex (wr.alloc (.cells #[.string ⟨fk.toArray⟩,.string ⟨fv.toArray⟩,.int .i64 fl] 56))
   have aq:Hid (Below wr.heap.size wr V):=ai hV
   have aJ:=zh (cq HP.out aq.out)
   have an:Hid (Below b U V/\b+1<=V.heap.size):=⟨ag.out.1.trans (aq.out.mono (Nat.le_trans (Nat.le_succ _) ag.out.2)),Nat.le_trans ag.out.2 aq.out.size⟩
   obtain⟨v0,v1,v2,_⟩:=Sz.aaB (Sz.adU hV)
   have HT:=zh (vT b (b+1) fk fv k p V (aX HK.out (bt az.out aq.out)) aJ.out (Nat.lt_succ_self b) an.out.2 am)
   obtain⟨E,hE⟩:=ex (takeR p fk fv)
   rw[hE] at HT
   cases E with
   | error e =>
    have HF:Hid (R=.error ((k:Int),e)):=by show _=_;rw[<-he];exact vJ hE
    clear he hf am hE
    go_wp2_with fail
    refine HT.out.mono ?_
    rintro r u5 ⟨ah,rfl⟩
    have aQ:Hid (Below w.heap.size w u5):=ay.out.2.trans ((an.out.1.trans ah).mono af.out.2.1)
    clear ah
    go_wp2_with fail
    exact⟨rfl,aQ.out,by rw[HF.out]⟩
   | ok q =>
    have aR:Hid (readR (k+1) q (l.drop (k+1))=R):=by show _=_;rw[<-he];exact (jP (f:=⟨fk,fv,fl⟩) hE).symm
    clear he hf am hE
    go_wp2_with fail
    refine HT.out.mono ?_
    rintro r u5 ⟨ah,rfl,aL⟩
    have aT:=zh aL
    have aU:Hid (Below b U u5/\b+1<=u5.heap.size):=⟨an.out.1.trans ah,Nat.le_trans an.out.2 ah.size⟩
    clear ah aL HT HP aJ ag an hV v0 v1 v2 q0 q1 q2
    go_wp2_with fail
    go_roundw
    case rel=>exact⟨k+1,q,(by have:=aI.out;omega),by go_num,aT,aU,aR⟩
    case measure=>have:=aI.out;simp[intOf];omega
  ·obtain rfl:k=n:=by omega
   have HF:Hid (R=.ok p):=by show _=_;rw[<-HE.out,List.drop_eq_nil_of_le (by rw[HN.out];exact Nat.le_refl _)];rfl
   obtain⟨D,dc,C,cc,G,gc,h1,h2⟩:=HP.out
   obtain⟨g0,g1,g2,g3,g4,g5⟩:=aA h1
   have aV:=zh h2
   have ae:Hid (wr.heap[w.heap.size]?=some (.cells zeroC 34 (0,0))):=HZ.out _ (ay.out.1.trans (ag.out.1.mono af.out.1))
   obtain⟨k0,k1,k2,k3,k4,k5⟩:=aA ae.out
   have z0:=av ae.out 0
   have z1:=av ae.out 1
   have z2:=av ae.out 2
   have z3:=av ae.out 3
   have z4:=av ae.out 4
   have z5:=av ae.out 5
   clear h1 h2
   go_wp2_with fail
   (try simp only[Exit.inBlock,Exit.then])
   refine bodyPost_ret (acA ae.out p D C G dc cc gc rfl) rfl ?_
   refine⟨iq az.out (Nat.le_refl _) p D C G dc cc gc,?_⟩
   rw[HF.out]
   exact⟨D,dc,C,cc,G,gc,rfl,jT (bL aV.out (fV wr w.heap.size p D C G dc cc gc) (Nat.lt_succ_of_le af.out.2.1) (du ae.out)) (Nat.le_succ_of_le af.out.2.1)⟩
end
section
open Go.RowKit Rs At Pg
attribute [local go_sem ↓] Go.wp_at_zero Go.wp_at_succ
attribute [local go_sem] Pg.bd
theorem uf (p q:Addr)(x y k n:Int)(w:World)(hc:∀ u,Below w.heap.size w u->u.cell? p=some (.int .i64 x))(hz:∀ u,Below w.heap.size w u->u.frozen? p=false)(hc2:∀ u,Below w.heap.size w u->(u.setCell p (.int .i64 k)).cell? q=some (.int .i64 y))(hz2:∀ u,Below w.heap.size w u->(u.setCell p (.int .i64 k)).frozen? q=false) :
  CallsD Tryz.prog 46 #[.pointer (some p),.pointer (some q)] (.panicking [{ v:=.iface 142 (.agg #[.int .i64 k,.int .i64 n]),recovered:=false }]) w fun e u' w' =>
   e=.returned (.tuple #[])/\u'=.panicking [{ v:=.iface 142 (.agg #[.int .i64 k,.int .i64 n]),recovered:=true }]/\∃ u,Below w.heap.size w u/\w'=(u.setCell p (.int .i64 k)).setCell q (.int .i64 n):=by
 refine callsD_of_wpS Tryz.func46 rfl fun c₀ cs hu=>?_
 apply wpS_region
 simp[wpOpsS,go_sem,recoverD,hu,Tryz.ntmps46]
 refine (eI k n _).mono ?_
 rintro e w' ⟨rfl,hb⟩
 simp[go_sem,hc _ hb,hz _ hb,hc2 _ hb,hz2 _ hb,bodyPostS,results,Tryz.results46]
 exact⟨w',hb,rfl⟩
theorem yA (p q:Addr)(x y:Int)(w:World)(hc:w.cell? p=some (.int .i64 x))(hz:w.frozen? p=false)(hc2:(w.setCell p (.int .i64 0)).cell? q=some (.int .i64 y))(hz2:(w.setCell p (.int .i64 0)).frozen? q=false) :
  CallsD Tryz.prog 46 #[.pointer (some p),.pointer (some q)] .returning w fun e u' w'=>e=.returned (.tuple #[])/\u'=.returning/\w'=(w.setCell p (.int .i64 0)).setCell q (.int .i64 0):=by
 refine callsD_of_wpS Tryz.func46 rfl fun c₀ cs hu=>?_
 apply wpS_region
 simp[wpOpsS,go_sem,recoverD,hu,Tryz.ntmps46]
 refine (ez _).mono ?_
 rintro e w' ⟨rfl,rfl⟩
 cases c₀
 simp_all [go_sem,bodyPostS,results,Tryz.results46]
def Pg.FromRet (w:World) (X:Int × Int × Pk) (e:Ending) (w':World):Prop:=Below w.heap.size w w'/\∃ D dc C cc G gc,e=.returned (.tuple #[.agg (pCells X.2.2 D C G dc cc gc),.int .i64 X.2.1,.int .i64 X.1])/\PRows w.heap.size w' X.2.2 D C G
def Pg.P3 (b:Nat) (u:World):Prop:=u.heap[b]?=some (.cells zeroC 34 (0,0))/\Sz.P2 (b+1) u
theorem Pg.aeT {w W0 W1 W2 u:World}(h0:w.alloc (.cells zeroC 34)=W0)(h1:W0.alloc (.cells #[.int .i64 0] 3)=W1)(h2:W1.alloc (.cells #[.int .i64 0] 36)=W2)(hb:Below W2.heap.size W2 u):P3 w.heap.size u:=by
 have aa:W0.heap.size=w.heap.size+1:=by rw[<-h0];simp
 have ab:W1.heap.size=w.heap.size+2:=by rw[<-h1];simp[aa]
 have ac:W2.heap.size=w.heap.size+3:=by rw[<-h2];simp[ab]
 refine⟨?_,by rw[<-aa];exact Sz.yq h1 h2 hb⟩
 rw[hb.block _ (by omega),(ai h2).block _ (by omega),(ai h1).block _ (by omega),<-h0]
 exact heap_alloc_new w _
theorem Pg.aaG {u:World}{b j k:Nat}{x:Value}(h:u.heap[b]?=some (.cells zeroC 34 (0,0)))(hne:k≠b):(u.setCell ⟨k,j,none⟩ x).heap[b]?=some (.cells zeroC 34 (0,0)) :=
 (Below.heap_setCell u ⟨k,j,none⟩ x b (fun e=>hne e.symm)).trans h
theorem Pg.ad0 {u v:World}{b:Nat}(h:Sz.P2 b u)(h1:v.heap[b]?=u.heap[b]?)(h2:v.heap[b+1]?=u.heap[b+1]?):Sz.P2 b v:=⟨h1.trans h.1,h2.trans h.2⟩
theorem Pg.xi (u:World)(b k:Nat)(p:Pk)(D C G:Option Addr)(dc cc gc:Nat)(hk:k<u.heap.size)(hne:k≠b):(stP u b p D C G dc cc gc).heap[k]?=u.heap[k]? :=
 (fV u b p D C G dc cc gc).2 k hk (fun e=>hne (Option.some.inj e).symm)
theorem Pg.xj {u:World}{b:Nat}{x:Int}{T:TypeId}(h:u.heap[b]?=some (.cells #[.int .i64 x] T (0,0))):∀ j y,u.cell? ⟨b,j,none⟩=some y->NoB y:=fun j y hy z e=>by
 subst e
 have:=Sz.gI h rfl hy
 cases this
theorem Pg.xk {u:World}{b c:Nat}{cs:Array Value}{T:TypeId}{x y:Value}(h:u.heap[b]?=some (.cells cs T (0,0)))(h1:c≠b)(h2:c+1≠b):((u.setCell ⟨c,0,none⟩ x).setCell ⟨c+1,0,none⟩ y).heap[b]?=some (.cells cs T (0,0)) :=
 (Below.heap_setCell _ ⟨c+1,0,none⟩ y b (fun e=>h2 e.symm)).trans ((Below.heap_setCell u ⟨c,0,none⟩ x b (fun e=>h1 e.symm)).trans h)
theorem Pg.ug {B b:Nat}{u:World}{p:Pk}{D C G:Option Addr}{x y:Int}(h:PRows B u p D C G)(h2:Sz.P2 b u)(hlt:b+1<B):PRows B ((u.setCell ⟨b,0,none⟩ (.int .i64 x)).setCell ⟨b+1,0,none⟩ (.int .i64 y)) p D C G:=by
 have r1:=bL h (aQ u ⟨b,0,none⟩ (.int .i64 x)) (Nat.lt_of_succ_lt hlt) (xj h2.1)
 have e2:(u.setCell ⟨b,0,none⟩ (.int .i64 x)).heap[b+1]?=some (.cells #[.int .i64 0] 36 (0,0)):=(Below.heap_setCell u ⟨b,0,none⟩ _ (b+1) (by show b+1≠b;omega)).trans h2.2
 exact bL r1 (aQ _ ⟨b+1,0,none⟩ (.int .i64 y)) hlt (xj e2)
theorem vX (A:Option Addr)(n c:Nat)(l:List Sz.Fld)(w:World)(hk:KOk w)(hn:l.length=n)(hr:Rg.Row Sz.encF 3 w A l)(hl:n<=1000)(hs:Sz.Short l)(hv:∀ f∈l,ValFit f.key f.val) :
  Calls Tryz.prog 12 #[.slice A n c] w (Pg.FromRet w (fromP l)):=by
 have aD:∀ (fn:Fn) (first cap:Array Value) (w:World),(Instr.makeFunc fn first cap).run Tryz.prog w=.ok (.func fn first cap) w:=fun _ _ _ _=>rfl
 obtain⟨X,hX⟩:=ex (fromP l)
 rw[hX]
 unfold fromP at hX
 obtain⟨W0,af⟩:=ex (w.alloc (.cells zeroC 34))
 obtain⟨W1,ag⟩:=ex (W0.alloc (.cells #[.int .i64 0] 3))
 obtain⟨W2,aj⟩:=ex (W1.alloc (.cells #[.int .i64 0] 36))
 have ad:Hid (∀ u,Below W2.heap.size W2 u->P3 w.heap.size u):=fun u hb=>aeT af ag aj hb
 have au:W0.heap.size=w.heap.size+1:=by rw[<-af];simp
 have aw:W1.heap.size=w.heap.size+1+1:=by rw[<-ag];simp[au]
 have an:W2.heap.size=w.heap.size+3:=by rw[<-aj];simp[aw]
 have aa:=zh an
 have ah:Hid (Below w.heap.size w W2):=(ai af).trans (((ai ag).trans ((ai aj).mono (ai ag).size)).mono (ai af).size)
 have al:=zh (vW A n c l W2 (aX hk ah.out) hn (Rg.ak hr ah.out) hl hs hv)
 obtain⟨R,hR⟩:=ex (readP l)
 rw[hR] at al hX
 clear hk hn hr hl hs hv hR an
 go_enter_defers Tryz.func12,Tryz.ntmps12
 go_wp2_with fail
 clear af ag aj
 refine al.out.mono ?_
 rintro e z1 ⟨hb,hr⟩
 have HB:=zh hb
 clear hb al
 cases R with
 | ok p =>
  obtain⟨D,dc,C,cc,G,gc,rfl,ab⟩:∃ D dc C cc G gc,e=.returned (.agg (pCells p D C G dc cc gc))/\PRows W2.heap.size z1 p D C G:=hr
  have HX:Hid (X=(0,0,p)):=hX.symm
  have h3:=ad.out _ HB.out
  have ao:Hid (w.heap.size+3<=z1.heap.size):=by have:=HB.out.size;rw[aa.out] at this;exact this
  have ae:Hid (Sz.P2 (w.heap.size+1) (stP z1 w.heap.size p D C G dc cc gc)):=ad0 h3.2 (xi _ _ _ _ _ _ _ _ _ _ (by have:=ao.out;omega) (by omega)) (xi _ _ _ _ _ _ _ _ _ _ (by have:=ao.out;omega) (by omega))
  obtain⟨k0,k1,k2,k3,k4,k5⟩:=aA h3.1
  have z0:=av h3.1 0
  have aE:=av h3.1 1
  have z2:=av h3.1 2
  have z3:=av h3.1 3
  have z4:=av h3.1 4
  have z5:=av h3.1 5
  have aF:=zh h3.1
  have aG:=zh ab
  have HS:Hid (PRows w.heap.size (stP z1 w.heap.size p D C G dc cc gc) p D C G):=jT (bL ab (fV z1 w.heap.size p D C G dc cc gc) (by rw[aa.out];omega) (du h3.1)) (by rw[aa.out];omega)
  have ap:Hid (PRows W2.heap.size (stP z1 w.heap.size p D C G dc cc gc) p D C G):=bL ab (fV z1 w.heap.size p D C G dc cc gc) (by rw[aa.out];omega) (du h3.1)
  have aq:Hid (Below w.heap.size w (stP z1 w.heap.size p D C G dc cc gc)):=iq (bt ah.out HB.out) (Nat.le_refl _) p D C G dc cc gc
  have ar:=zh (jU h3.1 p D C G dc cc gc)
  obtain⟨V,hV⟩:=ex (stP z1 w.heap.size p D C G dc cc gc)
  rw[hV] at ae HS ap aq ar
  obtain⟨c0,f0,c1,f1⟩:=Sz.bl ae.out
  obtain⟨d0,g0,d1,g1⟩:=Sz.bm ae.out (.int .i64 0)
  have ac:=zh (Sz.m9 ae.out)
  unfold stP at hV
  clear h3 ab hX
  go_wp2_with fail
  have ax:Hid (((V.setCell ⟨w.heap.size+1,0,none⟩ (.int .i64 0)).setCell ⟨w.heap.size+1+1,0,none⟩ (.int .i64 0)).heap[w.heap.size]?=some (.cells (pCells p D C G dc cc gc) 34 (0,0))):=xk (c:=w.heap.size+1) ar.out (by omega) (by omega)
  have ay:=zh (ug (x:=0) (y:=0) ap.out ae.out (show w.heap.size+1+1<W2.heap.size by rw[aa.out];omega))
  have az:Hid (Below w.heap.size w ((V.setCell ⟨w.heap.size+1,0,none⟩ (.int .i64 0)).setCell ⟨w.heap.size+1+1,0,none⟩ (.int .i64 0))):=(aq.out.setCell (by show w.heap.size<=w.heap.size+1;omega) _).setCell (by show w.heap.size<=w.heap.size+1+1;omega) _
  generalize (V.setCell ⟨w.heap.size+1,0,none⟩ (.int .i64 0)).setCell ⟨w.heap.size+1+1,0,none⟩ (.int .i64 0)=V2 at *
  obtain⟨k0,m0,k1,m1⟩:=Sz.bl ac.out
  obtain⟨l0,o0,l1,o1⟩:=Sz.bm ac.out (.int .i64 0)
  obtain⟨q0,q1⟩:=Sz.eo ac.out (.int .i64 0) (.int .i64 0)
  have aB:=zh (xk (c:=w.heap.size+1) (x:=.int .i64 0) (y:=.int .i64 0) ax.out (by omega) (by omega))
  have aC:=zh (ug (x:=0) (y:=0) ay.out ac.out (show w.heap.size+1+1<W2.heap.size by rw[aa.out];omega))
  obtain⟨s0,s1,s2,s3,s4,s5⟩:=aA aB.out
  refine leaves_cons (f:=46) (args:=#[.pointer (some ⟨w.heap.size+1,0,none⟩),.pointer (some ⟨w.heap.size+1+1,0,none⟩)]) (by simp) (by simp[go_sem]) ?_
  refine (yA ⟨w.heap.size+1,0,none⟩ ⟨w.heap.size+1+1,0,none⟩ 0 0 _ k0 m0 l1 o1).mono ?_
  rintro e u' w3 ⟨rfl,rfl,rfl⟩
  simp[Leaves,settle,results,Tryz.results12,go_sem,q0,q1,s0,s1,s2,s3,s4,s5]
  rw[HX.out]
  exact⟨(az.out.setCell (by show w.heap.size<=w.heap.size+1;omega) _).setCell (by show w.heap.size<=w.heap.size+1+1;omega) _,D,dc,C,cc,G,gc,rfl,jT aC.out (by rw[aa.out];omega)⟩
 | error x =>
  obtain⟨i0,k⟩:=x
  obtain rfl:e=panAt i0 k:=hr
  have HX:Hid (X=(k,i0,zeroP)):=hX.symm
  clear hX
  go_wp2_with fail
  refine leaves_cons (f:=46) (args:=#[.pointer (some ⟨w.heap.size+1,0,none⟩),.pointer (some ⟨w.heap.size+1+1,0,none⟩)]) (by simp) (by simp[go_sem]) ?_
  refine (uf ⟨w.heap.size+1,0,none⟩ ⟨w.heap.size+1+1,0,none⟩ 0 0 i0 k _ (fun u hb=>(Sz.bl (ad.out _ (bt HB.out hb)).2).1) (fun u hb=>(Sz.bl (ad.out _ (bt HB.out hb)).2).2.1) (fun u hb=>(Sz.bm (ad.out _ (bt HB.out hb)).2 _).2.2.1) (fun u hb=>(Sz.bm (ad.out _ (bt HB.out hb)).2 _).2.2.2)).mono ?_
  rintro e u' w3 ⟨rfl,rfl,u,hb,rfl⟩
  have am:=zh (bt HB.out hb)
  obtain⟨q0,q1⟩:=Sz.eo (ad.out _ am.out).2 (.int .i64 i0) (.int .i64 k)
  obtain⟨k0,k1,k2,k3,k4,k5⟩:=aA (aaG (j:=0) (x:=.int .i64 k) (aaG (j:=0) (x:=.int .i64 i0) (ad.out _ am.out).1 (show w.heap.size+1≠w.heap.size by omega)) (show w.heap.size+1+1≠w.heap.size by omega))
  simp[Leaves,settle,results,Tryz.results12,go_sem,q0,q1,k0,k1,k2,k3,k4,k5]
  rw[HX.out]
  exact⟨((bt ah.out am.out).setCell (by show w.heap.size<=w.heap.size+1;omega) _).setCell (by show w.heap.size<=w.heap.size+1+1;omega) _,none,0,none,0,none,0,rfl,qU _ _⟩
end
section
open Go.RowKit Rs At Pg
namespace Pg
def gvT (g:Gv):List UInt8:=if g.ver=[] then g.name else g.name++[32,61,32]++g.ver
def depT (d:List Atm):List UInt8:=Lib.join (d.map textA) [32,111,114,32]
def ATxt (l:List Atm):Prop:=∀ a∈l,a.name.length<=100/\a.rng.length<=64/\checkR a.rng=0
def GTxt (l:List Gv):Prop:=∀ g∈l,g.name.length<=1000/\g.ver.length<=1000
def DTxt (t:List (List Atm)):Prop:=∀ d∈t,d.length<=1000/\ATxt d/\(depT d).length<=1000000
end Pg
attribute [local go_sem ↓] Go.wp_at_zero Go.wp_at_succ
theorem uh (g:Gv)(w:World)(h1:g.name.length<=1000)(h2:g.ver.length<=1000) :
  Calls Tryz.prog 44 #[.agg #[.string ⟨g.name.toArray⟩,.string ⟨g.ver.toArray⟩]] w fun e w'=>e=.returned (.string ⟨(gvT g).toArray⟩)/\Below w.heap.size w w':=by
 obtain⟨nm,v⟩:=g
 dsimp only at h1 h2 ⊢
 obtain⟨R,hR⟩:=ex (gvT ⟨nm,v⟩)
 rw[hR]
 unfold gvT at hR
 dsimp only at hR
 obtain⟨V,hV⟩:=ex (w.alloc (.cells #[.string ⟨nm.toArray⟩,.string ⟨v.toArray⟩] 58))
 have HB:Hid (Below w.heap.size w V):=ai hV
 obtain⟨c0,c1⟩:=aB hV (Below.refl _ _)
 by_cases e2:v=[]
 ·have e:(v==[])=true:=by rw[e2];rfl
  rw[if_pos e2] at hR
  subst hR
  clear e2
  go_enter Tryz.func44,Tryz.ntmps44
  go_wp2_with fail
  refine (aV nm _ (by omega)).mono ?_
  rintro _ u ⟨rfl,hb⟩
  have HU:Hid (Below w.heap.size w u):=bt HB.out hb
  clear hb
  go_wp2_with fail
  go_ret
  exact⟨rfl,HU.out⟩
 ·have e:(v==[])=false:=beq_eq_false_iff_ne.2 e2
  rw[if_neg e2] at hR
  have HR:=zh hR
  have q1:=iP { data:=nm.toArray } { data:=#[32,61,32] } (by show nm.toArray.size+3<=_;rw[List.size_toArray];omega)
  have q2:=iP ({ data:=nm.toArray }++{ data:=#[32,61,32] }) { data:=v.toArray } (by rw[ByteArray.size_append];show nm.toArray.size+3+v.toArray.size<=_;rw[List.size_toArray,List.size_toArray];omega)
  clear e2 hR
  go_enter Tryz.func44,Tryz.ntmps44
  go_wp2_with fail
  go_ret
  rw[<-HR.out]
  exact⟨congrArg (fun x=>Ending.returned (Value.string x)) (cat3 nm [32,61,32] v),HB.out⟩
theorem ki (sep:List UInt8)(A:Option Addr)(n c:Nat)(l:List Atm)(w:World)(hw:MaxOk w)(hn:l.length=n)(hr:ARow w A l)(hl:n<=1000)(hg:ATxt l)(hj:(Lib.join (l.map textA) sep).length<=1000000) :
  Calls Tryz.prog 41 #[.slice A n c,.func (.func 42) #[] #[],.string ⟨sep.toArray⟩] w fun e w'=>e=.returned (.string ⟨(Lib.join (l.map textA) sep).toArray⟩)/\Below w.heap.size w w':=by
 have HM:=zh hw
 have HR:=zh hr
 have HN:=zh hn
 have HG:=zh hg
 have HJ:=zh hj
 clear hw hr hn hg hj
 go_enter Tryz.func41,Tryz.ntmps41
 go_wp2_with fail
 go_loopw [7,12] (fun v i wr=>∃ k:Nat,k<=n/\i=.int .i64 k/\Hid (Rg.Own encT 1 wr w.heap.size 9 v ((l.take k).map textA))/\Hid (Below w.heap.size w wr/\w.heap.size<=wr.heap.size)) (fun _ i _=>n-(intOf i).toNat)
 case atStart=>exact⟨0,Nat.zero_le _,rfl,Rg.aD _ _ _,Below.refl _ _,Nat.le_refl _⟩
 case round =>
  obtain⟨k,hk,rfl,HO,HB⟩:=hrel
  by_cases am:k<n
  ·have ac:k<l.length:=by rw[HN.out];exact am
   have ab:=HG.out _ (List.getElem_mem ac)
   obtain⟨ad,C,m,d,rfl,hm,hs,hc⟩:=bM HR.out k ac
   obtain⟨c0,c1⟩:=hc _ HB.out.1
   obtain⟨a,ha⟩:=ex (l[k])
   have HS:=zh (fg textA l k ac _ ha)
   obtain⟨tk,ag⟩:=ex ((l.take k).map textA)
   have aj:tk.length+1<=1000000:=by rw[<-ag,List.length_map,List.length_take];omega
   rw[ag] at HS HO
   have ao:=zh aj
   clear ag aj
   rw[ha] at hm hs ab c0
   obtain⟨nm,r⟩:=a
   dsimp only at hm hs ab c0
   obtain⟨V,hV⟩:=ex (wr.alloc (.cells #[.string ⟨nm.toArray⟩,.slice C m d] 66))
   have ae:Hid (Below wr.heap.size wr V):=ai hV
   have af:Hid (Below w.heap.size w V):=HB.out.1.trans (ae.out.mono HB.out.2)
   obtain⟨v0,v1⟩:=aB hV (Below.refl _ _)
   have HT:=zh (s9 nm C m d r V (ah HM.out af.out) ab.1 hm (an hs af.out) (by rw[<-hm];exact ab.2.1) ab.2.2)
   clear hc ha hm hs ab af
   obtain⟨X,hX⟩:=ex (textA ⟨nm,r⟩)
   rw[hX] at HT HS
   clear hX
   go_wp2_with fail
   refine HT.out.mono ?_
   rintro _ u2 ⟨rfl,hb⟩
   have aa:Hid (Below wr.heap.size wr u2):=bt ae.out hb
   clear hb HT
   go_wp2_with (at_builtin;refine Rg.aO sliceTx rfl (.tmp 16) (.tmp 20) rfl w.heap.size _ tk [X] rfl (Rg.own_below HO.out (aa.out.alloc aa.out.size _)) _ _ rfl (Rg.ay u2 _ _ _ (by rfl)) (Nat.zero_lt_succ _) ao.out ?b2 ?_)
   case b2=>have:=HB.out.2;have:=aa.out.size;simp;omega
   intro v5 W5 ak al av
   have ap:=eg HB aa.out HO al
   have aq:Hid (Rg.Own encT 1 W5 w.heap.size 9 v5 ((l.take (k+1)).map textA)):=by show Rg.Own _ _ _ _ _ _ _;rw[HS.out];exact ak
   clear ak al av HO HB aa ae
   go_wp2_with fail
   go_roundw
   case rel=>exact⟨k+1,by omega,by go_num,aq,ap⟩
   case measure=>simp[intOf];omega
  ·obtain rfl:k=n:=by omega
   have ar:Hid (Rg.Own encT 1 wr w.heap.size 9 u7 (l.map textA)):=by
    have:=HO.out
    rwa [List.take_of_length_le (by rw[HN.out];exact Nat.le_refl _)] at this
   have au:Hid ((l.map textA).length<=100000):=by show _<=_;rw[List.length_map,HN.out];omega
   clear HO
   go_wp2_with fail
   refine (gA sep ar.out au.out HJ.out).mono ?_
   rintro _ u ⟨rfl,hb⟩
   have aa:Hid (Below w.heap.size w u):=HB.out.1.trans (hb.mono HB.out.2)
   clear hb
   go_wp2_with fail
   go_ret
   exact⟨rfl,aa.out⟩
theorem mE (A:Option Addr)(n c:Nat)(l:List Atm)(w:World)(hw:MaxOk w)(hn:l.length=n)(hr:ARow w A l)(hl:n<=1000)(hg:ATxt l)(hj:(depT l).length<=1000000) :
  Calls Tryz.prog 18 #[.slice A n c] w fun e w'=>e=.returned (.string ⟨(depT l).toArray⟩)/\Below w.heap.size w w':=by
 have HJ:=zh (ki [32,111,114,32] A n c l w hw hn hr hl hg hj)
 clear hw hn hr hl hg hj
 go_enter Tryz.func18,Tryz.ntmps18
 go_wp2_with fail
 refine HJ.out.mono ?_
 rintro _ u ⟨rfl,hb⟩
 have HU:=zh hb
 clear hb
 go_wp2_with fail
 go_ret
 exact⟨rfl,HU.out⟩
theorem rI (sep:List UInt8)(A:Option Addr)(n c:Nat)(l:List Gv)(w:World)(hw:MaxOk w)(hn:l.length=n)(hr:GRow w A l)(hl:n<=1000)(hg:GTxt l)(hj:(Lib.join (l.map gvT) sep).length<=1000000) :
  Calls Tryz.prog 43 #[.slice A n c,.func (.func 44) #[] #[],.string ⟨sep.toArray⟩] w fun e w'=>e=.returned (.string ⟨(Lib.join (l.map gvT) sep).toArray⟩)/\Below w.heap.size w w':=by
 have HM:=zh hw
 have HR:=zh hr
 have HN:=zh hn
 have HG:=zh hg
 have HJ:=zh hj
 clear hw hr hn hg hj
 go_enter Tryz.func43,Tryz.ntmps43
 go_wp2_with fail
 go_loopw [7,12] (fun v i wr=>∃ k:Nat,k<=n/\i=.int .i64 k/\Hid (Rg.Own encT 1 wr w.heap.size 9 v ((l.take k).map gvT))/\Hid (Below w.heap.size w wr/\w.heap.size<=wr.heap.size)) (fun _ i _=>n-(intOf i).toNat)
 case atStart=>exact⟨0,Nat.zero_le _,rfl,Rg.aD _ _ _,Below.refl _ _,Nat.le_refl _⟩
 case round =>
  obtain⟨k,hk,rfl,HO,HB⟩:=hrel
  by_cases ak:k<n
  ·have ac:k<l.length:=by rw[HN.out];exact ak
   have ab:=HG.out _ (List.getElem_mem ac)
   obtain⟨ad,rfl,hc⟩:=b8 HR.out k ac
   obtain⟨c0,c1⟩:=hc _ HB.out.1
   obtain⟨a,ha⟩:=ex (l[k])
   have HS:=zh (fg gvT l k ac _ ha)
   obtain⟨tk,ae⟩:=ex ((l.take k).map gvT)
   have af:tk.length+1<=1000000:=by rw[<-ae,List.length_map,List.length_take];omega
   rw[ae] at HS HO
   have al:=zh af
   clear ae af
   rw[ha] at ab c0 c1
   obtain⟨V,hV⟩:=ex (wr.alloc (.cells #[.string ⟨a.name.toArray⟩,.string ⟨a.ver.toArray⟩] 58))
   have ag:Hid (Below wr.heap.size wr V):=ai hV
   obtain⟨v0,v1⟩:=aB hV (Below.refl _ _)
   have HT:=zh (uh a V ab.1 ab.2)
   clear hc ha ab
   obtain⟨X,hX⟩:=ex (gvT a)
   rw[hX] at HT HS
   clear hX
   go_wp2_with fail
   refine HT.out.mono ?_
   rintro _ u2 ⟨rfl,hb⟩
   have aa:Hid (Below wr.heap.size wr u2):=bt ag.out hb
   clear hb HT
   go_wp2_with (at_builtin;refine Rg.aO sliceTx rfl (.tmp 16) (.tmp 20) rfl w.heap.size _ tk [X] rfl (Rg.own_below HO.out (aa.out.alloc aa.out.size _)) _ _ rfl (Rg.ay u2 _ _ _ (by rfl)) (Nat.zero_lt_succ _) al.out ?b2 ?_)
   case b2=>have:=HB.out.2;have:=aa.out.size;simp;omega
   intro v5 W5 ah aj aq
   have am:=eg HB aa.out HO aj
   have an:Hid (Rg.Own encT 1 W5 w.heap.size 9 v5 ((l.take (k+1)).map gvT)):=by show Rg.Own _ _ _ _ _ _ _;rw[HS.out];exact ah
   clear ah aj aq HO HB aa ag
   go_wp2_with fail
   go_roundw
   case rel=>exact⟨k+1,by omega,by go_num,an,am⟩
   case measure=>simp[intOf];omega
  ·obtain rfl:k=n:=by omega
   have ao:Hid (Rg.Own encT 1 wr w.heap.size 9 u7 (l.map gvT)):=by
    have:=HO.out
    rwa [List.take_of_length_le (by rw[HN.out];exact Nat.le_refl _)] at this
   have ap:Hid ((l.map gvT).length<=100000):=by show _<=_;rw[List.length_map,HN.out];omega
   clear HO
   go_wp2_with fail
   refine (gA sep ao.out ap.out HJ.out).mono ?_
   rintro _ u ⟨rfl,hb⟩
   have aa:Hid (Below w.heap.size w u):=HB.out.1.trans (hb.mono HB.out.2)
   clear hb
   go_wp2_with fail
   go_ret
   exact⟨rfl,aa.out⟩
theorem ui (sep:List UInt8)(A:Option Addr)(n c:Nat)(l:List (List Atm))(w:World)(hw:MaxOk w)(hn:l.length=n)(hr:Pg.DRow w A l)(hl:n<=1000)(hg:DTxt l)(hj:(Lib.join (l.map depT) sep).length<=1000000) :
  Calls Tryz.prog 40 #[.slice A n c,.func (.func 18) #[] #[],.string ⟨sep.toArray⟩] w fun e w'=>e=.returned (.string ⟨(Lib.join (l.map depT) sep).toArray⟩)/\Below w.heap.size w w':=by
 have HM:=zh hw
 have HR:=zh hr
 have HN:=zh hn
 have HG:=zh hg
 have HJ:=zh hj
 clear hw hr hn hg hj
 go_enter Tryz.func40,Tryz.ntmps40
 go_wp2_with fail
 go_loopw [7,12] (fun v i wr=>∃ k:Nat,k<=n/\i=.int .i64 k/\Hid (Rg.Own encT 1 wr w.heap.size 9 v ((l.take k).map depT))/\Hid (Below w.heap.size w wr/\w.heap.size<=wr.heap.size)) (fun _ i _=>n-(intOf i).toNat)
 case atStart=>exact⟨0,Nat.zero_le _,rfl,Rg.aD _ _ _,Below.refl _ _,Nat.le_refl _⟩
 case round =>
  obtain⟨k,hk,rfl,HO,HB⟩:=hrel
  by_cases ak:k<n
  ·have ac:k<l.length:=by rw[HN.out];exact ak
   have ab:=HG.out _ (List.getElem_mem ac)
   obtain⟨ad,C,m,d,rfl,hm,hs,hc⟩:=bT HR.out k ac
   have c0:=hc _ HB.out.1
   obtain⟨a,ha⟩:=ex (l[k])
   have HS:=zh (fg depT l k ac _ ha)
   obtain⟨tk,ae⟩:=ex ((l.take k).map depT)
   have af:tk.length+1<=1000000:=by rw[<-ae,List.length_map,List.length_take];omega
   rw[ae] at HS HO
   have al:=zh af
   clear ae af
   rw[ha] at hm hs ab
   have ag:Hid (Below wr.heap.size wr wr):=Below.refl _ _
   have HT:=zh (mE C m d a wr (ah HM.out HB.out.1) hm (au hs HB.out.1) (by rw[<-hm];exact ab.1) ab.2.1 ab.2.2)
   clear hc ha hm hs ab
   obtain⟨X,hX⟩:=ex (depT a)
   rw[hX] at HT HS
   clear hX
   go_wp2_with fail
   refine HT.out.mono ?_
   rintro _ u2 ⟨rfl,hb⟩
   have aa:Hid (Below wr.heap.size wr u2):=bt ag.out hb
   clear hb HT
   go_wp2_with (at_builtin;refine Rg.aO sliceTx rfl (.tmp 16) (.tmp 20) rfl w.heap.size _ tk [X] rfl (Rg.own_below HO.out (aa.out.alloc aa.out.size _)) _ _ rfl (Rg.ay u2 _ _ _ (by rfl)) (Nat.zero_lt_succ _) al.out ?b2 ?_)
   case b2=>have:=HB.out.2;have:=aa.out.size;simp;omega
   intro v5 W5 ai aj aq
   have am:=eg HB aa.out HO aj
   have an:Hid (Rg.Own encT 1 W5 w.heap.size 9 v5 ((l.take (k+1)).map depT)):=by show Rg.Own _ _ _ _ _ _ _;rw[HS.out];exact ai
   clear ai aj aq HO HB aa ag
   go_wp2_with fail
   go_roundw
   case rel=>exact⟨k+1,by omega,by go_num,an,am⟩
   case measure=>simp[intOf];omega
  ·obtain rfl:k=n:=by omega
   have ao:Hid (Rg.Own encT 1 wr w.heap.size 9 u7 (l.map depT)):=by
    have:=HO.out
    rwa [List.take_of_length_le (by rw[HN.out];exact Nat.le_refl _)] at this
   have ap:Hid ((l.map depT).length<=100000):=by show _<=_;rw[List.length_map,HN.out];omega
   clear HO
   go_wp2_with fail
   refine (gA sep ao.out ap.out HJ.out).mono ?_
   rintro _ u ⟨rfl,hb⟩
   have aa:Hid (Below w.heap.size w u):=HB.out.1.trans (hb.mono HB.out.2)
   clear hb
   go_wp2_with fail
   go_ret
   exact⟨rfl,aa.out⟩
end
end Go.Proofs.YtpfkphmldalmmaaGreatDoor
