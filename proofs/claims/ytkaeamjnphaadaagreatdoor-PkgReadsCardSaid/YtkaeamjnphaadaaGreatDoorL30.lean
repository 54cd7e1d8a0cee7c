/- Part 30 of what the laws lean on. -/
import Derived.Test.YtkaeamjnphaadaaGreatDoorL29
set_option maxRecDepth 100000
set_option maxHeartbeats 6400000
namespace Go.Proofs.YtkaeamjnphaadaaGreatDoor
section
open Go.RowKit Rs At Pg
namespace Pg
theorem gm {B B':Nat}{u:World}{p:Pk}{D C G:Option Addr}(h:PRows B u p D C G)(hB:B'<=B):PRows B' u p D C G :=
 ⟨⟨gj h.1.1 hB,fun a ha=>Nat.le_trans hB (h.1.2 a ha)⟩,⟨h.2.1.1,fun a ha=>Nat.le_trans hB (h.2.1.2 a ha)⟩,⟨h.2.2.1,fun a ha=>Nat.le_trans hB (h.2.2.2 a ha)⟩⟩
abbrev zeroC:Array Value:=#[.string ⟨#[]⟩,.string ⟨#[]⟩,.slice none 0 0,.slice none 0 0,.slice none 0 0,.float .f64 0]
theorem iW (B:Nat)(u:World):PRows B u zeroP none none none :=
 ⟨⟨⟨[],fun h=>absurd h (by decide),⟨rfl,fun i a d h=>by simp at h⟩,fun i a h=>by simp at h⟩,fun a h=>by cases h⟩,⟨⟨[],fun h=>absurd h (by decide),⟨rfl,fun i a d h=>by simp at h⟩⟩,fun a h=>by cases h⟩,⟨fun h=>absurd h (by decide),fun a h=>by cases h⟩⟩
theorem acN {T:TypeId}{w W:World}(h:w.alloc (.cells zeroC T)=W):PBlk T w.heap.size (w.heap.size+1) zeroP W :=
 ⟨none,0,none,0,none,0,by rw[<-h];exact heap_alloc_new w _,iW _ _⟩
abbrev stP (u:World) (b:Nat) (p:Pk) (D C G:Option Addr) (dc cc gc:Nat):World :=
 (((((u.setCell ⟨b,0,none⟩ (.string ⟨p.name.toArray⟩)).setCell ⟨b,1,none⟩ (.string ⟨p.ver.toArray⟩)).setCell ⟨b,2,none⟩ (.slice D p.deps.length dc)).setCell ⟨b,3,none⟩ (.slice C p.confl.length cc)).setCell ⟨b,4,none⟩ (.slice G p.prov.length gc)).setCell ⟨b,5,none⟩ (.float .f64 p.wt)
theorem fu {u:World}{b:Nat}{T:TypeId}(h:u.heap[b]?=some (.cells zeroC T (0,0)))(p:Pk)(D C G:Option Addr)(dc cc gc:Nat):(stP u b p D C G dc cc gc).heap[b]?=some (.cells (pCells p D C G dc cc gc) T (0,0)):=by
 unfold stP
 exact (aA (aA (aA (aA (aA (aA h)))))).trans rfl
theorem cE (u:World)(b:Nat)(p:Pk)(D C G:Option Addr)(dc cc gc:Nat):But (some b) u (stP u b p D C G dc cc gc) :=
 bV (bV (bV (bV (bV (aN u ⟨b,0,none⟩ _) (aN _ ⟨b,1,none⟩ _)) (aN _ ⟨b,2,none⟩ _)) (aN _ ⟨b,3,none⟩ _)) (aN _ ⟨b,4,none⟩ _)) (aN _ ⟨b,5,none⟩ _)
theorem cP {T:TypeId}{b:Nat}{u:World}(h:u.heap[b]?=some (.cells zeroC T (0,0))):∀ j x,u.cell? ⟨b,j,none⟩=some x->NoB x:=dS (p:=zeroP) (D:=none) (C:=none) (G:=none) (dc:=0) (cc:=0) (gc:=0) h
theorem aI {B:Nat}{w u:World}{b:Nat}(h:Below B w u)(hb:B<=b)(p:Pk)(D C G:Option Addr)(dc cc gc:Nat):Below B w (stP u b p D C G dc cc gc) :=
 (((((h.setCell (p:=⟨b,0,none⟩) hb _).setCell (p:=⟨b,1,none⟩) hb _).setCell (p:=⟨b,2,none⟩) hb _).setCell (p:=⟨b,3,none⟩) hb _).setCell (p:=⟨b,4,none⟩) hb _).setCell (p:=⟨b,5,none⟩) hb _
theorem aL {u:World}{b:Nat}{T:TypeId}{x0 x1 x2 x3 x4 x5:Value}(h:u.heap[b]?=some (.cells #[x0,x1,x2,x3,x4,x5] T (0,0))):u.cell? ⟨b,0,none⟩=some x0/\u.cell? ⟨b,1,none⟩=some x1/\u.cell? ⟨b,2,none⟩=some x2/\u.cell? ⟨b,3,none⟩=some x3/\u.cell? ⟨b,4,none⟩=some x4/\u.cell? ⟨b,5,none⟩=some x5:=by
 refine⟨?_,?_,?_,?_,?_,?_⟩ <;> simp[World.cell?,h]
theorem ay {u:World}{b:Nat}{T:TypeId}{cs:Array Value}(h:u.heap[b]?=some (.cells cs T (0,0)))(j:Nat):u.frozen? ⟨b,j,none⟩=false:=by
 simp[World.frozen?,h]
end Pg
def Pg.ReadRet (w:World) (R:Except (Int × Int) Pk) (e:Ending) (w':World):Prop:=Below w.heap.size w w'/\match R with
 | .ok p=>∃ D dc C cc G gc,e=.returned (.agg (pCells p D C G dc cc gc))/\PRows w.heap.size w' p D C G
 | .error x=>e=panAt x.1 x.2
theorem Pg.acO {u:World}{b:Nat}(h:u.heap[b]?=some (.cells zeroC 31 (0,0)))(p:Pk)(D C G:Option Addr)(dc cc gc:Nat){tmps:Array Value}(ht:tmps.getD 2 undef=.pointer (some ⟨b,0,none⟩)) :
  (results Tryz.f20 tmps).run Tryz.prog (stP u b p D C G dc cc gc)=.ok (.agg (pCells p D C G dc cc gc)) (stP u b p D C G dc cc gc):=by
 obtain⟨g0,g1,g2,g3,g4,g5⟩:=aL (fu h p D C G dc cc gc)
 have hr:Tryz.f20.results=#[.cell 2 31]:=Tryz.results20
 simp only[results,hr]
 generalize stP u b p D C G dc cc gc=V at *
 simp only[Array.getD_eq_getD_getElem?] at ht ⊢
 simp[go_sem,ht,g0,g1,g2,g3,g4,g5]
attribute [local go_sem ↓] Go.wp_at_zero Go.wp_at_succ
attribute [local go_sem] Pg.a8
theorem vC (A:Option Addr)(n c:Nat)(l:List Sz.Fld)(w:World)(hk:KOk w)(hn:l.length=n)(hr:Rg.Row Sz.encF 3 w A l)(hl:n<=1000)(hs:Sz.Short l)(hv:∀ f∈l,ValFit f.key f.val) :
  Calls Tryz.prog 20 #[.slice A n c] w (Pg.ReadRet w (readP l)):=by
 obtain⟨R,hR⟩:=ex (readP l)
 rw[hR]
 unfold readP at hR
 obtain⟨W1,ao⟩:=ex (w.alloc (.cells zeroC 31))
 have aM:Hid (Below w.heap.size w W1):=ag ao
 have HZ:Hid (∀ u,Below W1.heap.size W1 u->u.heap[w.heap.size]?=some (.cells zeroC 31 (0,0))):=fun u hb=>(hb.block _ (by rw[<-ao];simp)).trans (by rw[<-ao];exact heap_alloc_new w _)
 obtain⟨b1,ar⟩:=ex W1.heap.size
 obtain⟨W2,aB⟩:=ex (W1.alloc (.cells #[.string ⟨#[80,97,99,107,97,103,101]⟩,.string ⟨#[86,101,114,115,105,111,110]⟩,.string ⟨#[68,101,112,101,110,100,115]⟩,.string ⟨#[67,111,110,102,108,105,99,116,115]⟩,.string ⟨#[80,114,111,118,105,100,101,115]⟩,.string ⟨#[87,101,105,103,104,116]⟩] 9))
 have ak:Hid (Below W1.heap.size W1 W2):=ag aB
 have aC:Hid (Below w.heap.size w W2):=bt aM.out ak.out
 have aD:Rg.Row encT 1 W2 (some ⟨b1,0,none⟩) keys6:=by rw[<-aB];exact Rg.mh fitsT W1 9 keys6 _ rfl ar
 obtain⟨X,hX⟩:=ex (Sz.ordP keys6 0 (-1) l)
 rw[hX] at hR
 obtain⟨i0,e0⟩:=X
 dsimp only at hR
 have HO:=zh (Sz.acL (u:=W2) A n c l (some ⟨b1,0,none⟩) 6 6 keys6 hn (Rg.ai hr aC.out) (Nat.le_trans hl (by decide)) hs rfl aD (by decide) (Sz.aaS (by decide +kernel)) hX)
 have HS:=zh hs
 have HV:=zh hv
 have HN:=zh hn
 have au:=zh hr
 have HL:=zh hl
 have HK:=zh hk
 have HR:=zh hR
 have aX:Hid (w.heap.size<b1):=by rw[<-ar,<-ao];show _<_;simp
 have aN:=zh ar
 clear hR hs hv hn hr hl hk hX aD
 go_enter Tryz.func20,Tryz.ntmps20
 go_wp2_with fail
 clear ao aB ar
 refine HO.out.mono ?_
 rintro _ u1 ⟨rfl,hb⟩
 have aE:Hid (Below W1.heap.size W1 u1):=bt ak.out hb
 have ab:Hid (Below w.heap.size w u1):=bt aC.out hb
 clear hb HO
 by_cases he:e0=0
 case neg =>
  have HF:Hid (R=.error (i0,e0)):=by show _=_;rw[<-HR.out,if_neg he]
  have d0:(e0==0)=false:=beq_eq_false_iff_ne.2 he
  clear he
  go_wp2_with fail
  refine (aO _).mono ?_
  rintro _ u2 ⟨rfl,rfl⟩
  go_wp2_with fail
  exact⟨rfl,ab.out,by rw[HF.out]⟩
 subst he
 have al:Hid ((if ((Sz.getF l kPkg).isSome&&(Sz.getF l kVer).isSome)=true then readR 0 zeroP l else .error (0,10))=R):=by show _=_;rw[<-HR.out];rfl
 have av:Hid (∀ u,Below w.heap.size w u->Calls Tryz.prog 54 #[.slice A n c,.string ⟨#[80,97,99,107,97,103,101]⟩] u fun e w'=>e=.returned (.bool (Sz.getF l kPkg).isSome)/\Below u.heap.size u w'):=fun u hb=>oT A n c l kPkg u HN.out (Rg.ai au.out hb) (Nat.le_trans HL.out (by decide)) HS.out
 have aw:Hid (∀ u,Below w.heap.size w u->Calls Tryz.prog 54 #[.slice A n c,.string ⟨#[86,101,114,115,105,111,110]⟩] u fun e w'=>e=.returned (.bool (Sz.getF l kVer).isSome)/\Below u.heap.size u w'):=fun u hb=>oT A n c l kVer u HN.out (Rg.ai au.out hb) (Nat.le_trans HL.out (by decide)) HS.out
 obtain⟨x,hx⟩:=ex ((Sz.getF l kPkg).isSome)
 obtain⟨y,hy⟩:=ex ((Sz.getF l kVer).isSome)
 rw[hx,hy] at al
 rw[hx] at av
 rw[hy] at aw
 clear hx hy HR
 go_wp2_with fail
 refine (aV _).mono ?_
 rintro _ u2 ⟨rfl,rfl⟩
 go_wp2_with fail
 refine (av.out _ ab.out).mono ?_
 rintro _ u2 ⟨rfl,hb⟩
 have aF:Hid (Below W1.heap.size W1 u2):=bt aE.out hb
 have ac:Hid (Below w.heap.size w u2):=bt ab.out hb
 clear hb av aE ab
 cases x
 ·have HF:Hid (R=.error (0,10)):=al.out.symm
  go_wp2_with fail
  refine (aO _).mono ?_
  rintro _ u3 ⟨rfl,rfl⟩
  go_wp2_with fail
  exact⟨rfl,ac.out,by rw[HF.out]⟩
 go_wp2_with fail
 refine (aw.out _ ac.out).mono ?_
 rintro _ u3 ⟨rfl,hb⟩
 have ap:Hid (Below W1.heap.size W1 u3):=bt aF.out hb
 have aa:Hid (Below w.heap.size w u3):=bt ac.out hb
 clear hb aw aF ac
 cases y
 ·have HF:Hid (R=.error (0,10)):=al.out.symm
  go_wp2_with fail
  refine (aO _).mono ?_
  rintro _ u3 ⟨rfl,rfl⟩
  go_wp2_with fail
  exact⟨rfl,aa.out,by rw[HF.out]⟩
 have aP:Hid (readR 0 zeroP l=R):=al.out
 clear al
 go_wp2_with fail
 refine (aV _).mono ?_
 rintro _ u4 ⟨rfl,rfl⟩
 obtain⟨b,hb⟩:=ex u3.heap.size
 obtain⟨U,hU⟩:=ex (u3.alloc (.cells zeroC 31))
 have aQ:Hid (PBlk 31 b (b+1) zeroP U):=by rw[<-hb];exact acN hU
 have ax:Hid (Below W1.heap.size W1 U/\Below w.heap.size w U):=⟨ap.out.trans ((ag hU).mono ap.out.size),aa.out.trans ((ag hU).mono aa.out.size)⟩
 have af:Hid (W1.heap.size<=b/\w.heap.size<=b/\U.heap.size=b+1):=⟨by rw[<-hb];exact ap.out.size,by rw[<-hb];exact aa.out.size,by rw[<-hU,<-hb];simp⟩
 clear ap aa
 go_wp2_with fail
 clear hU hb
 go_loopw [28] (fun i wr=>∃ (k:Nat) (p:Pk),k<=n/\i=.int .i64 k/\Hid (PBlk 31 b (b+1) p wr)/\Hid (Below b U wr/\b+1<=wr.heap.size)/\Hid (readR k p (l.drop k)=R)) (fun i _=>n-(intOf i).toNat)
 case atStart=>exact⟨0,zeroP,Nat.zero_le _,rfl,aQ,⟨Below.refl _ _,Nat.le_of_eq af.out.2.2.symm⟩,by show readR _ _ (l.drop 0)=R;rw[List.drop_zero,aP.out]⟩
 case round =>
  obtain⟨k,p,hk,rfl,HP,ah,HE⟩:=hrel
  have az:Hid (Below w.heap.size w wr):=ax.out.2.trans (ah.out.1.mono af.out.2.1)
  have aY:=HL.out
  by_cases aG:k<n
  ·have aH:=zh aG
   have aA:k<l.length:=by rw[HN.out];exact aG
   obtain⟨ad,rfl,_,q0,q1,q2⟩:=Sz.bS (Rg.ai au.out az.out) k aA
   have am:=HV.out _ (List.getElem_mem aA)
   have he:=HE.out
   rw[List.drop_eq_getElem_cons aA] at he
   obtain⟨f,hf⟩:=ex (l[k])
   rw[hf] at am he q0 q1 q2
   obtain⟨fk,fv,fl⟩:=f
   dsimp only at am q0 q1 q2
   obtain⟨V,hV⟩:=ex (wr.alloc (.cells #[.string ⟨fk.toArray⟩,.string ⟨fv.toArray⟩,.int .i64 fl] 53))
   have aq:Hid (Below wr.heap.size wr V):=ag hV
   have aJ:=zh (cK HP.out aq.out)
   have an:Hid (Below b U V/\b+1<=V.heap.size):=⟨ah.out.1.trans (aq.out.mono (Nat.le_trans (Nat.le_succ _) ah.out.2)),Nat.le_trans ah.out.2 aq.out.size⟩
   obtain⟨v0,v1,v2,_⟩:=Sz.aaP (Sz.aek hV)
   have HT:=zh (vz b (b+1) fk fv k p V (aZ HK.out (bt az.out aq.out)) aJ.out (Nat.lt_succ_self b) an.out.2 am)
   obtain⟨E,hE⟩:=ex (takeR p fk fv)
   rw[hE] at HT
   cases E with
   | error e =>
    have HF:Hid (R=.error ((k:Int),e)):=by show _=_;rw[<-he];exact ei hE
    clear he hf am hE
    go_wp2_with fail
    refine HT.out.mono ?_
    rintro r u5 ⟨aj,rfl⟩
    have aR:Hid (Below w.heap.size w u5):=ax.out.2.trans ((an.out.1.trans aj).mono af.out.2.1)
    clear aj
    go_wp2_with fail
    exact⟨rfl,aR.out,by rw[HF.out]⟩
   | ok q =>
    have aS:Hid (readR (k+1) q (l.drop (k+1))=R):=by show _=_;rw[<-he];exact (im (f:=⟨fk,fv,fl⟩) hE).symm
    clear he hf am hE
    go_wp2_with fail
    refine HT.out.mono ?_
    rintro r u5 ⟨aj,rfl,aK⟩
    have aT:=zh aK
    have aU:Hid (Below b U u5/\b+1<=u5.heap.size):=⟨an.out.1.trans aj,Nat.le_trans an.out.2 aj.size⟩
    clear aj aK HT HP aJ ah an hV v0 v1 v2 q0 q1 q2
    go_wp2_with fail
    go_roundw
    case rel=>exact⟨k+1,q,(by have:=aH.out;omega),by go_num,aT,aU,aS⟩
    case measure=>have:=aH.out;simp[intOf];omega
  ·obtain rfl:k=n:=by omega
   have HF:Hid (R=.ok p):=by show _=_;rw[<-HE.out,List.drop_eq_nil_of_le (by rw[HN.out];exact Nat.le_refl _)];rfl
   obtain⟨D,dc,C,cc,G,gc,h1,h2⟩:=HP.out
   obtain⟨g0,g1,g2,g3,g4,g5⟩:=aL h1
   have aW:=zh h2
   have ae:Hid (wr.heap[w.heap.size]?=some (.cells zeroC 31 (0,0))):=HZ.out _ (ax.out.1.trans (ah.out.1.mono af.out.1))
   obtain⟨k0,k1,k2,k3,k4,k5⟩:=aL ae.out
   have z0:=ay ae.out 0
   have z1:=ay ae.out 1
   have z2:=ay ae.out 2
   have z3:=ay ae.out 3
   have z4:=ay ae.out 4
   have z5:=ay ae.out 5
   clear h1 h2
   go_wp2_with fail
   (try simp only[Exit.inBlock,Exit.then])
   refine bodyPost_ret (acO ae.out p D C G dc cc gc rfl) rfl ?_
   refine⟨aI az.out (Nat.le_refl _) p D C G dc cc gc,?_⟩
   rw[HF.out]
   exact⟨D,dc,C,cc,G,gc,rfl,gm (bH aW.out (cE wr w.heap.size p D C G dc cc gc) (Nat.lt_succ_of_le af.out.2.1) (cP ae.out)) (Nat.le_succ_of_le af.out.2.1)⟩
end
section
open Go.RowKit Rs At Pg
attribute [local go_sem ↓] Go.wp_at_zero Go.wp_at_succ
attribute [local go_sem] Pg.a8
theorem tW (p q:Addr)(x y k n:Int)(w:World)(hc:∀ u,Below w.heap.size w u->u.cell? p=some (.int .i64 x))(hz:∀ u,Below w.heap.size w u->u.frozen? p=false)(hc2:∀ u,Below w.heap.size w u->(u.setCell p (.int .i64 k)).cell? q=some (.int .i64 y))(hz2:∀ u,Below w.heap.size w u->(u.setCell p (.int .i64 k)).frozen? q=false) :
  CallsD Tryz.prog 18 #[.pointer (some p),.pointer (some q)] (.panicking [{ v:=.iface 113 (.agg #[.int .i64 k,.int .i64 n]),recovered:=false }]) w fun e u' w' =>
   e=.returned (.tuple #[])/\u'=.panicking [{ v:=.iface 113 (.agg #[.int .i64 k,.int .i64 n]),recovered:=true }]/\∃ u,Below w.heap.size w u/\w'=(u.setCell p (.int .i64 k)).setCell q (.int .i64 n):=by
 refine callsD_of_wpS Tryz.func18 rfl fun c₀ cs hu=>?_
 apply wpS_region
 simp[wpOpsS,go_sem,recoverD,hu,Tryz.ntmps18]
 refine (eX k n _).mono ?_
 rintro e w' ⟨rfl,hb⟩
 simp[go_sem,hc _ hb,hz _ hb,hc2 _ hb,hz2 _ hb,bodyPostS,results,Tryz.results18]
 exact⟨w',hb,rfl⟩
theorem yG (p q:Addr)(x y:Int)(w:World)(hc:w.cell? p=some (.int .i64 x))(hz:w.frozen? p=false)(hc2:(w.setCell p (.int .i64 0)).cell? q=some (.int .i64 y))(hz2:(w.setCell p (.int .i64 0)).frozen? q=false) :
  CallsD Tryz.prog 18 #[.pointer (some p),.pointer (some q)] .returning w fun e u' w'=>e=.returned (.tuple #[])/\u'=.returning/\w'=(w.setCell p (.int .i64 0)).setCell q (.int .i64 0):=by
 refine callsD_of_wpS Tryz.func18 rfl fun c₀ cs hu=>?_
 apply wpS_region
 simp[wpOpsS,go_sem,recoverD,hu,Tryz.ntmps18]
 refine (eP _).mono ?_
 rintro e w' ⟨rfl,rfl⟩
 cases c₀
 simp_all [go_sem,bodyPostS,results,Tryz.results18]
def Pg.FromRet (w:World) (X:Int × Int × Pk) (e:Ending) (w':World):Prop:=Below w.heap.size w w'/\∃ D dc C cc G gc,e=.returned (.tuple #[.agg (pCells X.2.2 D C G dc cc gc),.int .i64 X.2.1,.int .i64 X.1])/\PRows w.heap.size w' X.2.2 D C G
def Pg.P3 (b:Nat) (u:World):Prop:=u.heap[b]?=some (.cells zeroC 31 (0,0))/\Sz.P2 (b+1) u
theorem Pg.afn {w W0 W1 W2 u:World}(h0:w.alloc (.cells zeroC 31)=W0)(h1:W0.alloc (.cells #[.int .i64 0] 3)=W1)(h2:W1.alloc (.cells #[.int .i64 0] 32)=W2)(hb:Below W2.heap.size W2 u):P3 w.heap.size u:=by
 have aa:W0.heap.size=w.heap.size+1:=by rw[<-h0];simp
 have ab:W1.heap.size=w.heap.size+2:=by rw[<-h1];simp[aa]
 have ac:W2.heap.size=w.heap.size+3:=by rw[<-h2];simp[ab]
 refine⟨?_,by rw[<-aa];exact Sz.yw h1 h2 hb⟩
 rw[hb.block _ (by omega),(ag h2).block _ (by omega),(ag h1).block _ (by omega),<-h0]
 exact heap_alloc_new w _
theorem Pg.aaT {u:World}{b j k:Nat}{x:Value}(h:u.heap[b]?=some (.cells zeroC 31 (0,0)))(hne:k≠b):(u.setCell ⟨k,j,none⟩ x).heap[b]?=some (.cells zeroC 31 (0,0)) :=
 (Below.heap_setCell u ⟨k,j,none⟩ x b (fun e=>hne e.symm)).trans h
theorem Pg.aeo {u v:World}{b:Nat}(h:Sz.P2 b u)(h1:v.heap[b]?=u.heap[b]?)(h2:v.heap[b+1]?=u.heap[b+1]?):Sz.P2 b v:=⟨h1.trans h.1,h2.trans h.2⟩
theorem Pg.xa (u:World)(b k:Nat)(p:Pk)(D C G:Option Addr)(dc cc gc:Nat)(hk:k<u.heap.size)(hne:k≠b):(stP u b p D C G dc cc gc).heap[k]?=u.heap[k]? :=
 (cE u b p D C G dc cc gc).2 k hk (fun e=>hne (Option.some.inj e).symm)
theorem Pg.xb {u:World}{b:Nat}{x:Int}{T:TypeId}(h:u.heap[b]?=some (.cells #[.int .i64 x] T (0,0))):∀ j y,u.cell? ⟨b,j,none⟩=some y->NoB y:=fun j y hy z e=>by
 subst e
 have:=Sz.il h rfl hy
 cases this
theorem Pg.xc {u:World}{b c:Nat}{cs:Array Value}{T:TypeId}{x y:Value}(h:u.heap[b]?=some (.cells cs T (0,0)))(h1:c≠b)(h2:c+1≠b):((u.setCell ⟨c,0,none⟩ x).setCell ⟨c+1,0,none⟩ y).heap[b]?=some (.cells cs T (0,0)) :=
 (Below.heap_setCell _ ⟨c+1,0,none⟩ y b (fun e=>h2 e.symm)).trans ((Below.heap_setCell u ⟨c,0,none⟩ x b (fun e=>h1 e.symm)).trans h)
theorem Pg.tX {B b:Nat}{u:World}{p:Pk}{D C G:Option Addr}{x y:Int}(h:PRows B u p D C G)(h2:Sz.P2 b u)(hlt:b+1<B):PRows B ((u.setCell ⟨b,0,none⟩ (.int .i64 x)).setCell ⟨b+1,0,none⟩ (.int .i64 y)) p D C G:=by
 have r1:=bH h (aN u ⟨b,0,none⟩ (.int .i64 x)) (Nat.lt_of_succ_lt hlt) (xb h2.1)
 have e2:(u.setCell ⟨b,0,none⟩ (.int .i64 x)).heap[b+1]?=some (.cells #[.int .i64 0] 32 (0,0)):=(Below.heap_setCell u ⟨b,0,none⟩ _ (b+1) (by show b+1≠b;omega)).trans h2.2
 exact bH r1 (aN _ ⟨b+1,0,none⟩ (.int .i64 y)) hlt (xb e2)
theorem vD (A:Option Addr)(n c:Nat)(l:List Sz.Fld)(w:World)(hk:KOk w)(hn:l.length=n)(hr:Rg.Row Sz.encF 3 w A l)(hl:n<=1000)(hs:Sz.Short l)(hv:∀ f∈l,ValFit f.key f.val) :
  Calls Tryz.prog 5 #[.slice A n c] w (Pg.FromRet w (fromP l)):=by
 have aC:∀ (fn:Fn) (first cap:Array Value) (w:World),(Instr.makeFunc fn first cap).run Tryz.prog w=.ok (.func fn first cap) w:=fun _ _ _ _=>rfl
 obtain⟨X,hX⟩:=ex (fromP l)
 rw[hX]
 unfold fromP at hX
 obtain⟨W0,af⟩:=ex (w.alloc (.cells zeroC 31))
 obtain⟨W1,ah⟩:=ex (W0.alloc (.cells #[.int .i64 0] 3))
 obtain⟨W2,ak⟩:=ex (W1.alloc (.cells #[.int .i64 0] 32))
 have ad:Hid (∀ u,Below W2.heap.size W2 u->P3 w.heap.size u):=fun u hb=>afn af ah ak hb
 have au:W0.heap.size=w.heap.size+1:=by rw[<-af];simp
 have av:W1.heap.size=w.heap.size+1+1:=by rw[<-ah];simp[au]
 have an:W2.heap.size=w.heap.size+3:=by rw[<-ak];simp[av]
 have aa:=zh an
 have aj:Hid (Below w.heap.size w W2):=(ag af).trans (((ag ah).trans ((ag ak).mono (ag ah).size)).mono (ag af).size)
 have al:=zh (vC A n c l W2 (aZ hk aj.out) hn (Rg.ai hr aj.out) hl hs hv)
 obtain⟨R,hR⟩:=ex (readP l)
 rw[hR] at al hX
 clear hk hn hr hl hs hv hR an
 go_enter_defers Tryz.func5,Tryz.ntmps5
 go_wp2_with fail
 clear af ah ak
 refine al.out.mono ?_
 rintro e z1 ⟨hb,hr⟩
 have HB:=zh hb
 clear hb al
 cases R with
 | ok p =>
  obtain⟨D,dc,C,cc,G,gc,rfl,ab⟩:∃ D dc C cc G gc,e=.returned (.agg (pCells p D C G dc cc gc))/\PRows W2.heap.size z1 p D C G:=hr
  have HX:Hid (X=(0,0,p)):=hX.symm
  have h3:=ad.out _ HB.out
  have ao:Hid (w.heap.size+3<=z1.heap.size):=by have:=HB.out.size;rw[aa.out] at this;exact this
  have ae:Hid (Sz.P2 (w.heap.size+1) (stP z1 w.heap.size p D C G dc cc gc)):=aeo h3.2 (xa _ _ _ _ _ _ _ _ _ _ (by have:=ao.out;omega) (by omega)) (xa _ _ _ _ _ _ _ _ _ _ (by have:=ao.out;omega) (by omega))
  obtain⟨k0,k1,k2,k3,k4,k5⟩:=aL h3.1
  have z0:=ay h3.1 0
  have aD:=ay h3.1 1
  have z2:=ay h3.1 2
  have z3:=ay h3.1 3
  have z4:=ay h3.1 4
  have z5:=ay h3.1 5
  have aE:=zh h3.1
  have aF:=zh ab
  have HS:Hid (PRows w.heap.size (stP z1 w.heap.size p D C G dc cc gc) p D C G):=gm (bH ab (cE z1 w.heap.size p D C G dc cc gc) (by rw[aa.out];omega) (cP h3.1)) (by rw[aa.out];omega)
  have ap:Hid (PRows W2.heap.size (stP z1 w.heap.size p D C G dc cc gc) p D C G):=bH ab (cE z1 w.heap.size p D C G dc cc gc) (by rw[aa.out];omega) (cP h3.1)
  have aq:Hid (Below w.heap.size w (stP z1 w.heap.size p D C G dc cc gc)):=aI (bt aj.out HB.out) (Nat.le_refl _) p D C G dc cc gc
  have ar:=zh (fu h3.1 p D C G dc cc gc)
  obtain⟨V,hV⟩:=ex (stP z1 w.heap.size p D C G dc cc gc)
  rw[hV] at ae HS ap aq ar
  obtain⟨c0,f0,c1,f1⟩:=Sz.bC ae.out
  obtain⟨d0,g0,d1,g1⟩:=Sz.bD ae.out (.int .i64 0)
  have ac:=zh (Sz.ns ae.out)
  unfold stP at hV
  clear h3 ab hX
  go_wp2_with fail
  have aw:Hid (((V.setCell ⟨w.heap.size+1,0,none⟩ (.int .i64 0)).setCell ⟨w.heap.size+1+1,0,none⟩ (.int .i64 0)).heap[w.heap.size]?=some (.cells (pCells p D C G dc cc gc) 31 (0,0))):=xc (c:=w.heap.size+1) ar.out (by omega) (by omega)
  have ax:=zh (tX (x:=0) (y:=0) ap.out ae.out (show w.heap.size+1+1<W2.heap.size by rw[aa.out];omega))
  have az:Hid (Below w.heap.size w ((V.setCell ⟨w.heap.size+1,0,none⟩ (.int .i64 0)).setCell ⟨w.heap.size+1+1,0,none⟩ (.int .i64 0))):=(aq.out.setCell (by show w.heap.size<=w.heap.size+1;omega) _).setCell (by show w.heap.size<=w.heap.size+1+1;omega) _
  generalize (V.setCell ⟨w.heap.size+1,0,none⟩ (.int .i64 0)).setCell ⟨w.heap.size+1+1,0,none⟩ (.int .i64 0)=V2 at *
  obtain⟨k0,m0,k1,m1⟩:=Sz.bC ac.out
  obtain⟨l0,o0,l1,o1⟩:=Sz.bD ac.out (.int .i64 0)
  obtain⟨q0,q1⟩:=Sz.eI ac.out (.int .i64 0) (.int .i64 0)
  have aA:=zh (xc (c:=w.heap.size+1) (x:=.int .i64 0) (y:=.int .i64 0) aw.out (by omega) (by omega))
  have aB:=zh (tX (x:=0) (y:=0) ax.out ac.out (show w.heap.size+1+1<W2.heap.size by rw[aa.out];omega))
  obtain⟨s0,s1,s2,s3,s4,s5⟩:=aL aA.out
  refine leaves_cons (f:=18) (args:=#[.pointer (some ⟨w.heap.size+1,0,none⟩),.pointer (some ⟨w.heap.size+1+1,0,none⟩)]) (by simp) (by simp[go_sem]) ?_
  refine (yG ⟨w.heap.size+1,0,none⟩ ⟨w.heap.size+1+1,0,none⟩ 0 0 _ k0 m0 l1 o1).mono ?_
  rintro e u' w3 ⟨rfl,rfl,rfl⟩
  simp[Leaves,settle,results,Tryz.results5,go_sem,q0,q1,s0,s1,s2,s3,s4,s5]
  rw[HX.out]
  exact⟨(az.out.setCell (by show w.heap.size<=w.heap.size+1;omega) _).setCell (by show w.heap.size<=w.heap.size+1+1;omega) _,D,dc,C,cc,G,gc,rfl,gm aB.out (by rw[aa.out];omega)⟩
 | error x =>
  obtain⟨i0,k⟩:=x
  obtain rfl:e=panAt i0 k:=hr
  have HX:Hid (X=(k,i0,zeroP)):=hX.symm
  clear hX
  go_wp2_with fail
  refine leaves_cons (f:=18) (args:=#[.pointer (some ⟨w.heap.size+1,0,none⟩),.pointer (some ⟨w.heap.size+1+1,0,none⟩)]) (by simp) (by simp[go_sem]) ?_
  refine (tW ⟨w.heap.size+1,0,none⟩ ⟨w.heap.size+1+1,0,none⟩ 0 0 i0 k _ (fun u hb=>(Sz.bC (ad.out _ (bt HB.out hb)).2).1) (fun u hb=>(Sz.bC (ad.out _ (bt HB.out hb)).2).2.1) (fun u hb=>(Sz.bD (ad.out _ (bt HB.out hb)).2 _).2.2.1) (fun u hb=>(Sz.bD (ad.out _ (bt HB.out hb)).2 _).2.2.2)).mono ?_
  rintro e u' w3 ⟨rfl,rfl,u,hb,rfl⟩
  have am:=zh (bt HB.out hb)
  obtain⟨q0,q1⟩:=Sz.eI (ad.out _ am.out).2 (.int .i64 i0) (.int .i64 k)
  obtain⟨k0,k1,k2,k3,k4,k5⟩:=aL (aaT (j:=0) (x:=.int .i64 k) (aaT (j:=0) (x:=.int .i64 i0) (ad.out _ am.out).1 (show w.heap.size+1≠w.heap.size by omega)) (show w.heap.size+1+1≠w.heap.size by omega))
  simp[Leaves,settle,results,Tryz.results5,go_sem,q0,q1,k0,k1,k2,k3,k4,k5]
  rw[HX.out]
  exact⟨((bt aj.out am.out).setCell (by show w.heap.size<=w.heap.size+1;omega) _).setCell (by show w.heap.size<=w.heap.size+1+1;omega) _,none,0,none,0,none,0,rfl,iW _ _⟩
end
section
open Go.RowKit Rs At Pg
namespace Pg
def gvT (g:Gv):List UInt8:=if g.ver=[] then g.name else g.name++[32,61,32]++g.ver
def depT (d:List Atm):List UInt8:=Lib.join (d.map textA) [32,111,114,32]
def ATxt (l:List Atm):Prop:=∀ a∈l,a.name.length<=100/\a.rng.length<=64/\checkR a.rng=0
def GTxt (l:List Gv):Prop:=∀ g∈l,g.name.length<=1000/\g.ver.length<=1000
def DTxt (t:List (List Atm)):Prop:=∀ d∈t,d.length<=1000/\ATxt d/\(depT d).length<=1000000
end Pg
attribute [local go_sem ↓] Go.wp_at_zero Go.wp_at_succ
theorem tY (g:Gv)(w:World)(h1:g.name.length<=1000)(h2:g.ver.length<=1000) :
  Calls Tryz.prog 40 #[.agg #[.string ⟨g.name.toArray⟩,.string ⟨g.ver.toArray⟩]] w fun e w'=>e=.returned (.string ⟨(gvT g).toArray⟩)/\Below w.heap.size w w':=by
 obtain⟨nm,v⟩:=g
 dsimp only at h1 h2 ⊢
 obtain⟨R,hR⟩:=ex (gvT ⟨nm,v⟩)
 rw[hR]
 unfold gvT at hR
 dsimp only at hR
 obtain⟨V,hV⟩:=ex (w.alloc (.cells #[.string ⟨nm.toArray⟩,.string ⟨v.toArray⟩] 55))
 have HB:Hid (Below w.heap.size w V):=ag hV
 obtain⟨c0,c1⟩:=aB hV (Below.refl _ _)
 by_cases e2:v=[]
 ·have e:(v==[])=true:=by rw[e2];rfl
  rw[if_pos e2] at hR
  subst hR
  clear e2
  go_enter Tryz.func40,Tryz.ntmps40
  go_wp2_with fail
  refine (aX nm _ (by omega)).mono ?_
  rintro _ u ⟨rfl,hb⟩
  have HU:Hid (Below w.heap.size w u):=bt HB.out hb
  clear hb
  go_wp2_with fail
  go_ret
  exact⟨rfl,HU.out⟩
 ·have e:(v==[])=false:=beq_eq_false_iff_ne.2 e2
  rw[if_neg e2] at hR
  have HR:=zh hR
  have q1:=jn { data:=nm.toArray } { data:=#[32,61,32] } (by show nm.toArray.size+3<=_;rw[List.size_toArray];omega)
  have q2:=jn ({ data:=nm.toArray }++{ data:=#[32,61,32] }) { data:=v.toArray } (by rw[ByteArray.size_append];show nm.toArray.size+3+v.toArray.size<=_;rw[List.size_toArray,List.size_toArray];omega)
  clear e2 hR
  go_enter Tryz.func40,Tryz.ntmps40
  go_wp2_with fail
  go_ret
  rw[<-HR.out]
  exact⟨congrArg (fun x=>Ending.returned (Value.string x)) (cat3 nm [32,61,32] v),HB.out⟩
theorem kA (sep:List UInt8)(A:Option Addr)(n c:Nat)(l:List Atm)(w:World)(hw:MaxOk w)(hn:l.length=n)(hr:ARow w A l)(hl:n<=1000)(hg:ATxt l)(hj:(Lib.join (l.map textA) sep).length<=1000000) :
  Calls Tryz.prog 33 #[.slice A n c,.func (.func 34) #[] #[],.string ⟨sep.toArray⟩] w fun e w'=>e=.returned (.string ⟨(Lib.join (l.map textA) sep).toArray⟩)/\Below w.heap.size w w':=by
 have HM:=zh hw
 have HR:=zh hr
 have HN:=zh hn
 have HG:=zh hg
 have HJ:=zh hj
 clear hw hr hn hg hj
 go_enter Tryz.func33,Tryz.ntmps33
 go_wp2_with fail
 go_loopw [7,12] (fun v i wr=>∃ k:Nat,k<=n/\i=.int .i64 k/\Hid (Rg.Own encT 1 wr w.heap.size 9 v ((l.take k).map textA))/\Hid (Below w.heap.size w wr/\w.heap.size<=wr.heap.size)) (fun _ i _=>n-(intOf i).toNat)
 case atStart=>exact⟨0,Nat.zero_le _,rfl,Rg.az _ _ _,Below.refl _ _,Nat.le_refl _⟩
 case round =>
  obtain⟨k,hk,rfl,HO,HB⟩:=hrel
  by_cases an:k<n
  ·have ac:k<l.length:=by rw[HN.out];exact an
   have ab:=HG.out _ (List.getElem_mem ac)
   obtain⟨ad,C,m,d,rfl,hm,hs,hc⟩:=dz HR.out k ac
   obtain⟨c0,c1⟩:=hc _ HB.out.1
   obtain⟨a,ha⟩:=ex (l[k])
   have HS:=zh (fI textA l k ac _ ha)
   obtain⟨tk,ai⟩:=ex ((l.take k).map textA)
   have aj:tk.length+1<=1000000:=by rw[<-ai,List.length_map,List.length_take];omega
   rw[ai] at HS HO
   have ao:=zh aj
   clear ai aj
   rw[ha] at hm hs ab c0
   obtain⟨nm,r⟩:=a
   dsimp only at hm hs ab c0
   obtain⟨V,hV⟩:=ex (wr.alloc (.cells #[.string ⟨nm.toArray⟩,.slice C m d] 64))
   have ae:Hid (Below wr.heap.size wr V):=ag hV
   have af:Hid (Below w.heap.size w V):=HB.out.1.trans (ae.out.mono HB.out.2)
   obtain⟨v0,v1⟩:=aB hV (Below.refl _ _)
   have HT:=zh (sW nm C m d r V (ah HM.out af.out) ab.1 hm (ak hs af.out) (by rw[<-hm];exact ab.2.1) ab.2.2)
   clear hc ha hm hs ab af
   obtain⟨X,hX⟩:=ex (textA ⟨nm,r⟩)
   rw[hX] at HT HS
   clear hX
   go_wp2_with fail
   refine HT.out.mono ?_
   rintro _ u2 ⟨rfl,hb⟩
   have aa:Hid (Below wr.heap.size wr u2):=bt ae.out hb
   clear hb HT
   go_wp2_with (at_builtin;refine Rg.aC sliceTx rfl (.tmp 16) (.tmp 20) rfl w.heap.size _ tk [X] rfl (Rg.own_below HO.out (aa.out.alloc aa.out.size _)) _ _ rfl (Rg.av u2 _ _ _ (by rfl)) (Nat.zero_lt_succ _) ao.out ?b2 ?_)
   case b2=>have:=HB.out.2;have:=aa.out.size;simp;omega
   intro v5 W5 al am aw
   have ap:=c6 HB aa.out HO am
   have aq:Hid (Rg.Own encT 1 W5 w.heap.size 9 v5 ((l.take (k+1)).map textA)):=by show Rg.Own _ _ _ _ _ _ _;rw[HS.out];exact al
   clear al am aw HO HB aa ae
   go_wp2_with fail
   go_roundw
   case rel=>exact⟨k+1,by omega,by go_num,aq,ap⟩
   case measure=>simp[intOf];omega
  ·obtain rfl:k=n:=by omega
   have ar:Hid (Rg.Own encT 1 wr w.heap.size 9 u7 (l.map textA)):=by
    have:=HO.out
    rwa [List.take_of_length_le (by rw[HN.out];exact Nat.le_refl _)] at this
   have au:Hid ((l.map textA).length<=100000):=by show _<=_;rw[List.length_map,HN.out];omega
   clear HO
   go_wp2_with fail
   refine (gW sep ar.out au.out HJ.out).mono ?_
   rintro _ u ⟨rfl,hb⟩
   have aa:Hid (Below w.heap.size w u):=HB.out.1.trans (hb.mono HB.out.2)
   clear hb
   go_wp2_with fail
   go_ret
   exact⟨rfl,aa.out⟩
theorem mN (A:Option Addr)(n c:Nat)(l:List Atm)(w:World)(hw:MaxOk w)(hn:l.length=n)(hr:ARow w A l)(hl:n<=1000)(hg:ATxt l)(hj:(depT l).length<=1000000) :
  Calls Tryz.prog 12 #[.slice A n c] w fun e w'=>e=.returned (.string ⟨(depT l).toArray⟩)/\Below w.heap.size w w':=by
 have HJ:=zh (kA [32,111,114,32] A n c l w hw hn hr hl hg hj)
 clear hw hn hr hl hg hj
 go_enter Tryz.func12,Tryz.ntmps12
 go_wp2_with fail
 refine HJ.out.mono ?_
 rintro _ u ⟨rfl,hb⟩
 have HU:=zh hb
 clear hb
 go_wp2_with fail
 go_ret
 exact⟨rfl,HU.out⟩
theorem rH (sep:List UInt8)(A:Option Addr)(n c:Nat)(l:List Gv)(w:World)(hw:MaxOk w)(hn:l.length=n)(hr:GRow w A l)(hl:n<=1000)(hg:GTxt l)(hj:(Lib.join (l.map gvT) sep).length<=1000000) :
  Calls Tryz.prog 39 #[.slice A n c,.func (.func 40) #[] #[],.string ⟨sep.toArray⟩] w fun e w'=>e=.returned (.string ⟨(Lib.join (l.map gvT) sep).toArray⟩)/\Below w.heap.size w w':=by
 have HM:=zh hw
 have HR:=zh hr
 have HN:=zh hn
 have HG:=zh hg
 have HJ:=zh hj
 clear hw hr hn hg hj
 go_enter Tryz.func39,Tryz.ntmps39
 go_wp2_with fail
 go_loopw [7,12] (fun v i wr=>∃ k:Nat,k<=n/\i=.int .i64 k/\Hid (Rg.Own encT 1 wr w.heap.size 9 v ((l.take k).map gvT))/\Hid (Below w.heap.size w wr/\w.heap.size<=wr.heap.size)) (fun _ i _=>n-(intOf i).toNat)
 case atStart=>exact⟨0,Nat.zero_le _,rfl,Rg.az _ _ _,Below.refl _ _,Nat.le_refl _⟩
 case round =>
  obtain⟨k,hk,rfl,HO,HB⟩:=hrel
  by_cases ak:k<n
  ·have ac:k<l.length:=by rw[HN.out];exact ak
   have ab:=HG.out _ (List.getElem_mem ac)
   obtain⟨ad,rfl,hc⟩:=dQ HR.out k ac
   obtain⟨c0,c1⟩:=hc _ HB.out.1
   obtain⟨a,ha⟩:=ex (l[k])
   have HS:=zh (fI gvT l k ac _ ha)
   obtain⟨tk,ae⟩:=ex ((l.take k).map gvT)
   have af:tk.length+1<=1000000:=by rw[<-ae,List.length_map,List.length_take];omega
   rw[ae] at HS HO
   have al:=zh af
   clear ae af
   rw[ha] at ab c0 c1
   obtain⟨V,hV⟩:=ex (wr.alloc (.cells #[.string ⟨a.name.toArray⟩,.string ⟨a.ver.toArray⟩] 55))
   have ah:Hid (Below wr.heap.size wr V):=ag hV
   obtain⟨v0,v1⟩:=aB hV (Below.refl _ _)
   have HT:=zh (tY a V ab.1 ab.2)
   clear hc ha ab
   obtain⟨X,hX⟩:=ex (gvT a)
   rw[hX] at HT HS
   clear hX
   go_wp2_with fail
   refine HT.out.mono ?_
   rintro _ u2 ⟨rfl,hb⟩
   have aa:Hid (Below wr.heap.size wr u2):=bt ah.out hb
   clear hb HT
   go_wp2_with (at_builtin;refine Rg.aC sliceTx rfl (.tmp 16) (.tmp 20) rfl w.heap.size _ tk [X] rfl (Rg.own_below HO.out (aa.out.alloc aa.out.size _)) _ _ rfl (Rg.av u2 _ _ _ (by rfl)) (Nat.zero_lt_succ _) al.out ?b2 ?_)
   case b2=>have:=HB.out.2;have:=aa.out.size;simp;omega
   intro v5 W5 ai aj aq
   have am:=c6 HB aa.out HO aj
   have an:Hid (Rg.Own encT 1 W5 w.heap.size 9 v5 ((l.take (k+1)).map gvT)):=by show Rg.Own _ _ _ _ _ _ _;rw[HS.out];exact ai
   clear ai aj aq HO HB aa ah
   go_wp2_with fail
   go_roundw
   case rel=>exact⟨k+1,by omega,by go_num,an,am⟩
   case measure=>simp[intOf];omega
  ·obtain rfl:k=n:=by omega
   have ao:Hid (Rg.Own encT 1 wr w.heap.size 9 u7 (l.map gvT)):=by
    have:=HO.out
    rwa [List.take_of_length_le (by rw[HN.out];exact Nat.le_refl _)] at this
   have ap:Hid ((l.map gvT).length<=100000):=by show _<=_;rw[List.length_map,HN.out];omega
   clear HO
   go_wp2_with fail
   refine (gW sep ao.out ap.out HJ.out).mono ?_
   rintro _ u ⟨rfl,hb⟩
   have aa:Hid (Below w.heap.size w u):=HB.out.1.trans (hb.mono HB.out.2)
   clear hb
   go_wp2_with fail
   go_ret
   exact⟨rfl,aa.out⟩
theorem tZ (sep:List UInt8)(A:Option Addr)(n c:Nat)(l:List (List Atm))(w:World)(hw:MaxOk w)(hn:l.length=n)(hr:Pg.DRow w A l)(hl:n<=1000)(hg:DTxt l)(hj:(Lib.join (l.map depT) sep).length<=1000000) :
  Calls Tryz.prog 38 #[.slice A n c,.func (.func 12) #[] #[],.string ⟨sep.toArray⟩] w fun e w'=>e=.returned (.string ⟨(Lib.join (l.map depT) sep).toArray⟩)/\Below w.heap.size w w':=by
 have HM:=zh hw
 have HR:=zh hr
 have HN:=zh hn
 have HG:=zh hg
 have HJ:=zh hj
 clear hw hr hn hg hj
 go_enter Tryz.func38,Tryz.ntmps38
 go_wp2_with fail
 go_loopw [7,12] (fun v i wr=>∃ k:Nat,k<=n/\i=.int .i64 k/\Hid (Rg.Own encT 1 wr w.heap.size 9 v ((l.take k).map depT))/\Hid (Below w.heap.size w wr/\w.heap.size<=wr.heap.size)) (fun _ i _=>n-(intOf i).toNat)
 case atStart=>exact⟨0,Nat.zero_le _,rfl,Rg.az _ _ _,Below.refl _ _,Nat.le_refl _⟩
 case round =>
  obtain⟨k,hk,rfl,HO,HB⟩:=hrel
  by_cases ak:k<n
  ·have ac:k<l.length:=by rw[HN.out];exact ak
   have ab:=HG.out _ (List.getElem_mem ac)
   obtain⟨ad,C,m,d,rfl,hm,hs,hc⟩:=dM HR.out k ac
   have c0:=hc _ HB.out.1
   obtain⟨a,ha⟩:=ex (l[k])
   have HS:=zh (fI depT l k ac _ ha)
   obtain⟨tk,ae⟩:=ex ((l.take k).map depT)
   have af:tk.length+1<=1000000:=by rw[<-ae,List.length_map,List.length_take];omega
   rw[ae] at HS HO
   have al:=zh af
   clear ae af
   rw[ha] at hm hs ab
   have ag:Hid (Below wr.heap.size wr wr):=Below.refl _ _
   have HT:=zh (mN C m d a wr (ah HM.out HB.out.1) hm (aw hs HB.out.1) (by rw[<-hm];exact ab.1) ab.2.1 ab.2.2)
   clear hc ha hm hs ab
   obtain⟨X,hX⟩:=ex (depT a)
   rw[hX] at HT HS
   clear hX
   go_wp2_with fail
   refine HT.out.mono ?_
   rintro _ u2 ⟨rfl,hb⟩
   have aa:Hid (Below wr.heap.size wr u2):=bt ag.out hb
   clear hb HT
   go_wp2_with (at_builtin;refine Rg.aC sliceTx rfl (.tmp 16) (.tmp 20) rfl w.heap.size _ tk [X] rfl (Rg.own_below HO.out (aa.out.alloc aa.out.size _)) _ _ rfl (Rg.av u2 _ _ _ (by rfl)) (Nat.zero_lt_succ _) al.out ?b2 ?_)
   case b2=>have:=HB.out.2;have:=aa.out.size;simp;omega
   intro v5 W5 ai aj aq
   have am:=c6 HB aa.out HO aj
   have an:Hid (Rg.Own encT 1 W5 w.heap.size 9 v5 ((l.take (k+1)).map depT)):=by show Rg.Own _ _ _ _ _ _ _;rw[HS.out];exact ai
   clear ai aj aq HO HB aa ag
   go_wp2_with fail
   go_roundw
   case rel=>exact⟨k+1,by omega,by go_num,an,am⟩
   case measure=>simp[intOf];omega
  ·obtain rfl:k=n:=by omega
   have ao:Hid (Rg.Own encT 1 wr w.heap.size 9 u7 (l.map depT)):=by
    have:=HO.out
    rwa [List.take_of_length_le (by rw[HN.out];exact Nat.le_refl _)] at this
   have ap:Hid ((l.map depT).length<=100000):=by show _<=_;rw[List.length_map,HN.out];omega
   clear HO
   go_wp2_with fail
   refine (gW sep ao.out ap.out HJ.out).mono ?_
   rintro _ u ⟨rfl,hb⟩
   have aa:Hid (Below w.heap.size w u):=HB.out.1.trans (hb.mono HB.out.2)
   clear hb
   go_wp2_with fail
   go_ret
   exact⟨rfl,aa.out⟩
end
section
open Go.RowKit Rs At Pg
def Pg.hasL (l:List Sp) (v:List UInt8):Bool:=hasR (l.map Sp.piece) v
def Pg.givM (g:Gv) (a:Atm):Bool:=decide (g.name=a.name)&&(if g.ver=[] then decide (a.rng=allR.map spOf) else hasL a.rng g.ver)
def Pg.metP (p:Pk) (a:Atm):Bool:=(decide (p.name=a.name)&&hasL a.rng p.ver)||p.prov.any (fun g=>givM g a)
attribute [local go_sem ↓] Go.wp_at_zero Go.wp_at_succ
theorem rI (g:Gv)(nm:List UInt8)(A:Option Addr)(n c:Nat)(l:List Sp)(w:World)(hw:MaxOk w)(hn:l.length=n)(hr:SRow w A l)(hl:n<=64)(hk:checkR l=0)(hv:g.ver=[]\/Vm.check g.ver=0) :
  Calls Tryz.prog 45 #[.agg #[.string ⟨g.name.toArray⟩,.string ⟨g.ver.toArray⟩],.agg #[.string ⟨nm.toArray⟩,.slice A n c]] w fun e w'=>e=.returned (.bool (givM g ⟨nm,l⟩))/\Below w.heap.size w w':=by
 obtain⟨gn,gv⟩:=g
 dsimp only at hv ⊢
 obtain⟨R,hR⟩:=ex (givM ⟨gn,gv⟩ ⟨nm,l⟩)
 rw[hR]
 unfold givM at hR
 dsimp only at hR
 obtain⟨V,hV⟩:=ex (w.alloc (.cells #[.string ⟨gn.toArray⟩,.string ⟨gv.toArray⟩] 55))
 obtain⟨b,hb⟩:=ex V.heap.size
 obtain⟨U,hU⟩:=ex (V.alloc (.cells #[.string ⟨nm.toArray⟩,.slice A n c] 64))
 have aa:Hid (Bx2 b nm A n c U):=by rw[<-hU,<-hb];exact eB V nm A n c _
 have ae:Hid (Below V.heap.size V U):=ag hU
 have ac:b<U.heap.size:=by rw[<-hU,<-hb];simp
 have HB:Hid (Below w.heap.size w U):=(ag hV).trans (ae.out.mono (ag hV).size)
 have af:Hid (MaxOk U):=ah hw HB.out
 have ai:Hid (SRow U A l):=ak hr HB.out
 have HN:=zh hn
 have HK:=zh hk
 have HR:=zh hR
 obtain⟨c0,c1⟩:=aB hV ae.out
 obtain⟨k0,k1⟩:=aa.out
 clear hw hn hr hk hR
 by_cases e1:gn=nm
 case neg =>
  have d1:(gn != nm)=true:=by simp[e1]
  have d0:(gn==nm)=false:=beq_eq_false_iff_ne.2 e1
  have HF:Hid (R=false):=by show _=_;rw[<-HR.out,decide_eq_false e1,Bool.false_and]
  clear e1
  go_enter Tryz.func45,Tryz.ntmps45
  go_wp2_with fail
  go_ret
  exact⟨by rw[HF.out];rfl,HB.out⟩
 have d1:(gn != nm)=false:=by simp[e1]
 have d0:(gn==nm)=true:=beq_iff_eq.2 e1
 by_cases e2:gv=[]
 ·have e:(gv==[])=true:=by rw[e2];rfl
  obtain⟨sm,ad⟩:=ex (decide (l=allR.map spOf))
  have ao:=zh ad
  have HF:Hid (sm=R):=by show _=_;rw[<-HR.out,decide_eq_true e1,if_pos e2,Bool.true_and];exact ad.symm
  clear e1 e2 ad hv
  go_enter Tryz.func45,Tryz.ntmps45
  go_wp2_with fail
  clear hb hV hU c0 c1
  have aj:Hid (St U U.drew [⟨A,n,l⟩]):=⟨af.out,(Below.refl _ _).drew,fun x hx=>by rw[List.mem_singleton.1 hx];exact⟨ak ai.out (Below.refl _ _).drew,HN.out⟩⟩
  go_region_held3 (fun w'=>w'.cell? ⟨b,0,none⟩=some (.string ⟨nm.toArray⟩)/\w'.cell? ⟨b,1,none⟩=some (.slice A n c))
   (first
    | exact aS aa.out ac aj.out.2.1
    | exact aS aa.out ac ab.out.2.1
    | exact aS aa.out ac am.out.2.1)
   (first
    | (go_at_call 16;refine (xP aj.out allR rfl).mono ?_;rintro _ u2 ⟨C,m2,d,rfl,hs⟩;have ab:=zh hs;have al:m2=1:=(aF hs 0 rfl).2.symm;have ap:=zh al;clear hs al)
    | (go_at_call 79;refine (zF ab.out 1 0 rfl rfl (by omega) (by rw[ap.out];decide) _ _ sm ao.out).mono ?_;rintro _ u3 ⟨rfl,hs⟩;have am:=zh hs;clear hs))
  go_wp2_with fail
  go_ret
  exact⟨by rw[<-HF.out];rfl,HB.out.trans (am.out.2.1.mono HB.out.size)⟩
 ·have e:(gv==[])=false:=beq_eq_false_iff_ne.2 e2
  have an:Vm.check gv=0:=hv.resolve_left e2
  have HF:Hid (hasR (l.map Sp.piece) gv=R):=by show _=_;rw[<-HR.out,decide_eq_true e1,if_neg e2,Bool.true_and];rfl
  have HS:Hid (St U U [⟨A,n,l⟩]):=⟨af.out,Below.refl _ _,fun x hx=>by rw[List.mem_singleton.1 hx];exact⟨ai.out,HN.out⟩⟩
  have HH:=zh (aac HS.out 0 rfl HK.out c gv an R HF.out)
  clear e1 e2 hv an
  go_enter Tryz.func45,Tryz.ntmps45
  go_wp2_with fail
  clear hb hV hU c0 c1
  refine HH.out.mono ?_
  rintro _ u2 ⟨rfl,hs⟩
  have ab:=zh hs.2.1
  clear hs
  go_wp2_with fail
  go_ret
  exact⟨rfl,bt HB.out ab.out⟩
theorem yH (g:Gv)(b:Nat)(nm:List UInt8)(A:Option Addr)(n c:Nat)(l:List Sp)(w:World)(hw:MaxOk w)(hn:l.length=n)(hr:SRow w A l)(hl:n<=64)(hk:checkR l=0)(hv:g.ver=[]\/Vm.check g.ver=0)(hx:Bx2 b nm A n c w)(hb:b<w.heap.size) :
  Calls Tryz.prog 44 #[.agg #[.string ⟨g.name.toArray⟩,.string ⟨g.ver.toArray⟩],.pointer (some ⟨b,0,none⟩)] w fun e w'=>e=.returned (.bool (givM g ⟨nm,l⟩))/\Below w.heap.size w w':=by
 obtain⟨V,hV⟩:=ex (w.alloc (.cells #[.string ⟨g.name.toArray⟩,.string ⟨g.ver.toArray⟩] 55))
 have HB:Hid (Below w.heap.size w V):=ag hV
 have HG:=zh (rI g nm A n c l V (ah hw HB.out) hn (ak hr HB.out) hl hk hv)
 obtain⟨c0,c1⟩:=aB hV (Below.refl _ _)
 obtain⟨k0,k1⟩:=aS hx hb HB.out
 clear hw hn hr hl hk hv hx hb
 go_enter Tryz.func44,Tryz.ntmps44
 go_wp2_with fail
 refine HG.out.mono ?_
 rintro _ u ⟨rfl,hb⟩
 have HU:Hid (Below w.heap.size w u):=bt HB.out hb
 clear hb
 go_wp2_with fail
 go_ret
 exact⟨rfl,HU.out⟩
theorem vE (A:Option Addr)(n c:Nat)(l:List Gv)(b:Nat)(nm:List UInt8)(B:Option Addr)(m d:Nat)(r:List Sp)(w:World)(hw:MaxOk w)(hn:l.length=n)(hr:GRow w A l)(hl:n<=1000000)(ho:∀ g∈l,g.ver=[]\/Vm.check g.ver=0)(hm:r.length=m)(hq:SRow w B r)(hm2:m<=64)(hk:checkR r=0)(hx:Bx2 b nm B m d w)(hb:b<w.heap.size) :
  Calls Tryz.prog 90 #[.slice A n c,.func (.func 44) #[] #[.pointer (some ⟨b,0,none⟩)]] w (IdxRet w (l.any fun g=>givM g ⟨nm,r⟩)):=by
 have HR:=zh hr
 have HN:=zh hn
 have HO:=zh ho
 have HC:=zh (fun (g:Gv) (hv:g.ver=[]\/Vm.check g.ver=0) (W:World) (h:Below w.heap.size w W)=>yH g b nm B m d r W (ah hw h) hm (ak hq h) hm2 hk hv (aS hx hb h) (Nat.lt_of_lt_of_le hb h.size))
 obtain⟨X,hX⟩:=ex (l.any fun g=>givM g ⟨nm,r⟩)
 rw[hX]
 obtain⟨f,hf⟩:∃ f:Gv->Bool,(fun g=>givM g ⟨nm,r⟩)=f:=⟨_,rfl⟩
 rw[hf] at hX
 have HF:Hid (∀ g,givM g ⟨nm,r⟩=f g):=fun g=>by rw[<-hf]
 have HX:Hid (X=l.any f):=hX.symm
 clear hw hr hn ho hm hq hm2 hk hx hb hX hf
 go_enter Tryz.func90,Tryz.ntmps90
 go_wp2_with fail
 go_loopw [8] (fun i wr=>∃ k:Nat,k<=n/\i=.int .i64 k/\Hid ((l.take k).any f=false)/\Hid (Below w.heap.size w wr)) (fun i _=>n-(intOf i).toNat)
 case atStart=>exact⟨0,Nat.zero_le _,rfl,rfl,Below.refl _ _⟩
 case round =>
  obtain⟨k,hk,rfl,HA,HB⟩:=hrel
  by_cases ag:k<n
  ·have aa:k<l.length:=by rw[HN.out];exact ag
   obtain⟨ad,rfl,hc⟩:=dQ HR.out k aa
   obtain⟨c0,c1⟩:=hc _ HB.out
   have HS:Hid ((l.take (k+1)).any f=((l.take k).any f||f l[k])):=by show _=_;rw[List.take_succ_eq_append_getElem aa,List.any_append];simp
   have HY:Hid (f l[k]=true->X=true):=fun h=>by rw[HX.out];exact List.any_eq_true.2 ⟨_,List.getElem_mem aa,h⟩
   have ab:=HO.out _ (List.getElem_mem aa)
   generalize l[k]=g at c0 c1 HS HY ab
   have HG:=HC.out g ab wr HB.out
   rw[HF.out] at HG
   have ac:=zh HG
   clear HG hc aa ab
   go_wp2_with fail
   refine ac.out.mono ?_
   rintro _ w1 ⟨rfl,af⟩
   have ae:Hid (Below w.heap.size w w1):=bt HB.out af
   clear af c0 c1 ac
   cases hp:f g
   ·have ai:Hid ((l.take (k+1)).any f=false):=by show _=_;rw[HS.out,HA.out];exact hp
    clear hp
    go_wp2_with fail
    go_roundw
    case rel=>exact⟨k+1,by omega,by go_num,ai.out,ae.out⟩
    case measure=>simp[intOf];omega
   ·have aj:Hid (X=true):=HY.out hp
    clear hp
    go_wp2_with fail
    go_ret
    exact⟨⟨k,rfl,by rw[aj.out];exact decide_eq_true (by omega)⟩,ae.out⟩
  ·have al:Hid (X=false):=by
    show _=_
    have:=HA.out
    rw[List.take_of_length_le (by rw[HN.out];omega)] at this
    rw[HX.out];exact this
   go_wp2_with fail
   go_ret
   exact⟨⟨-1,rfl,by rw[al.out];rfl⟩,HB.out⟩
theorem vF (A:Option Addr)(n c:Nat)(l:List Gv)(b:Nat)(nm:List UInt8)(B:Option Addr)(m d:Nat)(r:List Sp)(w:World)(hw:MaxOk w)(hn:l.length=n)(hr:GRow w A l)(hl:n<=1000000)(ho:∀ g∈l,g.ver=[]\/Vm.check g.ver=0)(hm:r.length=m)(hq:SRow w B r)(hm2:m<=64)(hk:checkR r=0)(hx:Bx2 b nm B m d w)(hb:b<w.heap.size) :
  Calls Tryz.prog 43 #[.slice A n c,.func (.func 44) #[] #[.pointer (some ⟨b,0,none⟩)]] w fun e w'=>e=.returned (.bool (l.any fun g=>givM g ⟨nm,r⟩))/\Below w.heap.size w w':=by
 have HC:=zh (vE A n c l b nm B m d r w hw hn hr hl ho hm hq hm2 hk hx hb)
 obtain⟨X,hX⟩:=ex (l.any fun g=>givM g ⟨nm,r⟩)
 rw[hX] at HC ⊢
 clear hw hn hr hl ho hm hq hm2 hk hx hb hX
 go_enter Tryz.func43,Tryz.ntmps43
 go_wp2_with fail
 refine HC.out.mono ?_
 rintro _ w1 ⟨⟨m,rfl,hm⟩,hb⟩
 have HB:=zh hb
 clear hb
 cases X
 all_goals
  go_wp2_with fail
  go_ret
  exact⟨rfl,HB.out⟩
theorem ua (p:Pk)(D C G:Option Addr)(dn dc cn cc gn gc:Nat)(nm:List UInt8)(B:Option Addr)(m d:Nat)(r:List Sp)(w:World)(hw:MaxOk w)(hg:GRow w G p.prov)(hgn:p.prov.length=gn)(hgl:gn<=1000000)(ho:∀ g∈p.prov,g.ver=[]\/Vm.check g.ver=0)(hv:Vm.check p.ver=0)(hm:r.length=m)(hq:SRow w B r)(hm2:m<=64)(hk:checkR r=0) :
  Calls Tryz.prog 15 #[.agg #[.string ⟨p.name.toArray⟩,.string ⟨p.ver.toArray⟩,.slice D dn dc,.slice C cn cc,.slice G gn gc,.float .f64 p.wt],.agg #[.string ⟨nm.toArray⟩,.slice B m d]] w fun e w'=>e=.returned (.bool (metP p ⟨nm,r⟩))/\Below w.heap.size w w':=by
 have an:∀ (fn:Fn) (first cap:Array Value) (w:World),(Instr.makeFunc fn first cap).run Tryz.prog w=.ok (.func fn first cap) w:=fun _ _ _ _=>rfl
 obtain⟨pn,pv,ae,aa,prov,wt⟩:=p
 dsimp only at hg hgn ho hv ⊢
 obtain⟨R,hR⟩:=ex (metP ⟨pn,pv,ae,aa,prov,wt⟩ ⟨nm,r⟩)
 rw[hR]
 unfold metP at hR
 dsimp only at hR
 obtain⟨V,hV⟩:=ex (w.alloc (.cells #[.string ⟨pn.toArray⟩,.string ⟨pv.toArray⟩,.slice D dn dc,.slice C cn cc,.slice G gn gc,.float .f64 wt] 31))
 obtain⟨b,hb⟩:=ex V.heap.size
 obtain⟨U,hU⟩:=ex (V.alloc (.cells #[.string ⟨nm.toArray⟩,.slice B m d] 64))
 have HV:=zh hV
 have ad:Hid (Bx2 b nm B m d U):=by rw[<-hU,<-hb];exact eB V nm B m d _
 have ac:Hid (Below V.heap.size V U):=ag hU
 have af:b<U.heap.size:=by rw[<-hU,<-hb];simp
 have HB:Hid (Below w.heap.size w U):=(ag hV).trans (ac.out.mono (ag hV).size)
 have HC:=zh (fun (W:World) (h:Below U.heap.size U W)=>vF G gn gc prov b nm B m d r W (ah hw (bt HB.out h)) hgn (Rg.ai hg (bt HB.out h)) hgl ho hm (ak hq (bt HB.out h)) hm2 hk (aS ad.out af h) (Nat.lt_of_lt_of_le af h.size))
 obtain⟨y,hy⟩:=ex (prov.any fun g=>givM g ⟨nm,r⟩)
 rw[hy] at HC hR
 obtain⟨x,hx⟩:=ex (hasL r pv)
 rw[hx] at hR
 have HS:Hid (St U U [⟨B,m,r⟩]):=⟨ah hw HB.out,Below.refl _ _,fun x hx=>by rw[List.mem_singleton.1 hx];exact⟨ak hq HB.out,hm⟩⟩
 have HH:=zh (aac HS.out 0 rfl hk d pv hv x hx)
 have HR:=zh hR
 clear hw hg hgn hgl ho hv hm hq hm2 hk hR hy hx
 by_cases e1:pn=nm
 case neg =>
  have d0:(pn==nm)=false:=beq_eq_false_iff_ne.2 e1
  have HF:Hid (y=R):=by show _=_;rw[<-HR.out,decide_eq_false e1,Bool.false_and,Bool.false_or]
  obtain⟨c0,-,-,-,c4,-⟩:=aH HV.out ac.out
  obtain⟨k0,k1⟩:=ad.out
  clear e1
  go_enter Tryz.func15,Tryz.ntmps15
  go_wp2_with fail
  refine (HC.out _ (Below.refl _ _)).mono ?_
  rintro _ u ⟨rfl,ab⟩
  have HU:Hid (Below w.heap.size w u):=bt HB.out ab
  clear ab
  go_wp2_with fail
  go_ret
  exact⟨by rw[<-HF.out];rfl,HU.out⟩
 have d0:(pn==nm)=true:=beq_iff_eq.2 e1
 have aj:Hid ((x||y)=R):=by show _=_;rw[<-HR.out,decide_eq_true e1,Bool.true_and]
 obtain⟨c0,c1,-,-,-,-⟩:=aH HV.out ac.out
 obtain⟨k0,k1⟩:=ad.out
 clear e1 HR
 go_enter Tryz.func15,Tryz.ntmps15
 go_wp2_with fail
 clear hV hU c0 c1 k0 k1
 refine HH.out.mono ?_
 rintro _ u ⟨rfl,hs⟩
 have HU:=zh hs.2.1
 have al:Hid (Below w.heap.size w u):=bt HB.out HU.out
 clear hs
 cases x
 case true =>
  have HF:Hid (true=R):=aj.out
  go_wp2_with fail
  go_ret
  exact⟨by rw[<-HF.out];rfl,al.out⟩
 have HF:Hid (y=R):=aj.out
 obtain⟨-,-,-,-,c4,-⟩:=aH HV.out (bt ac.out HU.out)
 go_wp2_with fail
 refine (HC.out _ HU.out).mono ?_
 rintro _ u2 ⟨rfl,ab⟩
 have am:Hid (Below w.heap.size w u2):=bt al.out ab
 clear ab
 go_wp2_with fail
 go_ret
 exact⟨by rw[<-HF.out];rfl,am.out⟩
end
end Go.Proofs.YtkaeamjnphaadaaGreatDoor
