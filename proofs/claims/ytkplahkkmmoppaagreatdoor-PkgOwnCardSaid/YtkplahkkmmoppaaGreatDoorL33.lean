/- Part 33 of what the laws lean on. -/
import Derived.Test.YtkplahkkmmoppaaGreatDoorL28
set_option maxRecDepth 100000
set_option maxHeartbeats 32000000
namespace Go.Proofs.YtkplahkkmmoppaaGreatDoor.Rs
open Go.RowKit Go.ChangeShapes Go.WideShapes Go.Joins
theorem open_spans {H : Type} {enc : TypeId × Value → H} {P : Program} {W : World} {b0 : Nat} {t e ts tb : TypeId} {n0 n1 n2 n3 : Field} {v : Value} {d : DataW H} {ps : List MemPlace}
  (ht : P.underlying t=some (.slice e)) (he : P.underlying e=some (.struct #[n0,n1,n2,n3])) (h0 : n0.type=ts∧n0.offset=0) (h1 : n1.type=ts∧n1.offset=1) (h2 : n2.type=tb∧n2.offset=2) (h3 : n3.type=tb∧n3.offset=3)
  (hs : P.underlying ts=some .string) (hb : P.underlying tb=some .bool) (cs : P.cellsOf ts=1) (cb : P.cellsOf tb=1) (ce : P.cellsOf e=4)
  (hval : Value.okWide P W .any b0 t v) (h : DataW.Trod enc P W 0 (fun _=>true) true t v d ps) :
  ∃ (A : Option Addr) (c : Nat) (l : List Sp),v = .slice A l.length c∧SRow W A l∧l.length≤c∧∀ s ∈ l,s.lo.length≤maxLen∧s.hi.length≤maxLen:=by
 obtain ⟨a0,l0,k0,rfl⟩:=okWide_slice ht hval
 obtain ⟨fuel,hf⟩:=h
 rcases Go.Deep.open_slice ht hf with ⟨hcs,_⟩ | ⟨a,len,cap,m,n,D,Pl,hcs,_,hl,_,hmm,_,hi⟩
 ·simp [Value.cells] at hcs
  obtain ⟨rfl,rfl,rfl⟩:=hcs
  exact ⟨none,0,[],rfl,fun h=>absurd h (by simp),by simp,by simp⟩
 ·simp [Value.cells] at hcs
  obtain ⟨rfl,rfl,rfl⟩:=hcs
  simp only [if_true] at hmm
  have each : ∀ i,i < l0 → ∃ s : Sp,SpAt W (a.add (i * 4)) s∧s.lo.length≤maxLen∧s.hi.length≤maxLen:=fun i hil=>by
   obtain ⟨cs',hc,ht'⟩:=hi i (by omega)
   rw [ce] at hc
   obtain ⟨y0,y1,y2,y3,m',_,hcl,g0,g1,g2,g3⟩:=trod_struct4 he ht'
   rw [ce] at hcl
   rw [h0.1,h0.2,cs,one_of hcl (by omega)] at g0
   rw [h1.1,h1.2,cs,one_of hcl (by omega)] at g1
   rw [h2.1,h2.2,cb,one_of hcl (by omega)] at g2
   rw [h3.1,h3.2,cb,one_of hcl (by omega)] at g3
   obtain ⟨s0,e0,_,m0⟩:=DataW.trod_string hs g0
   obtain ⟨s1,e1,_,m1⟩:=DataW.trod_string hs g1
   obtain ⟨b2,e2,_⟩:=DataW.trod_bool hb g2
   obtain ⟨b3,e3,_⟩:=DataW.trod_bool hb g3
   obtain ⟨_,hcl2,hat⟩:=World.cells?_some hc
   refine ⟨⟨s0.data.toList,s1.data.toList,b2,b3⟩,⟨?_,?_,?_,?_⟩,?_,?_⟩
   ·exact (hat 0 (by omega)).trans ((List.getElem?_eq_getElem (by omega)).trans (congrArg some (List.cons.inj e0).1))
   ·exact (hat 1 (by omega)).trans ((List.getElem?_eq_getElem (by omega)).trans (congrArg some (List.cons.inj e1).1))
   ·exact (hat 2 (by omega)).trans ((List.getElem?_eq_getElem (by omega)).trans (congrArg some (List.cons.inj e2).1))
   ·exact (hat 3 (by omega)).trans ((List.getElem?_eq_getElem (by omega)).trans (congrArg some (List.cons.inj e3).1))
   ·show s0.data.toList.length≤maxLen
    rw [Array.length_toList];exact m0
   ·show s1.data.toList.length≤maxLen
    rw [Array.length_toList];exact m1
  obtain ⟨f,hf2⟩:=Go.Deep.choose_lt each
  have hlen : ((List.range l0).map f).length=l0:=by simp
  refine ⟨some a,k0,(List.range l0).map f,by rw [hlen],fun h=>?_,by rw [hlen];exact hl,fun s hs=>?_⟩
  ·rw [hlen] at h
   refine ⟨a,rfl,?_,fun i hi2=>?_⟩
   ·have:=cell_in (hf2 0 h).1.1
    rwa [add_block,add_block] at this
   ·rw [hlen] at hi2
    have:=(hf2 i hi2).1
    simpa using this
  ·obtain ⟨i,hi2,rfl⟩:=List.mem_map.1 hs
   exact (hf2 i (List.mem_range.1 hi2)).2
end Go.Proofs.YtkplahkkmmoppaaGreatDoor.Rs
namespace Go.Proofs.YtkplahkkmmoppaaGreatDoor
open Go.RowKit Rs At
def Bk (b : Nat) (name : List UInt8) (A : Option Addr) (n c : Nat) (u : World) : Prop:=Bx2 b name A n c u∧b < u.heap.size
theorem bk_new (u : World) (name : List UInt8) (A : Option Addr) (n c : Nat) (T : TypeId) : Bk u.heap.size name A n c (u.alloc (.cells #[.string ⟨name.toArray⟩,.slice A n c] T)):=⟨bx2_new _ _ _ _ _ _,by simp⟩
end Go.Proofs.YtkplahkkmmoppaaGreatDoor
namespace Go.Proofs.YtkplahkkmmoppaaGreatDoor
open Go.ChangeShapes Go.WideShapes
theorem slice_cap {H : Type} {enc : TypeId × Value → H} {P : Program} {W : World} {t e : TypeId} {A : Option Addr} {n c : Nat} {d : DataW H} {ps : List MemPlace} (ht : P.underlying t=some (.slice e)) (h : DataW.Trod enc P W 0 (fun _=>true) true t (.slice A n c) d ps) : n≤maxLen:=by
 obtain ⟨fuel,hf⟩:=h
 rcases Go.Deep.open_slice ht hf with ⟨hcs,_⟩ | ⟨a,len,cap,m,k,D,Pl,hcs,_,hl,hm,_⟩
 ·simp [Value.cells] at hcs
  rw [hcs.2.1];exact Nat.zero_le _
 ·simp [Value.cells] at hcs
  obtain ⟨_,rfl,rfl⟩:=hcs
  exact Nat.le_trans hl hm
end Go.Proofs.YtkplahkkmmoppaaGreatDoor
namespace Go.Proofs.YtkplahkkmmoppaaGreatDoor
open Go.RowKit Rs At Pg
theorem late_store {U r1 : World} {L : List Ent} {T : TypeId} {C : Option Addr} {n : Nat} {l : List Sp} (name : List UInt8) (e : Nat) (hS : St U U L)
  (hb : Below (U.alloc (.cells #[.string ⟨#[]⟩,.slice none 0 0] T)).heap.size (U.alloc (.cells #[.string ⟨#[]⟩,.slice none 0 0] T)) r1) (hr : SRow r1 C l) (hn : l.length=n) :
  St U ((r1.setCell ⟨U.heap.size,0,none⟩ (.string ⟨name.toArray⟩)).setCell ⟨U.heap.size,1,none⟩ (.slice C n e)) (⟨C,n,l⟩ :: L) ∧
  Bk U.heap.size name C n e ((r1.setCell ⟨U.heap.size,0,none⟩ (.string ⟨name.toArray⟩)).setCell ⟨U.heap.size,1,none⟩ (.slice C n e)):=by
 obtain ⟨d0,d1,_,_⟩:=cell_two (w:=U) rfl hb
 have e1 : r1.heap[U.heap.size]? = some (.cells #[.string ⟨#[]⟩,.slice none 0 0] T (0,0)):=(hb.block _ (by simp)).trans (heap_alloc_new U _)
 have hno : ∀ j,2≤j → r1.cell? ⟨U.heap.size,j,none⟩=none:=fun j hj=>by simp [World.cell?,e1];omega
 have hap:=row_apart hr hno
 have hB : Below U.heap.size U r1:=((Below.refl _ _).alloc (Nat.le_refl _) _).trans (hb.mono (by simp))
 have hlt : U.heap.size < r1.heap.size:=Nat.lt_of_lt_of_le (by simp) hb.size
 refine ⟨st_new hS ((hB.setCell (Nat.le_refl _) _).setCell (Nat.le_refl _) _) (srow_far (srow_far hr hap) hap) hn,⟨?_,?_⟩,?_⟩
 ·simp [go_sem,d0]
 ·simp [go_sem,d1]
 ·simpa using hlt
theorem soon_store {U r1 : World} {L : List Ent} {T : TypeId} {C : Option Addr} {n : Nat} (name : List UInt8) (e : Nat) (hS : St U r1 L) :
  St U (r1.alloc (.cells #[.string ⟨name.toArray⟩,.slice C n e] T)) L∧Bk r1.heap.size name C n e (r1.alloc (.cells #[.string ⟨name.toArray⟩,.slice C n e] T)) :=
 ⟨st_step hS ((Below.refl _ _).alloc (Nat.le_refl _) _),bk_new _ _ _ _ _ _⟩
end Go.Proofs.YtkplahkkmmoppaaGreatDoor
namespace Go.Proofs.YtkplahkkmmoppaaGreatDoor
open Go.RowKit Rs At Pg
namespace Pg
theorem met_self {p : Pk} {l : List Sp} (h : hasL l p.ver=true) : metP p ⟨p.name,l⟩=true:=by
 unfold metP
 dsimp only
 rw [decide_eq_true rfl,h];rfl
theorem met_none (p : Pk) (nm : List UInt8) : metP p ⟨nm,[]⟩=false:=by
 unfold metP
 dsimp only
 have h1 : hasL [] p.ver=false:=rfl
 rw [h1,Bool.and_false,Bool.false_or]
 refine List.any_eq_false.2 fun g _=>?_
 unfold givM
 dsimp only
 split
 ·rw [decide_eq_false (p:=([] : List Sp)=allR.map spOf) (by decide),Bool.and_false];decide
 ·rw [show hasL [] g.ver=false from rfl,Bool.and_false];decide
theorem met_bare (p : Pk) (l : List Sp) : metP { p with prov:=[] } ⟨p.name,l⟩=hasL l p.ver:=by
 unfold metP
 dsimp only
 rw [decide_eq_true rfl,Bool.true_and]
 show (hasL l p.ver || false)=_
 rw [Bool.or_false]
theorem met_other {p : Pk} {nm : List UInt8} {l : List Sp} (h : p.name ≠ nm) : metP { p with prov:=[] } ⟨nm,l⟩=false:=by
 unfold metP
 dsimp only
 rw [decide_eq_false h,Bool.false_and];rfl
end Pg
attribute [local go_sem ↓] Go.wp_at_zero Go.wp_at_succ
attribute [local go_sem] Pg.run_store_float
theorem lawPkgOwn_any (p : Pk) (D C G : Option Addr) (dn dc cn cc gn gc : Nat) (A : Option Addr) (n c : Nat) (l : List Sp) (w : World) (hk : KOk w) (hd : Pg.DRow w D p.deps) (hdn : p.deps.length=dn) (hc : ARow w C p.confl) (hcn : p.confl.length=cn) (hg : GRow w G p.prov) (hgn : p.prov.length=gn) (hf : PWide p) (hn : l.length=n) (hr : SRow w A l) (_hm : n≤maxLen) (_hs : ∀ s ∈ l,s.lo.length≤maxLen∧s.hi.length≤maxLen) :
  Calls Tryz.prog 7 #[.agg #[.string ⟨p.name.toArray⟩,.string ⟨p.ver.toArray⟩,.slice D dn dc,.slice C cn cc,.slice G gn gc,.float .f64 p.wt],.slice A n c] w fun e w'=>e = .returned (.bool true)∧Below w.heap.size w w':=by
 obtain ⟨W2,hW2⟩ : ∃ W,w.alloc (.cells #[.string ⟨p.name.toArray⟩,.string ⟨p.ver.toArray⟩,.slice D dn dc,.slice C cn cc,.slice G gn gc,.float .f64 p.wt] 27)=W:=⟨_,rfl⟩
 have HB : Hid (Below w.heap.size w W2):=alloc_low hW2
 have HTR : Hid (∀ u,Below W2.heap.size W2 u → Below w.heap.size w u):=fun u h=>HB.out.trans (h.mono HB.out.size)
 have HK : Hid (∀ u,Below W2.heap.size W2 u → KOk u):=fun u h=>kOk_below hk (HTR.out u h)
 have HDR : Hid (∀ u,Below W2.heap.size W2 u → Pg.DRow u D p.deps∧ARow u C p.confl∧GRow u G p.prov):=fun u h=>⟨drowD_below hd (HTR.out u h),arow_below hc (HTR.out u h),Rg.row_below hg (HTR.out u h)⟩
 obtain ⟨b,hb⟩ : ∃ b,w.heap.size=b:=⟨_,rfl⟩
 obtain ⟨nm,hnm⟩ : ∃ x,p.name=x:=⟨_,rfl⟩
 obtain ⟨vr,hvr⟩ : ∃ x,p.ver=x:=⟨_,rfl⟩
 obtain ⟨wt,hwt⟩ : ∃ x,p.wt=x:=⟨_,rfl⟩
 have HC6 : Hid (∀ u,Below W2.heap.size W2 u → u.cell? ⟨b,0,none⟩=some (.string ⟨nm.toArray⟩)∧u.cell? ⟨b,1,none⟩=some (.string ⟨vr.toArray⟩)∧u.cell? ⟨b,2,none⟩=some (.slice D dn dc)∧u.cell? ⟨b,3,none⟩=some (.slice C cn cc)∧u.cell? ⟨b,4,none⟩=some (.slice G gn gc)∧u.cell? ⟨b,5,none⟩=some (.float .f64 wt)):=fun u h=>by
  rw [← hb,← hnm,← hvr,← hwt]
  exact cell_six hW2 h
 have HFW:=Lib.hid hf
 have HNM:=Lib.hid hnm
 have HVR:=Lib.hid hvr
 have HWT:=Lib.hid hwt
 have HDN:=Lib.hid hdn
 have HCN:=Lib.hid hcn
 have HGN:=Lib.hid hgn
 have HFP : Hid (∀ u,Below W2.heap.size W2 u → Calls Tryz.prog 10 #[.agg #[.string ⟨nm.toArray⟩,.string ⟨vr.toArray⟩,.slice D dn dc,.slice C cn cc,.slice G gn gc,.float .f64 wt]] u fun e w'=>e = .returned (.bool (fewP p))∧Below u.heap.size u w'):=fun u h=>by
  rw [← hnm,← hvr,← hwt]
  exact few6_any p D C G dn dc cn cc gn gc u (HK.out u h).1 (HDR.out u h).1 hdn (HDR.out u h).2.1 hcn (HDR.out u h).2.2 hgn hf
 have HCK : Hid (PFew p → ∀ u,Below W2.heap.size W2 u → Calls Tryz.prog 13 #[.agg #[.string ⟨nm.toArray⟩,.string ⟨vr.toArray⟩,.slice D dn dc,.slice C cn cc,.slice G gn gc,.float .f64 wt]] u fun e w'=>e = .returned (.int .i64 (checkP p))∧Below u.heap.size u w'):=fun hp u h=>by
  rw [← hnm,← hvr,← hwt]
  exact refCheckPkg_any p D C G dn dc cn cc gn gc u (HK.out u h).1 (HDR.out u h).1 hdn (HDR.out u h).2.1 hcn (HDR.out u h).2.2 hgn hp
 have HTO : Hid (PSmall p → ∀ u,Below W2.heap.size W2 u → Calls Tryz.prog 11 #[.agg #[.string ⟨nm.toArray⟩,.string ⟨vr.toArray⟩,.slice D dn dc,.slice C cn cc,.slice G gn gc,.float .f64 wt]] u fun e w'=>∃ D' dc' C' cc' G' gc',e = .returned (.agg #[.string ⟨nm.toArray⟩,.string ⟨vr.toArray⟩,.slice D' dn dc',.slice C' cn cc',.slice G' gn gc',.float .f64 wt])∧Pg.DRow w' D' p.deps∧ARow w' C' p.confl∧GRow w' G' p.prov∧Below u.heap.size u w'):=fun hp u h=>by
  rw [← hnm,← hvr,← hwt]
  exact to6_any p D C G dn dc cn cc gn gc u (HDR.out u h).1 hdn (HDR.out u h).2.1 hcn (HDR.out u h).2.2 hgn hp
 obtain ⟨fp,hfp⟩ : ∃ x,fewP p=x:=⟨_,rfl⟩
 obtain ⟨K,hK⟩ : ∃ x,checkP p=x:=⟨_,rfl⟩
 rw [hfp] at HFP
 rw [hK] at HCK
 have HFP0:=Lib.hid hfp
 have HK0:=Lib.hid hK
 have HSR : Hid (∀ u,Below W2.heap.size W2 u → SRow u A l):=fun u h=>srow_below hr (HTR.out u h)
 obtain ⟨K2,hK2⟩ : ∃ x,checkA ⟨nm,l⟩=x:=⟨_,rfl⟩
 obtain ⟨H,hH⟩ : ∃ x,hasL l vr=x:=⟨_,rfl⟩
 have HK2:=Lib.hid hK2
 have HH:=Lib.hid hH
 have HN:=Lib.hid hn
 have HNB : Hid (nm.length≤maxLen):=by show _≤_;rw [← hnm];exact hf.1
 rw [hnm,hvr,hwt] at hW2 ⊢
 clear hk hd hdn hc hcn hg hgn hf hfp hK hK2 hH hnm hvr hwt hn hr _hm _hs
 obtain ⟨c0,c1,c2,c3,c4,c5⟩:=HC6.out _ (Below.refl _ _)
 go_enter Tryz.func7,Tryz.ntmps7
 go_wp2_with fail
 clear hW2 hb c0 c1 c2 c3 c4 c5
 refine (known6_any _ (HK.out _ (Below.refl _ _))).mono ?_
 rintro _ u1 ⟨rfl,hb⟩
 have HU1:=Lib.hid hb
 clear hb
 obtain ⟨c0,c1,c2,c3,c4,c5⟩:=HC6.out _ HU1.out
 go_wp2_with fail
 refine (HFP.out _ HU1.out).mono ?_
 rintro _ u2 ⟨rfl,hb⟩
 have HU2:=Lib.hid (HU1.out.trans (hb.mono HU1.out.size))
 clear hb c0 c1 c2 c3 c4 c5
 obtain ⟨c0,c1,c2,c3,c4,c5⟩:=HC6.out _ HU2.out
 cases fp
 ·go_wp2_with fail
  go_ret
  exact ⟨rfl,HTR.out _ HU2.out⟩
 have HPF:=Lib.hid (fewP_all HFP0.out HFW.out.2.2.2.2.2.2.2.2)
 go_wp2_with fail
 refine (HCK.out HPF.out.1 _ HU2.out).mono ?_
 rintro _ u3 ⟨rfl,hb⟩
 have HU3:=Lib.hid (HU2.out.trans (hb.mono HU2.out.size))
 clear hb c0 c1 c2 c3 c4 c5
 obtain ⟨c0,c1,c2,c3,c4,c5⟩:=HC6.out _ HU3.out
 by_cases k0 : K=0
 case neg =>
  go_wp2_with fail
  go_ret
  exact ⟨rfl,HTR.out _ HU3.out⟩
 subst k0
 by_cases hn20 : 20 < n
 ·have p1 : decide ((20 : Int) < (n : Int))=true:=decide_eq_true (by omega)
  clear hn20
  go_wp2_with fail
  go_ret
  exact ⟨rfl,HTR.out _ HU3.out⟩
 have p1 : decide ((20 : Int) < (n : Int))=false:=decide_eq_false (by omega)
 go_wp2_with fail
 refine (refCheckAtom_any nm A n c l _ (HK.out _ HU3.out).1 HNB.out HN.out (HSR.out _ HU3.out) (by omega)).mono ?_
 rintro _ u4 ⟨rfl,hb⟩
 rw [HK2.out]
 have HU4:=Lib.hid (HU3.out.trans (hb.mono HU3.out.size))
 clear hb c0 c1 c2 c3 c4 c5
 obtain ⟨c0,c1,c2,c3,c4,c5⟩:=HC6.out _ HU4.out
 by_cases k1 : K2=0
 case neg =>
  go_wp2_with fail
  go_ret
  exact ⟨rfl,HTR.out _ HU4.out⟩
 subst k1
 have HGV:=Lib.hid (check_gives HK0.out)
 have HGL : Hid (gn≤1000000):=by show gn≤_;rw [← HGN.out];exact HPF.out.1.2.2.2.2.2.1
 have HCR : Hid (checkR l=0):=(check_parts HK2.out).2.1
 have HN20 : Hid (n≤20):=by show n≤_;omega
 clear hn20
 have HVC : Hid (Vm.check vr=0):=by show _=_;rw [← HVR.out];exact HGV.out.1
 have HM1 : Hid (metP p ⟨nm,l⟩=true ∨ H=false):=by
  cases hh : H
  ·exact Or.inr rfl
  ·refine Or.inl ?_
   rw [← HNM.out]
   exact met_self (by rw [HVR.out,HH.out,hh])
 have HM2 : Hid (metP p ⟨nm,allS⟩=true):=by show _=_;rw [← HNM.out];exact met_self rfl
 have HM3 : Hid (metP p ⟨nm,[]⟩=false):=met_none p nm
 have HM4 : Hid (metP { p with prov:=[] } ⟨nm,l⟩=H):=by show _=_;rw [← HNM.out,met_bare,HVR.out,HH.out]
 have HME : Hid (∀ u D' C' G' dc' cc' gc' r A' m' c',MaxOk u → GRow u G' p.prov → SRow u A' r → r.length=m' → m'≤64 → checkR r=0 → Calls Tryz.prog 26 #[.agg #[.string ⟨nm.toArray⟩,.string ⟨vr.toArray⟩,.slice D' dn dc',.slice C' cn cc',.slice G' gn gc',.float .f64 wt],.agg #[.string ⟨nm.toArray⟩,.slice A' m' c']] u fun e w'=>e = .returned (.bool (metP p ⟨nm,r⟩))∧Below u.heap.size u w'):=fun u D' C' G' dc' cc' gc' r A' m' c' h1 h2 h3 h4 h5 h6=>by
  rw [← HNM.out,← HVR.out,← HWT.out]
  exact pkgMeets_any p D' C' G' dn dc' cn cc' gn gc' p.name A' m' c' r u h1 h2 HGN.out HGL.out HGV.out.2 HGV.out.1 h4 h3 h5 h6
 have HMB : Hid (∀ u D' C' dc' cc' x r A' m' c',MaxOk u → SRow u A' r → r.length=m' → m'≤64 → checkR r=0 → Calls Tryz.prog 26 #[.agg #[.string ⟨nm.toArray⟩,.string ⟨vr.toArray⟩,.slice D' dn dc',.slice C' cn cc',.slice none 0 0,.float .f64 wt],.agg #[.string ⟨List.toArray x⟩,.slice A' m' c']] u fun e w'=>e = .returned (.bool (metP { p with prov:=[] } ⟨x,r⟩))∧Below u.heap.size u w'):=fun u D' C' dc' cc' x r A' m' c' h1 h3 h4 h5 h6=>by
  rw [← HNM.out,← HVR.out,← HWT.out]
  exact pkgMeets_any { p with prov:=[] } D' C' none dn dc' cn cc' 0 0 x A' m' c' r u h1 (fun h=>absurd h (by simp)) rfl (by omega) (fun g hg=>by cases hg) HGV.out.1 h4 h3 h5 h6
 by_cases eo : nm = [113]
 case' pos =>
  have d0 : (nm == [113])=true:=beq_iff_eq.2 eo
  have HOT : Hid (metP { p with prov:=[] } ⟨[114],allS⟩=false):=met_other (by rw [HNM.out,eo];decide)
 case' neg =>
  have d0 : (nm == [113])=false:=beq_eq_false_iff_ne.2 eo
  have HOT : Hid (metP { p with prov:=[] } ⟨[113],allS⟩=false):=met_other (by rw [HNM.out];exact eo)
 all_goals
  clear eo
  go_wp2_with fail
  clear d0 p1
  refine (HTO.out HPF.out.2 _ HU4.out).mono ?_
  rintro _ u5 ⟨D',dc',C',cc',G',gc',rfl,hd,hc,hg,hb⟩
  have HU5:=Lib.hid (HU4.out.trans (hb.mono HU4.out.size))
  have HG5:=Lib.hid hg
  clear hd hc hg hb c0 c1 c2 c3 c4 c5
  obtain ⟨bx,hbx⟩ : ∃ b,u5.heap.size=b:=⟨_,rfl⟩
  obtain ⟨V5,hV5⟩ : ∃ W,u5.alloc (.cells #[.string ⟨nm.toArray⟩,.string ⟨vr.toArray⟩,.slice D' dn dc',.slice C' cn cc',.slice G' gn gc',.float .f64 wt] 34)=W:=⟨_,rfl⟩
  have hbl5 : Below u5.heap.size u5 V5:=alloc_low hV5
  have HV5 : Hid (Below W2.heap.size W2 V5):=HU5.out.trans (hbl5.mono HU5.out.size)
  have HG5b : Hid (GRow V5 G' p.prov):=Rg.row_below HG5.out hbl5
  have HX5 : Hid (V5.heap[bx]? = some (.cells #[.string ⟨nm.toArray⟩,.string ⟨vr.toArray⟩,.slice D' dn dc',.slice C' cn cc',.slice G' gn gc',.float .f64 wt] 34 (0,0))∧bx < V5.heap.size):=by
   rw [← hV5,← hbx]
   exact ⟨heap_alloc_new _ _,by simp⟩
  have HXL : Hid (W2.heap.size≤bx):=by show _≤_;rw [← hbx];exact HU5.out.size
  clear hbl5 HG5
  obtain ⟨c0,c1,c2,c3,c4,c5⟩:=HC6.out _ HV5.out
  go_wp2_with fail
  clear hV5 hbx
  refine (to4_any nm A n c l _ HN.out (HSR.out _ HV5.out) (Nat.le_trans HN20.out (by decide))).mono ?_
  rintro _ u6 ⟨A',c',rfl,hsr,hb⟩
  have HU6:=Lib.hid (HV5.out.trans (hb.mono HV5.out.size))
  have HG6:=Lib.hid (Rg.row_below HG5b.out hb)
  have HX6 : Hid (u6.heap[bx]? = _∧bx < u6.heap.size):=⟨(hb.block _ HX5.out.2).trans HX5.out.1,Nat.lt_of_lt_of_le HX5.out.2 hb.size⟩
  have HS6:=Lib.hid hsr
  clear hsr hb c0 c1 c2 c3 c4 c5 HX5 HG5b
  obtain ⟨ba,hba⟩ : ∃ b,u6.heap.size=b:=⟨_,rfl⟩
  obtain ⟨V6,hV6⟩ : ∃ W,u6.alloc (.cells #[.string ⟨nm.toArray⟩,.slice A' n c'] 66)=W:=⟨_,rfl⟩
  have hbl6 : Below u6.heap.size u6 V6:=alloc_low hV6
  have HV6 : Hid (Below W2.heap.size W2 V6):=HU6.out.trans (hbl6.mono HU6.out.size)
  have HG7 : Hid (GRow V6 G' p.prov):=Rg.row_below HG6.out hbl6
  have HS7 : Hid (SRow V6 A' l):=srow_below HS6.out hbl6
  have HX7 : Hid (V6.heap[bx]? = _∧bx < V6.heap.size):=⟨(hbl6.block _ HX6.out.2).trans HX6.out.1,Nat.lt_of_lt_of_le HX6.out.2 hbl6.size⟩
  have HXA : Hid (V6.heap[ba]? = some (.cells #[.string ⟨nm.toArray⟩,.slice A' n c'] 66 (0,0))∧ba < V6.heap.size∧bx < ba):=by
   refine ⟨?_,?_,?_⟩
   ·rw [← hV6,← hba];exact heap_alloc_new _ _
   ·rw [← hV6,← hba];simp
   ·rw [← hba];exact HX6.out.2
  clear hbl6 HG6 HS6 HX6
  have HC8 : Hid (∀ u,Below V6.heap.size V6 u → (u.cell? ⟨bx,0,none⟩=some (.string ⟨nm.toArray⟩)∧u.cell? ⟨bx,1,none⟩=some (.string ⟨vr.toArray⟩)∧u.cell? ⟨bx,2,none⟩=some (.slice D' dn dc')∧u.cell? ⟨bx,3,none⟩=some (.slice C' cn cc')∧u.cell? ⟨bx,4,none⟩=some (.slice G' gn gc')∧u.cell? ⟨bx,5,none⟩=some (.float .f64 wt))∧u.cell? ⟨ba,0,none⟩=some (.string ⟨nm.toArray⟩)∧u.cell? ⟨ba,1,none⟩=some (.slice A' n c')):=fun u h=>by
   have h1:=(h.block _ HX7.out.2).trans HX7.out.1
   have h2:=(h.block _ HXA.out.2.1).trans HXA.out.1
   exact ⟨⟨(cell_of_row u bx 0 _ _ _ h1).trans rfl,(cell_of_row u bx 1 _ _ _ h1).trans rfl,(cell_of_row u bx 2 _ _ _ h1).trans rfl,(cell_of_row u bx 3 _ _ _ h1).trans rfl,(cell_of_row u bx 4 _ _ _ h1).trans rfl,(cell_of_row u bx 5 _ _ _ h1).trans rfl⟩,(cell_of_row u ba 0 _ _ _ h2).trans rfl,(cell_of_row u ba 1 _ _ _ h2).trans rfl⟩
  have HV6r : Hid (Below V6.heap.size V6 V6):=Below.refl _ _
  have HST : Hid (∀ u,Below V6.heap.size V6 u → St u u [⟨A',n,l⟩]):=fun u h=>⟨(HK.out u (HV6.out.trans (h.mono HV6.out.size))).1,Below.refl _ _,fun x hx=>by rw [List.mem_singleton.1 hx];exact ⟨srow_below HS7.out h,HN.out⟩⟩
  obtain ⟨c0,c1,c2,c3,c4,c5⟩:=HC6.out _ HV6.out
  obtain ⟨⟨x0,x1,x2,x3,x4,x5⟩,a0,a1⟩:=HC8.out _ HV6r.out
  go_wp2_with fail
  clear hV6 hba
  refine (s4_has (HST.out _ HV6r.out) 0 rfl HCR.out c' vr HVC.out H HH.out).mono ?_
  rintro _ u7 ⟨rfl,hs⟩
  have HU7:=Lib.hid hs.2.1
  clear hs c0 c1 c2 c3 c4 c5 x0 x1 x2 x3 x4 x5 a0 a1
  obtain ⟨c0,c1,c2,c3,c4,c5⟩:=HC6.out _ (HV6.out.trans (HU7.out.mono HV6.out.size))
  obtain ⟨⟨x0,x1,x2,x3,x4,x5⟩,a0,a1⟩:=HC8.out _ HU7.out
  cases H
  case' true =>
   have HMT : Hid (metP p ⟨nm,l⟩=true):=HM1.out.resolve_right (by decide)
   go_wp2_with fail
   refine (HME.out u7 D' C' G' dc' cc' gc' l A' n c' (HST.out _ HU7.out).1 (Rg.row_below HG7.out HU7.out) (srow_below HS7.out HU7.out) HN.out (Nat.le_trans HN20.out (by decide)) HCR.out).mono ?_
   rintro _ u8 ⟨rfl,hb⟩
   rw [HMT.out]
   have HU8:=Lib.hid (HU7.out.trans (hb.mono HU7.out.size))
   clear hb c0 c1 c2 c3 c4 c5 x0 x1 x2 x3 x4 x5 a0 a1 HMT
  case' false =>
   have HU8:=Lib.hid HU7.out
   obtain ⟨u8,hu8⟩ : ∃ u,u=u7:=⟨_,rfl⟩
   rw [← hu8] at HU8
   rw [← hu8]
   clear hu8 c0 c1 c2 c3 c4 c5 x0 x1 x2 x3 x4 x5 a0 a1
 all_goals
  have HU8w : Hid (Below W2.heap.size W2 u8):=HV6.out.trans (HU8.out.mono HV6.out.size)
  have HS8 : Hid (St u8 u8 [⟨A',n,l⟩]):=HST.out _ HU8.out
  have HCN : Hid (∀ u,Below u8.heap.size u8 u → u.cell? ⟨b,0,none⟩=some (.string ⟨nm.toArray⟩)):=fun u h=>(HC6.out _ (HU8w.out.trans (h.mono HU8w.out.size))).1
  have HALL : Hid (∀ W,Below u8.heap.size u8 W → Calls Tryz.prog 29 #[] W fun e w'=>∃ C d,e = .returned (.slice C 1 d)∧SRow w' C allS∧Below W.heap.size W w'):=fun W _=>s6_all W
  have HB0 : Hid (Below u8.heap.size u8 u8.drew):=(Below.refl _ _).drew
  have HB0b : Hid (Below u8.heap.size u8 (u8.alloc (.cells #[.string ⟨#[]⟩,.slice none 0 0] 66))):=(Below.refl _ _).alloc (Nat.le_refl _) _
  have HB0a : Hid (Below u8.heap.size u8 (u8.alloc (.cells #[.string ⟨#[]⟩,.slice none 0 0] 66)).drew):=HB0b.out.drew
  have hcn0:=HCN.out _ (Below.refl _ _)
  go_upto_region 12 with fail
  clear hcn0
  go_cut [8] (fun v wx=>Hid (∃ bg Cg dg,v = .pointer (some ⟨bg,0,none⟩)∧Bk bg nm Cg 1 dg wx∧St u8 wx [⟨Cg,1,allS⟩,⟨A',n,l⟩]))
  case first =>
   go_region_held3 (fun u=>u.cell? ⟨b,0,none⟩=some (.string ⟨nm.toArray⟩))
    (first
     | with_reducible exact HCN.out _ HB0.out
     | with_reducible exact HCN.out _ HZ1.out
     | with_reducible exact HCN.out _ (HZ1.out.alloc HZ1.out.size _)
     | with_reducible exact HCN.out _ HB0a.out
     | with_reducible exact HCN.out _ HZ3.out
     | with_reducible exact HCN.out _ HB0b.out
     | exact HCN.out _ (Below.setCell (Below.setCell HZ3.out (p:=⟨u8.heap.size,0,none⟩) (Nat.le_refl _) _) (p:=⟨u8.heap.size,1,none⟩) (Nat.le_refl _) _)
     | (go_keep))
    (first
     | (go_at_call 29;refine (HALL.out _ (by first | with_reducible exact HB0.out | with_reducible exact HB0a.out)).mono ?_;rintro _ z ⟨Cg,dg,rfl,hrg,hbg⟩;have HRG:=Lib.hid hrg;(first
       | (have hb3 : Below u8.drew.heap.size u8.drew z:=(by with_reducible exact hbg);have HZ1:=Lib.hid (HB0.out.trans (hb3.mono HB0.out.size));clear hb3)
       | (have hb3 : Below (u8.alloc (.cells #[.string ⟨#[]⟩,.slice none 0 0] 66)).drew.heap.size (u8.alloc (.cells #[.string ⟨#[]⟩,.slice none 0 0] 66)).drew z:=(by with_reducible exact hbg);have HZ2:=Lib.hid ((Below.refl _ (u8.alloc (.cells #[.string ⟨#[]⟩,.slice none 0 0] 66))).drew.trans hb3);have HZ3:=Lib.hid (HB0a.out.trans (hb3.mono HB0a.out.size));clear hb3;obtain ⟨d0,d1,g0,g1⟩:=cell_two rfl HZ2.out));clear hrg hbg))
   all_goals
    go_wp2_with fail
    go_meet
    case rel =>
     first
      | exact (fun (q : _∧_)=>⟨_,Cg,dg,rfl,q.2,q.1⟩) (late_store nm dg HS8.out HZ2.out HRG.out rfl)
      | exact (fun (q : _∧_)=>⟨_,Cg,dg,rfl,q.2,q.1⟩) (soon_store (T:=66) (C:=Cg) (n:=1) nm dg (st_new HS8.out HZ1.out HRG.out rfl))
  case rest =>
  obtain ⟨bg,Cg,dg,rfl,hbk,hst⟩:=hcut.out
  have HBK:=Lib.hid hbk
  have HW9 : Hid (Below V6.heap.size V6 wc):=HU8.out.trans (hst.2.1.mono HU8.out.size)
  have HRG : Hid (SRow wc Cg allS):=(st_row hst 0 rfl).1
  have HMX : Hid (∀ u,Below V6.heap.size V6 u → MaxOk u):=fun u h=>(HK.out _ (HV6.out.trans (h.mono HV6.out.size))).1
  clear hbk hst hcut HB0 HB0a HB0b HCN HALL HS8
  obtain ⟨⟨x0,x1,x2,x3,x4,x5⟩,a0,a1⟩:=HC8.out _ HW9.out
  obtain ⟨k0,k1⟩:=HBK.out.1
  go_wp2_with fail
  refine (HME.out wc D' C' G' dc' cc' gc' allS Cg 1 dg (HMX.out _ HW9.out) (Rg.row_below HG7.out HW9.out) HRG.out rfl (by decide) (by decide +kernel)).mono ?_
  rintro _ u9 ⟨rfl,hb⟩
  rw [HM2.out]
  have HU9:=Lib.hid (HW9.out.trans (hb.mono HW9.out.size))
  clear hb x0 x1 x2 x3 x4 x5 a0 a1 k0 k1
  obtain ⟨⟨x0,x1,x2,x3,x4,x5⟩,a0,a1⟩:=HC8.out _ HU9.out
  obtain ⟨c0,c1,c2,c3,c4,c5⟩:=HC6.out _ (HV6.out.trans (HU9.out.mono HV6.out.size))
  go_wp2_with fail
  refine (HME.out u9 D' C' G' dc' cc' gc' [] none 0 0 (HMX.out _ HU9.out) (Rg.row_below HG7.out HU9.out) (fun h=>absurd h (by simp)) rfl (by decide) (by decide +kernel)).mono ?_
  rintro _ u10 ⟨rfl,hb⟩
  rw [HM3.out]
  have HU10:=Lib.hid (HU9.out.trans (hb.mono HU9.out.size))
  clear hb x0 x1 x2 x3 x4 x5 a0 a1 c0 c1 c2 c3 c4 c5
  have HXX : Hid (u10.heap[bx]? = _∧bx < u10.heap.size):=⟨(HU10.out.block _ HX7.out.2).trans HX7.out.1,Nat.lt_of_lt_of_le HX7.out.2 HU10.out.size⟩
  have hx4:=(cell_of_row u10 bx 4 _ _ _ HXX.out.1).trans rfl
  have hz4 : u10.frozen? ⟨bx,4,none⟩=false:=by simp [World.frozen?,HXX.out.1]
  obtain ⟨V8,hV8⟩ : ∃ W,u10.setCell ⟨bx,4,none⟩ (.slice none 0 0)=W:=⟨_,rfl⟩
  have hbut : But (some bx) u10 V8:=by rw [← hV8];exact but_set u10 ⟨bx,4,none⟩ _
  have HX8 : Hid (V8.heap[bx]? = some (.cells #[.string ⟨nm.toArray⟩,.string ⟨vr.toArray⟩,.slice D' dn dc',.slice C' cn cc',.slice none 0 0,.float .f64 wt] 34 (0,0))):=by show _=_;rw [← hV8];exact (set_heap HXX.out.1).trans rfl
  have HA8 : Hid (V8.heap[ba]? = some (.cells #[.string ⟨nm.toArray⟩,.slice A' n c'] 66 (0,0))) :=
   (hbut.2 ba (Nat.lt_of_lt_of_le HXA.out.2.1 HU10.out.size) (fun e=>by have:=HXA.out.2.2;have:=Option.some.inj e;omega)).trans ((HU10.out.block _ HXA.out.2.1).trans HXA.out.1)
  have HS8 : Hid (SRow V8 A' l):=srow_but (srow_below HS7.out HU10.out) hbut (srow_nob (srow_below HS7.out HU10.out) (fun j x hx y e=>by
   rw [cell_of_row u10 bx j _ _ (0,0) HXX.out.1] at hx
   subst e
   have hm:=Array.mem_of_getElem? hx
   simp at hm))
  have HV8 : Hid (Below W2.heap.size W2 V8):=by
   show Below _ _ _
   rw [← hV8]
   exact (HV6.out.trans (HU10.out.mono HV6.out.size)).setCell (p:=⟨bx,4,none⟩) HXL.out _
  clear hbut HX7 HXA HS7 HG7 HXX
  have HC9 : Hid (∀ u,Below V8.heap.size V8 u → (u.cell? ⟨bx,0,none⟩=some (.string ⟨nm.toArray⟩)∧u.cell? ⟨bx,1,none⟩=some (.string ⟨vr.toArray⟩)∧u.cell? ⟨bx,2,none⟩=some (.slice D' dn dc')∧u.cell? ⟨bx,3,none⟩=some (.slice C' cn cc')∧u.cell? ⟨bx,4,none⟩=some (.slice none 0 0)∧u.cell? ⟨bx,5,none⟩=some (.float .f64 wt))∧u.cell? ⟨ba,0,none⟩=some (.string ⟨nm.toArray⟩)∧u.cell? ⟨ba,1,none⟩=some (.slice A' n c')∧u.cell? ⟨b,1,none⟩=some (.string ⟨vr.toArray⟩)):=fun u h=>by
   have h1:=(h.block _ (block_lt HX8.out)).trans HX8.out
   have h2:=(h.block _ (block_lt HA8.out)).trans HA8.out
   exact ⟨⟨(cell_of_row u bx 0 _ _ _ h1).trans rfl,(cell_of_row u bx 1 _ _ _ h1).trans rfl,(cell_of_row u bx 2 _ _ _ h1).trans rfl,(cell_of_row u bx 3 _ _ _ h1).trans rfl,(cell_of_row u bx 4 _ _ _ h1).trans rfl,(cell_of_row u bx 5 _ _ _ h1).trans rfl⟩,(cell_of_row u ba 0 _ _ _ h2).trans rfl,(cell_of_row u ba 1 _ _ _ h2).trans rfl,(HC6.out _ (HV8.out.trans (h.mono HV8.out.size))).2.1⟩
  have HMY : Hid (∀ u,Below V8.heap.size V8 u → MaxOk u):=fun u h=>(HK.out _ (HV8.out.trans (h.mono HV8.out.size))).1
  have HQ0 : Hid (Below V8.heap.size V8 V8.drew):=(Below.refl _ _).drew
  go_wp2_with fail
  clear hV8 hx4 hz4
  go_region_held3 (fun u=>(u.cell? ⟨bx,0,none⟩=some (.string ⟨nm.toArray⟩)∧u.cell? ⟨bx,1,none⟩=some (.string ⟨vr.toArray⟩)∧u.cell? ⟨bx,2,none⟩=some (.slice D' dn dc')∧u.cell? ⟨bx,3,none⟩=some (.slice C' cn cc')∧u.cell? ⟨bx,4,none⟩=some (.slice none 0 0)∧u.cell? ⟨bx,5,none⟩=some (.float .f64 wt))∧u.cell? ⟨ba,0,none⟩=some (.string ⟨nm.toArray⟩)∧u.cell? ⟨ba,1,none⟩=some (.slice A' n c')∧u.cell? ⟨b,1,none⟩=some (.string ⟨vr.toArray⟩))
   (first
    | with_reducible exact HC9.out _ HQ0.out
    | with_reducible exact HC9.out _ HQ1.out
    | with_reducible exact HC9.out _ HQ2.out
    | with_reducible exact HC9.out _ HQ3.out
    | with_reducible exact HC9.out _ HQ4.out)
   (first
    | (go_at_call 26;refine (HMB.out _ D' C' dc' cc' _ allS Ce 1 de (HMY.out _ HQ3.out) HSE.out rfl (by decide) (by decide +kernel)).mono ?_;rintro _ z4 ⟨rfl,hb⟩;rw [HOT.out];have HQ4:=Lib.hid (HQ3.out.trans (hb.mono HQ3.out.size));clear hb)
    | (go_at_call 29;refine (s6_all _).mono ?_;rintro _ z3 ⟨Ce,de,rfl,hre,hb⟩;have HSE:=Lib.hid hre;have HQ3:=Lib.hid (HQ2.out.trans (hb.mono HQ2.out.size));clear hb hre)
    | (go_at_call 30;refine (s4_has (u:=z1) (L:=[⟨A',n,l⟩]) (w0:=z1) ⟨HMY.out _ HQ1.out,Below.refl _ _,fun x hx=>by rw [List.mem_singleton.1 hx];exact ⟨srow_below HS8.out HQ1.out,HN.out⟩⟩ 0 rfl HCR.out c' vr HVC.out _ HH.out).mono ?_;rintro _ z2 ⟨rfl,hs⟩;have HQ2:=Lib.hid (HQ1.out.trans (hs.2.1.mono HQ1.out.size));clear hs)
    | (go_at_call 26;refine (HMB.out _ D' C' dc' cc' nm l A' n c' (HMY.out _ HQ0.out) (srow_below HS8.out HQ0.out) HN.out (Nat.le_trans HN20.out (by decide)) HCR.out).mono ?_;rintro _ z1 ⟨rfl,hb⟩;rw [HM4.out];have HQ1:=Lib.hid (HQ0.out.trans (hb.mono HQ0.out.size));clear hb))
  go_wp2_with fail
  go_ret
  exact ⟨rfl,HTR.out _ (HV8.out.trans (HQ4.out.mono HV8.out.size))⟩
end Go.Proofs.YtkplahkkmmoppaaGreatDoor
