/- Part 32 of what the laws lean on. -/
import Derived.Test.YtkplahkkmmoppaaGreatDoorL30
import Derived.Test.YtkplahkkmmoppaaGreatDoorL28
set_option maxRecDepth 100000
set_option maxHeartbeats 16000000
namespace Go.Proofs.YtkplahkkmmoppaaGreatDoor
open Go.RowKit Rs
section
variable {w0 u u' : World} {L : List Ent} {A B : Option Addr} {n m : Nat}
theorem s_refHas (h : St w0 u L) (i : Nat) {a : List (Rm.P Cut)} (hi : L[i]? = some ⟨A,n,a.map spOf⟩) (ga : Rs.Good a) (ca : Nat) (v : List UInt8) (hv : Vm.check v=0) (b : Bool) (hb : hasR a v=b) :
  Calls Tryz.prog 76 #[.slice A n ca,.string ⟨v.toArray⟩] u (BoolRet w0 L b) :=
 (refHas_any A n ca a v u (good_len ga (st_row h i hi).2).1 (st_row h i hi).1 ga.2.1 (by have:=(good_len ga (st_row h i hi).2).2;omega) hv).mono fun _ _=>ret_bool h hb
end
end Go.Proofs.YtkplahkkmmoppaaGreatDoor
namespace Go.Proofs.YtkplahkkmmoppaaGreatDoor
open Go.RowKit Go.ChangeShapes Go.WideShapes Go.Joins Rs
theorem open_atom {H : Type} {enc : TypeId × Value → H} {P : Program} {W : World} {b0 : Nat} {ta t e ts tb : TypeId} {f0 f1 n0 n1 n2 n3 : Field} {v : Value} {d : DataW H} {ps : List MemPlace}
  (hat : P.underlying ta=some (.struct #[f0,f1])) (hf0 : f0.type=ts∧f0.offset=0) (hf1 : f1.type=t∧f1.offset=1) (cta : P.cellsOf ta=2) (ct : P.cellsOf t=1)
  (ht : P.underlying t=some (.slice e)) (he : P.underlying e=some (.struct #[n0,n1,n2,n3])) (h0 : n0.type=ts∧n0.offset=0) (h1 : n1.type=ts∧n1.offset=1) (h2 : n2.type=tb∧n2.offset=2) (h3 : n3.type=tb∧n3.offset=3)
  (hs : P.underlying ts=some .string) (hb : P.underlying tb=some .bool) (cts : P.cellsOf ts=1) (cb : P.cellsOf tb=1) (ce : P.cellsOf e=4)
  (hval : Value.okWide P W .any b0 ta v) (h : DataW.Trod enc P W 0 (fun _=>true) true ta v d ps) :
  ∃ (s : ByteArray) (A : Option Addr) (c : Nat) (l : List Sp),v = .agg #[.string s,.slice A l.length c]∧s.data.toList.length≤maxLen∧SRow W A l∧l.length≤maxLen∧∀ s ∈ l,s.lo.length≤maxLen∧s.hi.length≤maxLen:=by
 obtain ⟨cs,rfl,hsz⟩:=okWide_struct hat hval
 obtain ⟨fuel,hf⟩:=h
 rw [cta] at hsz
 obtain ⟨c0,c1,rfl⟩ : ∃ c0 c1,cs = #[c0,c1]:=by
  obtain ⟨l⟩:=cs
  match l,hsz with
  | [a,b],_=>exact ⟨a,b,rfl⟩
 obtain ⟨y0,y1,n,_,_,g0,g1⟩:=trod_struct2 hat hf
 rw [hf0.1,hf0.2,cts] at g0
 rw [hf1.1,hf1.2,ct] at g1
 obtain ⟨s,e0,_,m0⟩:=DataW.trod_string hs g0
 obtain ⟨A,c,l,e1,hr,hm,hw⟩:=open_spansC ht he h0 h1 h2 h3 hs hb cts cb ce g1
 have q0 : c0 = .string s:=by simpa [Value.cells] using e0
 have q1 : c1 = .slice A l.length c:=by simpa [Value.cells] using e1
 exact ⟨s,A,c,l,by rw [q0,q1],by rw [Array.length_toList];exact m0,hr,hm,hw⟩
end Go.Proofs.YtkplahkkmmoppaaGreatDoor
namespace Go.Proofs.YtkplahkkmmoppaaGreatDoor
open Go.RowKit Rs At Pg
namespace Pg
theorem fewA_all {nm : List UInt8} {l : List Sp} (h : fewA ⟨nm,l⟩=true) : nm.length≤100∧l.length≤80:=by
 unfold fewA at h
 rw [Bool.and_eq_true,decide_eq_true_eq] at h
 exact ⟨h.1,few_len h.2⟩
end Pg
end Go.Proofs.YtkplahkkmmoppaaGreatDoor
namespace Go.Proofs.YtkplahkkmmoppaaGreatDoor
open Go.RowKit Rs At Pg
section
variable {P : Program} {ops : Array Oper} {L : List Oper} {md : Region.Mode} {Q : Exit → Act → World → Prop} {S : World → Prop} {fuel : Nat} {listed : Array Bool} {a : Act} {w : World}
theorem skip_at (hL : L.toArray=ops) (i : Nat) {oi : Oper} (hi : L[i]? = some oi) (hs : Region.noSelect ops=true) (hf : Region.free md L.toArray listed i=true) (hr : (Region.ready md L.toArray listed).contains i=true)
  (hQ : ∀ c a w,Q (.panic c) (a.put oi.dst undef) w → Q (.panic c) a w) (hw : Region.wanted oi (yielded L.toArray a.tmps)=false) (hS : S w)
  (h : wpAnyH P md ops Q S fuel (listed.setIfInBounds i true) (a.put oi.dst undef) w) : wpAnyH P md ops Q S (fuel + 1) listed a w:=by
 subst hL
 exact wpAnyH_take (by simpa using hi) hs hf hr hQ (Or.inr ⟨hw,rfl⟩) hS h
theorem mw (hS : S w) (hL : L.toArray=ops) (hs : Region.noSelect ops=true) (i : Nat) {oi : Oper} (h : wpAnyH P md ops Q S fuel (listed.setIfInBounds i true) (a.put oi.dst undef) w)
  (hi : L[i]? = some oi:=by rfl) (hf : Region.free md L.toArray listed i=true:=by kernel_rfl) (hr : (Region.ready md L.toArray listed).contains i=true:=by kernel_rfl) (hQ : ∀ c a w,Q (.panic c) (a.put oi.dst undef) w → Q (.panic c) a w:=by exact fun _ _ _ h=>h) (hw : Region.wanted oi (yielded L.toArray a.tmps)=false:=by rfl) : wpAnyH P md ops Q S (fuel + 1) listed a w:=skip_at hL i hi hs hf hr hQ hw hS h
end
attribute [local go_sem ↓] Go.wp_at_zero Go.wp_at_succ
theorem s4_refHas {w0 u : World} {L : List Ent} {A : Option Addr} {n : Nat} (h : St w0 u L) (i : Nat) {l : List Sp} (hi : L[i]? = some ⟨A,n,l⟩) (hk : checkR l=0) (c : Nat) (v : List UInt8) (hv : Vm.check v=0) (b : Bool) (hb : hasR (l.map Sp.piece) v=b) :
  Calls Tryz.prog 76 #[.slice A n c,.string ⟨v.toArray⟩] u (BoolRet w0 L b) :=
 s_refHas h i (a:=l.map Sp.piece) (by rw [(check_good hk).2];exact hi) (check_good hk).1 c v hv b hb
theorem refMeets_any (p : Pk) (D C G : Option Addr) (dn dc cn cc gn gc : Nat) (anm : List UInt8) (B : Option Addr) (m d : Nat) (r : List Sp) (w : World) (hw : MaxOk w) (hg : GRow w G p.prov) (hgn : p.prov.length=gn) (hgl : gn≤1000000) (ho : ∀ g ∈ p.prov,g.ver = [] ∨ Vm.check g.ver=0) (hv : Vm.check p.ver=0) (hm : r.length=m) (hq : SRow w B r) (hm2 : m≤64) (hk : checkR r=0) :
  Calls Tryz.prog 28 #[.agg #[.string ⟨p.name.toArray⟩,.string ⟨p.ver.toArray⟩,.slice D dn dc,.slice C cn cc,.slice G gn gc,.float .f64 p.wt],.agg #[.string ⟨anm.toArray⟩,.slice B m d]] w fun e w'=>e = .returned (.bool (metP p ⟨anm,r⟩))∧Below w.heap.size w w':=by
 obtain ⟨nm,v,deps,confl,prov,wt⟩:=p
 dsimp only at hg hgn ho hv ⊢
 obtain ⟨R,hR⟩ : ∃ R,metP ⟨nm,v,deps,confl,prov,wt⟩ ⟨anm,r⟩=R:=⟨_,rfl⟩
 rw [hR]
 unfold metP at hR
 dsimp only at hR
 obtain ⟨W1,hW1⟩ : ∃ W,w.alloc (.cells #[.string ⟨nm.toArray⟩,.string ⟨v.toArray⟩,.slice D dn dc,.slice C cn cc,.slice G gn gc,.float .f64 wt] 27)=W:=⟨_,rfl⟩
 obtain ⟨W2,hW2⟩ : ∃ W,W1.alloc (.cells #[.string ⟨anm.toArray⟩,.slice B m d] 59)=W:=⟨_,rfl⟩
 have hb1 : Below w.heap.size w W1:=alloc_low hW1
 have hb2 : Below W1.heap.size W1 W2:=alloc_low hW2
 have HB : Hid (Below w.heap.size w W2):=hb1.trans (hb2.mono hb1.size)
 have HTR : Hid (∀ u,Below W2.heap.size W2 u → Below w.heap.size w u):=fun u h=>HB.out.trans (h.mono HB.out.size)
 obtain ⟨b,hb⟩ : ∃ b,w.heap.size=b:=⟨_,rfl⟩
 obtain ⟨b1,hbb⟩ : ∃ b1,W1.heap.size=b1:=⟨_,rfl⟩
 have HY:=Lib.hid (fun W (h : Below W2.heap.size W2 W)=>cell_six hW1 (hb2.trans (h.mono hb2.size)))
 have HX:=Lib.hid (fun W (h : Below W2.heap.size W2 W)=>cell_pair hW2 h)
 rw [hb] at HY
 rw [hbb] at HX
 have HG : Hid (GRow W2 G prov):=Rg.row_below hg HB.out
 have HGN:=Lib.hid hgn
 have HO:=Lib.hid ho
 have HK:=Lib.hid hk
 have HST : Hid (∀ u,Below W2.heap.size W2 u → St u u [⟨B,m,r⟩]):=fun u h=>⟨maxOk_below hw (HTR.out u h),Below.refl _ _,fun x hx=>by rw [List.mem_singleton.1 hx];exact ⟨srow_below hq (HTR.out u h),hm⟩⟩
 obtain ⟨x,hx⟩ : ∃ x,hasL r v=x:=⟨_,rfl⟩
 obtain ⟨y,hy⟩ : ∃ y,(prov.any fun g=>givM g ⟨anm,r⟩)=y:=⟨_,rfl⟩
 have HH:=Lib.hid (s4_refHas (HST.out _ (Below.refl _ _)) 0 rfl hk d v hv x hx)
 have HGV : Hid (∀ u,Below W2.heap.size W2 u → ∀ gv,Vm.check gv=0 → Calls Tryz.prog 76 #[.slice B m d,.string ⟨gv.toArray⟩] u (BoolRet u [⟨B,m,r⟩] (hasL r gv))):=fun u h gv hgv=>s4_refHas (HST.out u h) 0 rfl hk d gv hgv _ rfl
 rw [hx,hy] at hR
 have HR:=Lib.hid hR
 have HANY:=Lib.hid hy
 have HM2:=Lib.hid hm2
 clear hw hg hgn ho hv hm hq hm2 hk hx hy hR hb1 hb2
 obtain ⟨c0,c1,c2,c3,c4,c5⟩:=HY.out _ (Below.refl _ _)
 obtain ⟨a0,a1⟩:=HX.out _ (Below.refl _ _)
 by_cases e1 : nm=anm
 case' pos =>
  have d1 : (nm == anm)=true:=beq_iff_eq.2 e1
  have HR1 : Hid ((x || y)=R):=by show _=_;rw [← HR.out,decide_eq_true e1,Bool.true_and]
  clear e1 HR
  cases x
  case' true =>
   have HE : Hid (R=true):=HR1.out.symm
   go_enter Tryz.func28,Tryz.ntmps28
   go_wp2_with fail
   clear hW1 hW2 hb hbb
   refine HH.out.mono ?_
   rintro _ u ⟨rfl,hs⟩
   have HU:=Lib.hid hs.2.1
   clear hs
   go_wp2_with fail
   go_ret
   exact ⟨by rw [HE.out];rfl,HTR.out _ HU.out⟩
  case' false =>
   have HE : Hid (y=R):=HR1.out
   clear HR1
   go_enter Tryz.func28,Tryz.ntmps28
   go_wp2_with fail
   clear hW1 hW2 hb hbb
   refine HH.out.mono ?_
   rintro _ u ⟨rfl,hs⟩
   have HU:=Lib.hid hs.2.1
   clear hs c0 c1 c2 c3 c4 c5 a0 a1
   go_wp2_with fail
 case' neg =>
  have d1 : (nm == anm)=false:=beq_eq_false_iff_ne.2 e1
  have HE : Hid (y=R):=by show _=_;rw [← HR.out,decide_eq_false e1,Bool.false_and,Bool.false_or]
  clear e1 HR
  have HU : Hid (Below W2.heap.size W2 W2):=Below.refl _ _
  go_enter Tryz.func28,Tryz.ntmps28
  go_wp2_with fail
  clear hW1 hW2 hb hbb c0 c1 c2 c3 c4 c5 a0 a1
 all_goals
  go_loopw [5] (fun i wr=>∃ k : Nat,k≤gn∧i = .int .i64 k∧Hid (((prov.take k).any fun g=>givM g ⟨anm,r⟩)=false)∧Hid (Below W2.heap.size W2 wr)) (fun i _=>gn - (intOf i).toNat)
  case atStart=>exact ⟨0,Nat.zero_le _,rfl,rfl,HU.out⟩
  case round =>
   obtain ⟨k,hk,rfl,HT,HW⟩:=hrel
   obtain ⟨c0,c1,c2,c3,c4,c5⟩:=HY.out _ HW.out
   by_cases hlt : k < gn
   ·have hkr : k < prov.length:=by rw [HGN.out];exact hlt
    obtain ⟨ad,rfl,hc⟩:=grow_at HG.out k hkr
    obtain ⟨q0,q1⟩:=hc _ HW.out
    have hov:=HO.out _ (List.getElem_mem hkr)
    have hno : givM prov[k] ⟨anm,r⟩=false → ((prov.take (k + 1)).any fun g=>givM g ⟨anm,r⟩)=false:=fun h=>by
     rw [List.take_succ_eq_append_getElem hkr,List.any_append,HT.out,Bool.false_or,List.any_cons,h];rfl
    have hyes : givM prov[k] ⟨anm,r⟩=true → R=true:=fun h=>by
     rw [← HE.out,← HANY.out]
     exact List.any_eq_true.2 ⟨_,List.getElem_mem hkr,h⟩
    obtain ⟨g,hg⟩ : ∃ g,prov[k]=g:=⟨_,rfl⟩
    rw [hg] at q0 q1 hov hno hyes
    obtain ⟨gnm,gv⟩:=g
    dsimp only at q0 q1 hov
    obtain ⟨z,hz⟩ : ∃ z,wr.heap.size=z:=⟨_,rfl⟩
    obtain ⟨V,hV⟩ : ∃ V,wr.alloc (.cells #[.string ⟨gnm.toArray⟩,.string ⟨gv.toArray⟩] 85)=V:=⟨_,rfl⟩
    have HWV : Hid (Below wr.heap.size wr V):=alloc_low hV
    have HBV : Hid (Below W2.heap.size W2 V):=HW.out.trans (HWV.out.mono HW.out.size)
    have HP:=Lib.hid (fun u (h : Below V.heap.size V u)=>cell_pair hV h)
    rw [hz] at HP
    have HNO:=Lib.hid hno
    have HYES:=Lib.hid hyes
    clear hc hg hno hyes HT
    by_cases g1 : gnm=anm
    case neg =>
     have d2 : (gnm != anm)=true:=by simp [g1]
     have d3 : (gnm == anm)=false:=beq_eq_false_iff_ne.2 g1
     have HT2:=Lib.hid (HNO.out (by unfold givM;rw [decide_eq_false g1,Bool.false_and]))
     obtain ⟨v0,v1⟩:=HP.out _ (Below.refl _ _)
     obtain ⟨a0,a1⟩:=HX.out _ HBV.out
     clear g1 HNO HYES
     go_wp2_with fail
     go_roundw
     case rel=>exact ⟨k + 1,by omega,by go_num,HT2,HBV⟩
     case measure=>simp [intOf];omega
    have d2 : (gnm != anm)=false:=by simp [g1]
    have d3 : (gnm == anm)=true:=beq_iff_eq.2 g1
    by_cases g2 : gv = []
    ·have e3 : (gv == [])=true:=by rw [g2];rfl
     have e4 : (gv != [])=false:=by rw [g2];rfl
     obtain ⟨sm,hsm⟩ : ∃ x,decide (r=allR.map spOf)=x:=⟨_,rfl⟩
     have HSM:=Lib.hid hsm
     have hgm : givM ⟨gnm,gv⟩ ⟨anm,r⟩=sm:=by unfold givM;rw [decide_eq_true g1,if_pos g2,Bool.true_and];exact hsm
     rw [hgm] at HNO HYES
     obtain ⟨v0,v1⟩:=HP.out _ (Below.refl _ _)
     obtain ⟨a0,a1⟩:=HX.out _ HBV.out
     clear g1 g2 hgm hsm hov
     have HKP : Hid (∀ u,Below V.heap.size V u → u.cell? ⟨z,1,none⟩=some (.string ⟨gv.toArray⟩)∧u.cell? ⟨b1,1,none⟩=some (.slice B m d)):=fun u h=>⟨(HP.out u h).2,(HX.out u (HBV.out.trans (h.mono HBV.out.size))).2⟩
     have HSV : Hid (∀ u,Below V.heap.size V u → St u u [⟨B,m,r⟩]):=fun u h=>HST.out u (HBV.out.trans (h.mono HBV.out.size))
     have HQ0 : Hid (Below V.heap.size V V.drew):=(Below.refl _ _).drew
     cases sm
     ·have HT2:=Lib.hid (HNO.out rfl)
      go_wp2_with fail
      refine region_named (fun ops hops=>?_)
      have HOPS:=Lib.hid hops
      have HNS:=Lib.hid (nosel_at hops (by kernel_rfl))
      have hsz:=size_at hops (n:=21) (by rfl)
      clear hops
      refine wp_region_held_drew (S:=fun u=>u.cell? ⟨z,1,none⟩=some (.string ⟨gv.toArray⟩)∧u.cell? ⟨b1,1,none⟩=some (.slice B m d)) (by kernel_rfl) ?_ (fun hH0=>?_)
      ·exact HKP.out _ HQ0.out
      rw [hsz]
      clear hsz
      refine mv (by assumption) HOPS.out HNS.out 0 ?_
      try simp only [Act.put,mvS]
      refine mv (by assumption) HOPS.out HNS.out 1 ?_
      try simp only [Act.put,mvS]
      refine mv (by assumption) HOPS.out HNS.out 2 ?_
      try simp only [Act.put,mvS]
      refine mv (by assumption) HOPS.out HNS.out 3 ?_
      try simp only [Act.put,mvS]
      refine mv (by assumption) HOPS.out HNS.out 4 ?_
      try simp only [Act.put,mvS]
      refine mv (by assumption) HOPS.out HNS.out 5 ?_
      try simp only [Act.put,mvS]
      refine next_at HOPS.out 6 rfl (by kernel_rfl) (by rfl) (fun K hK=>?_)
      go_simp
      go_at_call 78;refine (s_refAll (HSV.out _ HQ0.out)).mono ?_;rintro _ z1 ⟨Ce,m1,de,rfl,hs⟩;have HS1:=Lib.hid hs;have HM1:=Lib.hid (st_row hs 0 rfl).2;have HQ1:=Lib.hid (HQ0.out.trans (hs.2.1.mono HQ0.out.size));clear hs
      refine hK.out _ _ ?_ (fun hH6=>?_)
      ·exact HKP.out _ HQ1.out
      clear hK K hH0
      try simp only [Act.put,mvS]
      refine next_at HOPS.out 7 rfl (by kernel_rfl) (by rfl) (fun K hK=>?_)
      go_simp
      go_at_call 77;refine (s_sameRange HS1.out 1 0 rfl rfl (by have:=HM2.out;omega) (by rw [← HM1.out];decide) _ _ _ HSM.out).mono ?_;rintro _ z2 ⟨rfl,hs⟩;have HQ2:=Lib.hid (HQ0.out.trans (hs.2.1.mono HQ0.out.size));clear hs
      refine hK.out _ _ ?_ (fun hH7=>?_)
      ·exact HKP.out _ HQ2.out
      clear hK K hH6
      try simp only [Act.put,mvS]
      refine mv (by assumption) HOPS.out HNS.out 8 ?_
      try simp only [Act.put,mvS]
      refine mv (by assumption) HOPS.out HNS.out 9 ?_
      try simp only [Act.put,mvS]
      refine mv (by assumption) HOPS.out HNS.out 10 ?_
      try simp only [Act.put,mvS]
      refine mv (by assumption) HOPS.out HNS.out 11 ?_
      try simp only [Act.put,mvS]
      refine mv (by assumption) HOPS.out HNS.out 12 ?_
      try simp only [Act.put,mvS]
      refine mv (by assumption) HOPS.out HNS.out 13 ?_
      try simp only [Act.put,mvS]
      refine mw (by assumption) HOPS.out HNS.out 14 ?_
      try simp only [Act.put,mvS]
      refine mw (by assumption) HOPS.out HNS.out 15 ?_
      try simp only [Act.put,mvS]
      refine mw (by assumption) HOPS.out HNS.out 16 ?_
      try simp only [Act.put,mvS]
      refine mw (by assumption) HOPS.out HNS.out 17 ?_
      try simp only [Act.put,mvS]
      refine mw (by assumption) HOPS.out HNS.out 18 ?_
      try simp only [Act.put,mvS]
      refine mv (by assumption) HOPS.out HNS.out 19 ?_
      try simp only [Act.put,mvS]
      refine mv (by assumption) HOPS.out HNS.out 20 ?_
      try simp only [Act.put,mvS]
      refine done_at HOPS.out (by kernel_rfl) ?_
      have HQW:=Lib.hid (HBV.out.trans (HQ2.out.mono HBV.out.size))
      go_wp2_with fail
      go_roundw
      case rel=>exact ⟨k + 1,by omega,by go_num,HT2,HQW⟩
      case measure=>simp [intOf];omega
     ·have HF:=Lib.hid (HYES.out rfl)
      go_wp2_with fail
      refine region_named (fun ops hops=>?_)
      have HOPS:=Lib.hid hops
      have HNS:=Lib.hid (nosel_at hops (by kernel_rfl))
      have hsz:=size_at hops (n:=21) (by rfl)
      clear hops
      refine wp_region_held_drew (S:=fun u=>u.cell? ⟨z,1,none⟩=some (.string ⟨gv.toArray⟩)∧u.cell? ⟨b1,1,none⟩=some (.slice B m d)) (by kernel_rfl) ?_ (fun hH0=>?_)
      ·exact HKP.out _ HQ0.out
      rw [hsz]
      clear hsz
      refine mv (by assumption) HOPS.out HNS.out 0 ?_
      try simp only [Act.put,mvS]
      refine mv (by assumption) HOPS.out HNS.out 1 ?_
      try simp only [Act.put,mvS]
      refine mv (by assumption) HOPS.out HNS.out 2 ?_
      try simp only [Act.put,mvS]
      refine mv (by assumption) HOPS.out HNS.out 3 ?_
      try simp only [Act.put,mvS]
      refine mv (by assumption) HOPS.out HNS.out 4 ?_
      try simp only [Act.put,mvS]
      refine mv (by assumption) HOPS.out HNS.out 5 ?_
      try simp only [Act.put,mvS]
      refine next_at HOPS.out 6 rfl (by kernel_rfl) (by rfl) (fun K hK=>?_)
      go_simp
      go_at_call 78;refine (s_refAll (HSV.out _ HQ0.out)).mono ?_;rintro _ z1 ⟨Ce,m1,de,rfl,hs⟩;have HS1:=Lib.hid hs;have HM1:=Lib.hid (st_row hs 0 rfl).2;have HQ1:=Lib.hid (HQ0.out.trans (hs.2.1.mono HQ0.out.size));clear hs
      refine hK.out _ _ ?_ (fun hH6=>?_)
      ·exact HKP.out _ HQ1.out
      clear hK K hH0
      try simp only [Act.put,mvS]
      refine next_at HOPS.out 7 rfl (by kernel_rfl) (by rfl) (fun K hK=>?_)
      go_simp
      go_at_call 77;refine (s_sameRange HS1.out 1 0 rfl rfl (by have:=HM2.out;omega) (by rw [← HM1.out];decide) _ _ _ HSM.out).mono ?_;rintro _ z2 ⟨rfl,hs⟩;have HQ2:=Lib.hid (HQ0.out.trans (hs.2.1.mono HQ0.out.size));clear hs
      refine hK.out _ _ ?_ (fun hH7=>?_)
      ·exact HKP.out _ HQ2.out
      clear hK K hH6
      try simp only [Act.put,mvS]
      refine mv (by assumption) HOPS.out HNS.out 8 ?_
      try simp only [Act.put,mvS]
      refine mv (by assumption) HOPS.out HNS.out 9 ?_
      try simp only [Act.put,mvS]
      refine mw (by assumption) HOPS.out HNS.out 10 ?_
      try simp only [Act.put,mvS]
      refine mw (by assumption) HOPS.out HNS.out 11 ?_
      try simp only [Act.put,mvS]
      refine mw (by assumption) HOPS.out HNS.out 12 ?_
      try simp only [Act.put,mvS]
      refine mw (by assumption) HOPS.out HNS.out 13 ?_
      try simp only [Act.put,mvS]
      refine mw (by assumption) HOPS.out HNS.out 14 ?_
      try simp only [Act.put,mvS]
      refine mw (by assumption) HOPS.out HNS.out 15 ?_
      try simp only [Act.put,mvS]
      refine mw (by assumption) HOPS.out HNS.out 16 ?_
      try simp only [Act.put,mvS]
      refine mw (by assumption) HOPS.out HNS.out 17 ?_
      try simp only [Act.put,mvS]
      refine mw (by assumption) HOPS.out HNS.out 18 ?_
      try simp only [Act.put,mvS]
      refine mw (by assumption) HOPS.out HNS.out 19 ?_
      try simp only [Act.put,mvS]
      refine mv (by assumption) HOPS.out HNS.out 20 ?_
      try simp only [Act.put,mvS]
      refine done_at HOPS.out (by kernel_rfl) ?_
      have HQW:=Lib.hid (HBV.out.trans (HQ2.out.mono HBV.out.size))
      go_wp2_with fail
      go_ret
      exact ⟨by rw [HF.out];rfl,HTR.out _ HQW.out⟩
    ·have e3 : (gv == [])=false:=beq_eq_false_iff_ne.2 g2
     have e4 : (gv != [])=true:=by simpa using g2
     have hgm : givM ⟨gnm,gv⟩ ⟨anm,r⟩=hasL r gv:=by unfold givM;rw [decide_eq_true g1,if_neg g2,Bool.true_and]
     rw [hgm] at HNO HYES
     have HCV : Hid (Vm.check gv=0):=hov.resolve_left g2
     obtain ⟨v0,v1⟩:=HP.out _ (Below.refl _ _)
     obtain ⟨a0,a1⟩:=HX.out _ HBV.out
     obtain ⟨sm,hsm⟩ : ∃ x,hasL r gv=x:=⟨_,rfl⟩
     rw [hsm] at HNO HYES
     have HSM:=Lib.hid hsm
     clear g1 g2 hgm hsm hov
     have HKP : Hid (∀ u,Below V.heap.size V u → u.cell? ⟨z,1,none⟩=some (.string ⟨gv.toArray⟩)∧u.cell? ⟨b1,1,none⟩=some (.slice B m d)):=fun u h=>⟨(HP.out u h).2,(HX.out u (HBV.out.trans (h.mono HBV.out.size))).2⟩
     have HSV : Hid (∀ u,Below V.heap.size V u → St u u [⟨B,m,r⟩]):=fun u h=>HST.out u (HBV.out.trans (h.mono HBV.out.size))
     have HQ0 : Hid (Below V.heap.size V V.drew):=(Below.refl _ _).drew
     cases sm
     ·have HT2:=Lib.hid (HNO.out rfl)
      go_wp2_with fail
      refine region_named (fun ops hops=>?_)
      have HOPS:=Lib.hid hops
      have HNS:=Lib.hid (nosel_at hops (by kernel_rfl))
      have hsz:=size_at hops (n:=21) (by rfl)
      clear hops
      refine wp_region_held_drew (S:=fun u=>u.cell? ⟨z,1,none⟩=some (.string ⟨gv.toArray⟩)∧u.cell? ⟨b1,1,none⟩=some (.slice B m d)) (by kernel_rfl) ?_ (fun hH0=>?_)
      ·exact HKP.out _ HQ0.out
      rw [hsz]
      clear hsz
      refine mv (by assumption) HOPS.out HNS.out 0 ?_
      try simp only [Act.put,mvS]
      refine mv (by assumption) HOPS.out HNS.out 1 ?_
      try simp only [Act.put,mvS]
      refine mv (by assumption) HOPS.out HNS.out 2 ?_
      try simp only [Act.put,mvS]
      refine mv (by assumption) HOPS.out HNS.out 3 ?_
      try simp only [Act.put,mvS]
      refine mw (by assumption) HOPS.out HNS.out 4 ?_
      try simp only [Act.put,mvS]
      refine mw (by assumption) HOPS.out HNS.out 5 ?_
      try simp only [Act.put,mvS]
      refine mw (by assumption) HOPS.out HNS.out 6 ?_
      try simp only [Act.put,mvS]
      refine mw (by assumption) HOPS.out HNS.out 7 ?_
      try simp only [Act.put,mvS]
      refine mv (by assumption) HOPS.out HNS.out 8 ?_
      try simp only [Act.put,mvS]
      refine mv (by assumption) HOPS.out HNS.out 9 ?_
      try simp only [Act.put,mvS]
      refine mv (by assumption) HOPS.out HNS.out 10 ?_
      try simp only [Act.put,mvS]
      refine mv (by assumption) HOPS.out HNS.out 11 ?_
      try simp only [Act.put,mvS]
      refine mv (by assumption) HOPS.out HNS.out 12 ?_
      try simp only [Act.put,mvS]
      refine mv (by assumption) HOPS.out HNS.out 13 ?_
      try simp only [Act.put,mvS]
      refine mv (by assumption) HOPS.out HNS.out 14 ?_
      try simp only [Act.put,mvS]
      refine mv (by assumption) HOPS.out HNS.out 15 ?_
      try simp only [Act.put,mvS]
      refine mv (by assumption) HOPS.out HNS.out 16 ?_
      try simp only [Act.put,mvS]
      refine mv (by assumption) HOPS.out HNS.out 17 ?_
      try simp only [Act.put,mvS]
      refine next_at HOPS.out 18 rfl (by kernel_rfl) (by rfl) (fun K hK=>?_)
      go_simp
      go_at_call 76;refine (s4_refHas (HSV.out _ HQ0.out) 0 rfl HK.out d gv HCV.out _ HSM.out).mono ?_;rintro _ z2 ⟨rfl,hs⟩;have HQ2:=Lib.hid (HQ0.out.trans (hs.2.1.mono HQ0.out.size));clear hs
      refine hK.out _ _ ?_ (fun hH18=>?_)
      ·exact HKP.out _ HQ2.out
      clear hK K hH0
      try simp only [Act.put,mvS]
      refine mv (by assumption) HOPS.out HNS.out 19 ?_
      try simp only [Act.put,mvS]
      refine mv (by assumption) HOPS.out HNS.out 20 ?_
      try simp only [Act.put,mvS]
      refine done_at HOPS.out (by kernel_rfl) ?_
      have HQW:=Lib.hid (HBV.out.trans (HQ2.out.mono HBV.out.size))
      go_wp2_with fail
      go_roundw
      case rel=>exact ⟨k + 1,by omega,by go_num,HT2,HQW⟩
      case measure=>simp [intOf];omega
     ·have HF:=Lib.hid (HYES.out rfl)
      go_wp2_with fail
      refine region_named (fun ops hops=>?_)
      have HOPS:=Lib.hid hops
      have HNS:=Lib.hid (nosel_at hops (by kernel_rfl))
      have hsz:=size_at hops (n:=21) (by rfl)
      clear hops
      refine wp_region_held_drew (S:=fun u=>u.cell? ⟨z,1,none⟩=some (.string ⟨gv.toArray⟩)∧u.cell? ⟨b1,1,none⟩=some (.slice B m d)) (by kernel_rfl) ?_ (fun hH0=>?_)
      ·exact HKP.out _ HQ0.out
      rw [hsz]
      clear hsz
      refine mv (by assumption) HOPS.out HNS.out 0 ?_
      try simp only [Act.put,mvS]
      refine mv (by assumption) HOPS.out HNS.out 1 ?_
      try simp only [Act.put,mvS]
      refine mv (by assumption) HOPS.out HNS.out 2 ?_
      try simp only [Act.put,mvS]
      refine mv (by assumption) HOPS.out HNS.out 3 ?_
      try simp only [Act.put,mvS]
      refine mw (by assumption) HOPS.out HNS.out 4 ?_
      try simp only [Act.put,mvS]
      refine mw (by assumption) HOPS.out HNS.out 5 ?_
      try simp only [Act.put,mvS]
      refine mw (by assumption) HOPS.out HNS.out 6 ?_
      try simp only [Act.put,mvS]
      refine mw (by assumption) HOPS.out HNS.out 7 ?_
      try simp only [Act.put,mvS]
      refine mv (by assumption) HOPS.out HNS.out 8 ?_
      try simp only [Act.put,mvS]
      refine mv (by assumption) HOPS.out HNS.out 9 ?_
      try simp only [Act.put,mvS]
      refine mv (by assumption) HOPS.out HNS.out 10 ?_
      try simp only [Act.put,mvS]
      refine mv (by assumption) HOPS.out HNS.out 11 ?_
      try simp only [Act.put,mvS]
      refine mv (by assumption) HOPS.out HNS.out 12 ?_
      try simp only [Act.put,mvS]
      refine mv (by assumption) HOPS.out HNS.out 13 ?_
      try simp only [Act.put,mvS]
      refine mv (by assumption) HOPS.out HNS.out 14 ?_
      try simp only [Act.put,mvS]
      refine mv (by assumption) HOPS.out HNS.out 15 ?_
      try simp only [Act.put,mvS]
      refine mv (by assumption) HOPS.out HNS.out 16 ?_
      try simp only [Act.put,mvS]
      refine mv (by assumption) HOPS.out HNS.out 17 ?_
      try simp only [Act.put,mvS]
      refine next_at HOPS.out 18 rfl (by kernel_rfl) (by rfl) (fun K hK=>?_)
      go_simp
      go_at_call 76;refine (s4_refHas (HSV.out _ HQ0.out) 0 rfl HK.out d gv HCV.out _ HSM.out).mono ?_;rintro _ z2 ⟨rfl,hs⟩;have HQ2:=Lib.hid (HQ0.out.trans (hs.2.1.mono HQ0.out.size));clear hs
      refine hK.out _ _ ?_ (fun hH18=>?_)
      ·exact HKP.out _ HQ2.out
      clear hK K hH0
      try simp only [Act.put,mvS]
      refine mv (by assumption) HOPS.out HNS.out 19 ?_
      try simp only [Act.put,mvS]
      refine mv (by assumption) HOPS.out HNS.out 20 ?_
      try simp only [Act.put,mvS]
      refine done_at HOPS.out (by kernel_rfl) ?_
      have HQW:=Lib.hid (HBV.out.trans (HQ2.out.mono HBV.out.size))
      go_wp2_with fail
      go_ret
      exact ⟨by rw [HF.out];rfl,HTR.out _ HQW.out⟩
   ·obtain rfl : k=gn:=by omega
    have HF : Hid (R=false):=by
     show _=_
     rw [← HE.out,← HANY.out]
     have:=HT.out
     rw [List.take_of_length_le (by rw [HGN.out];exact Nat.le_refl _)] at this
     exact this
    go_wp2_with fail
    go_ret
    exact ⟨by rw [HF.out];rfl,HTR.out _ HW.out⟩
end Go.Proofs.YtkplahkkmmoppaaGreatDoor
namespace Go.Proofs.YtkplahkkmmoppaaGreatDoor
open Go.RowKit Rs At Pg
attribute [local go_sem ↓] Go.wp_at_zero Go.wp_at_succ
theorem lawPkgMeets_any (p : Pk) (D C G : Option Addr) (dn dc cn cc gn gc : Nat) (anm : List UInt8) (A : Option Addr) (n c : Nat) (l : List Sp) (w : World) (hk : KOk w) (hd : Pg.DRow w D p.deps) (hdn : p.deps.length=dn) (hc : ARow w C p.confl) (hcn : p.confl.length=cn) (hg : GRow w G p.prov) (hgn : p.prov.length=gn) (hf : PWide p) (hq : anm.length≤maxLen) (hn : l.length=n) (hr : SRow w A l) (hm : n≤maxLen) (hs : Wide l) :
  Calls Tryz.prog 5 #[.agg #[.string ⟨p.name.toArray⟩,.string ⟨p.ver.toArray⟩,.slice D dn dc,.slice C cn cc,.slice G gn gc,.float .f64 p.wt],.agg #[.string ⟨anm.toArray⟩,.slice A n c]] w fun e w'=>e = .returned (.bool true)∧Below w.heap.size w w':=by
 obtain ⟨W1,hW1⟩ : ∃ W,w.alloc (.cells #[.string ⟨p.name.toArray⟩,.string ⟨p.ver.toArray⟩,.slice D dn dc,.slice C cn cc,.slice G gn gc,.float .f64 p.wt] 27)=W:=⟨_,rfl⟩
 obtain ⟨W2,hW2⟩ : ∃ W,W1.alloc (.cells #[.string ⟨anm.toArray⟩,.slice A n c] 59)=W:=⟨_,rfl⟩
 have hb1 : Below w.heap.size w W1:=alloc_low hW1
 have hb2 : Below W1.heap.size W1 W2:=alloc_low hW2
 have HB : Hid (Below w.heap.size w W2):=hb1.trans (hb2.mono hb1.size)
 have HTR : Hid (∀ u,Below W2.heap.size W2 u → Below w.heap.size w u):=fun u h=>HB.out.trans (h.mono HB.out.size)
 have HK : Hid (∀ u,Below W2.heap.size W2 u → KOk u):=fun u h=>kOk_below hk (HTR.out u h)
 have HDR : Hid (∀ u,Below W2.heap.size W2 u → Pg.DRow u D p.deps∧ARow u C p.confl∧GRow u G p.prov∧SRow u A l):=fun u h=>⟨drowD_below hd (HTR.out u h),arow_below hc (HTR.out u h),Rg.row_below hg (HTR.out u h),srow_below hr (HTR.out u h)⟩
 obtain ⟨b,hb⟩ : ∃ b,w.heap.size=b:=⟨_,rfl⟩
 obtain ⟨b1,hbb⟩ : ∃ b1,W1.heap.size=b1:=⟨_,rfl⟩
 obtain ⟨nm,hnm⟩ : ∃ x,p.name=x:=⟨_,rfl⟩
 obtain ⟨vr,hvr⟩ : ∃ x,p.ver=x:=⟨_,rfl⟩
 obtain ⟨wt,hwt⟩ : ∃ x,p.wt=x:=⟨_,rfl⟩
 have HC8 : Hid (∀ u,Below W2.heap.size W2 u → u.cell? ⟨b,0,none⟩=some (.string ⟨nm.toArray⟩)∧u.cell? ⟨b,1,none⟩=some (.string ⟨vr.toArray⟩)∧u.cell? ⟨b,2,none⟩=some (.slice D dn dc)∧u.cell? ⟨b,3,none⟩=some (.slice C cn cc)∧u.cell? ⟨b,4,none⟩=some (.slice G gn gc)∧u.cell? ⟨b,5,none⟩=some (.float .f64 wt)∧u.cell? ⟨b1,0,none⟩=some (.string ⟨anm.toArray⟩)∧u.cell? ⟨b1,1,none⟩=some (.slice A n c)):=fun u h=>by
  obtain ⟨y0,y1,y2,y3,y4,y5⟩:=cell_six hW1 (hb2.trans (h.mono hb2.size))
  obtain ⟨z0,z1⟩:=cell_pair hW2 h
  rw [← hb,← hbb,← hnm,← hvr,← hwt]
  exact ⟨y0,y1,y2,y3,y4,y5,z0,z1⟩
 have HFW:=Lib.hid hf
 have HNM:=Lib.hid hnm
 have HVR:=Lib.hid hvr
 have HWT:=Lib.hid hwt
 have HDN:=Lib.hid hdn
 have HCN:=Lib.hid hcn
 have HGN:=Lib.hid hgn
 have HQN:=Lib.hid hq
 have HN:=Lib.hid hn
 have HML:=Lib.hid hm
 have HWD:=Lib.hid hs
 have HFP : Hid (∀ u,Below W2.heap.size W2 u → Calls Tryz.prog 10 #[.agg #[.string ⟨nm.toArray⟩,.string ⟨vr.toArray⟩,.slice D dn dc,.slice C cn cc,.slice G gn gc,.float .f64 wt]] u fun e w'=>e = .returned (.bool (fewP p))∧Below u.heap.size u w'):=fun u h=>by
  rw [← hnm,← hvr,← hwt]
  exact few6_any p D C G dn dc cn cc gn gc u (HK.out u h).1 (HDR.out u h).1 hdn (HDR.out u h).2.1 hcn (HDR.out u h).2.2.1 hgn hf
 have HCK : Hid (PFew p → ∀ u,Below W2.heap.size W2 u → Calls Tryz.prog 13 #[.agg #[.string ⟨nm.toArray⟩,.string ⟨vr.toArray⟩,.slice D dn dc,.slice C cn cc,.slice G gn gc,.float .f64 wt]] u fun e w'=>e = .returned (.int .i64 (checkP p))∧Below u.heap.size u w'):=fun hp u h=>by
  rw [← hnm,← hvr,← hwt]
  exact refCheckPkg_any p D C G dn dc cn cc gn gc u (HK.out u h).1 (HDR.out u h).1 hdn (HDR.out u h).2.1 hcn (HDR.out u h).2.2.1 hgn hp
 have HTO : Hid (PSmall p → ∀ u,Below W2.heap.size W2 u → Calls Tryz.prog 11 #[.agg #[.string ⟨nm.toArray⟩,.string ⟨vr.toArray⟩,.slice D dn dc,.slice C cn cc,.slice G gn gc,.float .f64 wt]] u fun e w'=>∃ D' dc' C' cc' G' gc',e = .returned (.agg #[.string ⟨nm.toArray⟩,.string ⟨vr.toArray⟩,.slice D' dn dc',.slice C' cn cc',.slice G' gn gc',.float .f64 wt])∧GRow w' G' p.prov∧Below u.heap.size u w'):=fun hp u h=>by
  rw [← hnm,← hvr,← hwt]
  exact (to6_any p D C G dn dc cn cc gn gc u (HDR.out u h).1 hdn (HDR.out u h).2.1 hcn (HDR.out u h).2.2.1 hgn hp).mono fun e w' ⟨D',dc',C',cc',G',gc',he,_,_,hg,hb⟩=>⟨D',dc',C',cc',G',gc',he,hg,hb⟩
 obtain ⟨fp,hfp⟩ : ∃ x,fewP p=x:=⟨_,rfl⟩
 obtain ⟨fa,hfa⟩ : ∃ x,fewA ⟨anm,l⟩=x:=⟨_,rfl⟩
 obtain ⟨K,hK⟩ : ∃ x,checkP p=x:=⟨_,rfl⟩
 obtain ⟨K2,hK2⟩ : ∃ x,checkA ⟨anm,l⟩=x:=⟨_,rfl⟩
 obtain ⟨M,hM⟩ : ∃ x,metP p ⟨anm,l⟩=x:=⟨_,rfl⟩
 rw [hfp] at HFP
 rw [hK] at HCK
 have HFP0:=Lib.hid hfp
 have HFA:=Lib.hid hfa
 have HK0:=Lib.hid hK
 have HK2:=Lib.hid hK2
 have HM0:=Lib.hid hM
 rw [hnm,hvr,hwt] at hW1 ⊢
 clear hk hd hdn hc hcn hg hgn hf hq hn hr hm hs hb1 hb2 hfp hfa hK hK2 hM hnm hvr hwt
 obtain ⟨c0,c1,c2,c3,c4,c5,a0,a1⟩:=HC8.out _ (Below.refl _ _)
 have hkk:=HK.out _ (Below.refl _ _)
 have HKW:=Lib.hid hkk
 clear hkk
 go_enter Tryz.func5,Tryz.ntmps5
 go_wp2_with fail
 clear hW1 hW2 hb hbb c0 c1 c2 c3 c4 c5 a0 a1
 refine (known6_any _ HKW.out).mono ?_
 rintro _ u1 ⟨rfl,hb⟩
 have HU1:=Lib.hid hb
 clear hb
 obtain ⟨c0,c1,c2,c3,c4,c5,a0,a1⟩:=HC8.out _ HU1.out
 go_wp2_with fail
 refine (HFP.out _ HU1.out).mono ?_
 rintro _ u2 ⟨rfl,hb⟩
 have HU2:=Lib.hid (HU1.out.trans (hb.mono HU1.out.size))
 clear hb c0 c1 c2 c3 c4 c5 a0 a1
 obtain ⟨c0,c1,c2,c3,c4,c5,a0,a1⟩:=HC8.out _ HU2.out
 cases fp
 ·go_wp2_with fail
  go_ret
  exact ⟨rfl,HTR.out _ HU2.out⟩
 have HPF:=Lib.hid (fewP_all HFP0.out HFW.out.2.2.2.2.2.2.2.2)
 have HST : Hid (∀ u,Below W2.heap.size W2 u → St u u [⟨A,n,l⟩]):=fun u h=>⟨(HK.out u h).1,Below.refl _ _,fun x hx=>by rw [List.mem_singleton.1 hx];exact ⟨(HDR.out u h).2.2.2,HN.out⟩⟩
 go_wp2_with fail
 refine (few4_any (HST.out _ HU2.out) anm A n c l 0 rfl HQN.out HML.out HWD.out).mono ?_
 rintro _ u3 ⟨rfl,hb⟩
 rw [HFA.out]
 have HU3:=Lib.hid (HU2.out.trans (hb.2.1.mono HU2.out.size))
 clear hb c0 c1 c2 c3 c4 c5 a0 a1
 obtain ⟨c0,c1,c2,c3,c4,c5,a0,a1⟩:=HC8.out _ HU3.out
 cases fa
 ·go_wp2_with fail
  go_ret
  exact ⟨rfl,HTR.out _ HU3.out⟩
 have HN80 : Hid (n≤80):=by show n≤80;rw [← HN.out];exact (fewA_all HFA.out).2
 go_wp2_with fail
 refine (HCK.out HPF.out.1 _ HU3.out).mono ?_
 rintro _ u4 ⟨rfl,hb⟩
 have HU4:=Lib.hid (HU3.out.trans (hb.mono HU3.out.size))
 clear hb c0 c1 c2 c3 c4 c5 a0 a1
 obtain ⟨c0,c1,c2,c3,c4,c5,a0,a1⟩:=HC8.out _ HU4.out
 by_cases k0 : K=0
 case neg =>
  go_wp2_with fail
  go_ret
  exact ⟨rfl,HTR.out _ HU4.out⟩
 subst k0
 go_wp2_with fail
 refine (refCheckAtom_any anm A n c l _ (HK.out _ HU4.out).1 HQN.out HN.out (HDR.out _ HU4.out).2.2.2 (Nat.le_trans HN80.out (by decide))).mono ?_
 rintro _ u5 ⟨rfl,hb⟩
 rw [HK2.out]
 have HU5:=Lib.hid (HU4.out.trans (hb.mono HU4.out.size))
 clear hb c0 c1 c2 c3 c4 c5 a0 a1
 obtain ⟨c0,c1,c2,c3,c4,c5,a0,a1⟩:=HC8.out _ HU5.out
 by_cases k1 : K2=0
 case neg =>
  go_wp2_with fail
  go_ret
  exact ⟨rfl,HTR.out _ HU5.out⟩
 subst k1
 have HGV:=Lib.hid (check_gives HK0.out)
 have HGL : Hid (gn≤1000000):=by show gn≤_;rw [← HGN.out];exact HPF.out.1.2.2.2.2.2.1
 have HCR : Hid (checkR l=0):=(check_parts HK2.out).2.1
 have HN64 : Hid (n≤64):=by show n≤_;rw [← HN.out];exact good_n HCR.out
 have q1 : (M == M)=true:=by cases M <;> rfl
 have HME : Hid (∀ u G' D' C' dc' cc' gc' A' c',MaxOk u → GRow u G' p.prov → SRow u A' l → Calls Tryz.prog 26 #[.agg #[.string ⟨nm.toArray⟩,.string ⟨vr.toArray⟩,.slice D' dn dc',.slice C' cn cc',.slice G' gn gc',.float .f64 wt],.agg #[.string ⟨anm.toArray⟩,.slice A' n c']] u fun e w'=>e = .returned (.bool M)∧Below u.heap.size u w'):=fun u G' D' C' dc' cc' gc' A' c' h1 h2 h3=>by
  rw [← HNM.out,← HVR.out,← HWT.out,← HM0.out]
  exact pkgMeets_any p D' C' G' dn dc' cn cc' gn gc' anm A' n c' l u h1 h2 HGN.out HGL.out HGV.out.2 HGV.out.1 HN.out h3 HN64.out HCR.out
 have HMR : Hid (∀ u,Below W2.heap.size W2 u → Calls Tryz.prog 28 #[.agg #[.string ⟨nm.toArray⟩,.string ⟨vr.toArray⟩,.slice D dn dc,.slice C cn cc,.slice G gn gc,.float .f64 wt],.agg #[.string ⟨anm.toArray⟩,.slice A n c]] u fun e w'=>e = .returned (.bool M)∧Below u.heap.size u w'):=fun u h=>by
  rw [← HNM.out,← HVR.out,← HWT.out,← HM0.out]
  exact refMeets_any p D C G dn dc cn cc gn gc anm A n c l u (HK.out u h).1 (HDR.out u h).2.2.1 HGN.out HGL.out HGV.out.2 HGV.out.1 HN.out (HDR.out u h).2.2.2 HN64.out HCR.out
 go_wp2_with fail
 have HQ0 : Hid (Below W2.heap.size W2 u5.drew):=HU5.out.drew
 go_region_held3 (fun u=>u.cell? ⟨b,0,none⟩=some (.string ⟨nm.toArray⟩)∧u.cell? ⟨b,1,none⟩=some (.string ⟨vr.toArray⟩)∧u.cell? ⟨b,2,none⟩=some (.slice D dn dc)∧u.cell? ⟨b,3,none⟩=some (.slice C cn cc)∧u.cell? ⟨b,4,none⟩=some (.slice G gn gc)∧u.cell? ⟨b,5,none⟩=some (.float .f64 wt)∧u.cell? ⟨b1,0,none⟩=some (.string ⟨anm.toArray⟩)∧u.cell? ⟨b1,1,none⟩=some (.slice A n c))
  (first
   | with_reducible exact HC8.out _ HQ0.out
   | with_reducible exact HC8.out _ HQ1.out
   | with_reducible exact HC8.out _ HQ2.out
   | with_reducible exact HC8.out _ HQ3.out
   | with_reducible exact HC8.out _ HQ4.out)
  (first
   | (go_at_call 28;refine (HMR.out _ HQ3.out).mono ?_;rintro _ z4 ⟨rfl,hb⟩;have HQ4:=Lib.hid (HQ3.out.trans (hb.mono HQ3.out.size));clear hb)
   | (go_at_call 26;refine (HME.out _ _ _ _ _ _ _ _ _ (HK.out _ HQ2.out).1 HG2.out HS2.out).mono ?_;rintro _ z3 ⟨rfl,hb⟩;have HQ3:=Lib.hid (HQ2.out.trans (hb.mono HQ2.out.size));clear hb)
   | (go_at_call 27;refine (to4_any anm A n c l _ HN.out (HDR.out _ HQ1.out).2.2.2 (Nat.le_trans HN80.out (by decide))).mono ?_;rintro _ z2 ⟨A',c',rfl,hsr,hb⟩;have HS2:=Lib.hid hsr;have HG2 : Hid (GRow z2 G' p.prov):=Rg.row_below HG1.out hb;have HQ2:=Lib.hid (HQ1.out.trans (hb.mono HQ1.out.size));clear hb hsr)
   | (go_at_call 11;refine (HTO.out HPF.out.2 _ HQ0.out).mono ?_;rintro _ z1 ⟨D',dc',C',cc',G',gc',rfl,hgr,hb⟩;have HG1:=Lib.hid hgr;have HQ1:=Lib.hid (HQ0.out.trans (hb.mono HQ0.out.size));clear hb hgr))
 go_wp2_with fail
 go_ret
 exact ⟨rfl,HTR.out _ HQ4.out⟩
end Go.Proofs.YtkplahkkmmoppaaGreatDoor
