/- Part 27 of what the laws lean on. -/
import Derived.Test.YtkplahkkmmoppaaGreatDoorL25
import Derived.Test.YtkplahkkmmoppaaGreatDoorL26
set_option maxRecDepth 100000
set_option maxHeartbeats 12800000
namespace Go.Proofs.YtkplahkkmmoppaaGreatDoor
open Go.RowKit Rs At Pg
namespace Pg
def ToSt (V : World) (v : Value) (fs : List Sz.Fld) (u : World) : Prop:=Rg.Own Sz.encF 3 u V.heap.size 82 v fs∧Below V.heap.size V u
theorem toSt_app {V u u2 W5 : World} {v v5 : Value} {fs : List Sz.Fld} {f : Sz.Fld} {o : Obj} (h : ToSt V v fs u) (hb : Below u.heap.size u u2) (ho : Rg.Own Sz.encF 3 W5 V.heap.size 82 v5 (fs ++ [f])) (hg : (u2.alloc o).grownBy W5 v.ownBlock) : ToSt V v5 (fs ++ [f]) W5:=by
 have hal : Below u.heap.size u (u2.alloc o):=hb.alloc hb.size _
 have hVu : V.heap.size≤u.heap.size:=h.2.size
 exact ⟨ho,(h.2.trans (hal.mono hVu)).trans (Rg.grown_below (Rg.own_below h.1 hal) (Nat.le_trans hVu hal.size) hg)⟩
theorem own_two {u : World} {f g : Sz.Fld} {B : Nat} {T : TypeId} (hB : B≤u.heap.size) : Rg.Own Sz.encF 3 (u.alloc (.cells #[.string ⟨f.key.toArray⟩,.string ⟨f.val.toArray⟩,.int .i64 f.line,.string ⟨g.key.toArray⟩,.string ⟨g.val.toArray⟩,.int .i64 g.line] T)) B T (.slice (some ⟨u.heap.size,0,none⟩) 2 2) [f,g] :=
 ⟨rfl,.inr ⟨u.heap.size,2,_,rfl,hB,heap_alloc_new u _,Nat.le_refl _,by decide,rfl,rfl⟩⟩
end Pg
attribute [local go_sem ↓] Go.wp_at_zero Go.wp_at_succ
theorem pkgTo_any (p : Pk) (D C G : Option Addr) (dn dc cn cc gn gc : Nat) (w : World) (hk : KOk w) (hd : Pg.DRow w D p.deps) (hdn : p.deps.length=dn) (hc : ARow w C p.confl) (hcn : p.confl.length=cn) (hg : GRow w G p.prov) (hgn : p.prov.length=gn) (ht : PTxt p) :
  Calls Tryz.prog 16 #[.agg #[.string ⟨p.name.toArray⟩,.string ⟨p.ver.toArray⟩,.slice D dn dc,.slice C cn cc,.slice G gn gc,.float .f64 p.wt]] w fun e w'=>∃ A n c,e = .returned (.slice A n c)∧(toPk p).length=n∧Rg.Row Sz.encF 3 w' A (toPk p)∧Below w.heap.size w w':=by
 obtain ⟨t1,t2,t3,t4,t5,t6,t7,t8,t9,t10,t11,t12⟩:=ht
 obtain ⟨V,hV⟩ : ∃ W,w.alloc (.cells #[.string ⟨p.name.toArray⟩,.string ⟨p.ver.toArray⟩,.slice D dn dc,.slice C cn cc,.slice G gn gc,.float .f64 p.wt] 34)=W:=⟨_,rfl⟩
 have HB : Hid (Below w.heap.size w V):=alloc_low hV
 obtain ⟨b,hb⟩ : ∃ b,w.heap.size=b:=⟨_,rfl⟩
 have HC6:=Lib.hid (fun W (h : Below V.heap.size V W)=>cell_six hV h)
 rw [hb] at HC6
 have HK:=Lib.hid (fun W (h : Below V.heap.size V W)=>kOk_below (kOk_below hk HB.out) h)
 have HM:=Lib.hid (fun W (h : Below V.heap.size V W)=>maxOk_below (maxOk_below hk.1 HB.out) h)
 have HJD : Hid (∀ W,Below V.heap.size V W → Calls Tryz.prog 54 #[.slice D dn dc,.func (.func 32) #[] #[],.string ⟨#[59,32]⟩] W fun e w'=>e = .returned (.string ⟨(depsT p).toArray⟩)∧Below W.heap.size W w'):=fun W h=>joinDeps_any semi D dn dc p.deps W (HM.out W h) hdn (drowD_below (drowD_below hd HB.out) h) (by rw [← hdn];exact t3) t4 t5
 have HJC : Hid (∀ W,Below V.heap.size V W → Calls Tryz.prog 55 #[.slice C cn cc,.func (.func 31) #[] #[],.string ⟨#[59,32]⟩] W fun e w'=>e = .returned (.string ⟨(conflT p).toArray⟩)∧Below W.heap.size W w'):=fun W h=>joinAtoms_any semi C cn cc p.confl W (HM.out W h) hcn (arow_below (arow_below hc HB.out) h) (by rw [← hcn];exact t6) t7 t8
 have HJG : Hid (∀ W,Below V.heap.size V W → Calls Tryz.prog 56 #[.slice G gn gc,.func (.func 57) #[] #[],.string ⟨#[59,32]⟩] W fun e w'=>e = .returned (.string ⟨(provT p).toArray⟩)∧Below W.heap.size W w'):=fun W h=>joinGives_any semi G gn gc p.prov W (HM.out W h) hgn (Rg.row_below (Rg.row_below hg HB.out) h) (by rw [← hgn];exact t9) t10 t11
 have HJW : Hid (∀ W,Below V.heap.size V W → Calls Tryz.prog 58 #[.float .f64 p.wt] W fun e w'=>e = .returned (.string ⟨(Wm.textW p.wt).toArray⟩)∧Below W.heap.size W w'):=fun W h=>text_w p.wt t12 W (HK.out W h)
 obtain ⟨nm,hnm⟩ : ∃ x,p.name=x:=⟨_,rfl⟩
 obtain ⟨vr,hvr⟩ : ∃ x,p.ver=x:=⟨_,rfl⟩
 obtain ⟨fw,hfw⟩ : ∃ x,p.wt=x:=⟨_,rfl⟩
 have HN : Hid (nm.length≤281474976710656∧vr.length≤281474976710656):=by rw [← hnm,← hvr];exact ⟨Nat.le_trans t1 (by decide),Nat.le_trans t2 (by decide)⟩
 have H0 : Hid (to0 p = [⟨kPkg,nm,0⟩,⟨kVer,vr,0⟩]):=by rw [← hnm,← hvr];rfl
 have HD1 : Hid (dn=0 ↔ p.deps = []):=by rw [← hdn];exact List.length_eq_zero_iff
 have HC1 : Hid (cn=0 ↔ p.confl = []):=by rw [← hcn];exact List.length_eq_zero_iff
 have HG1 : Hid (gn=0 ↔ p.prov = []):=by rw [← hgn];exact List.length_eq_zero_iff
 rw [hnm,hvr,hfw] at HC6 hV
 rw [hnm,hvr,hfw]
 rw [hfw] at HJW
 have HW1 : Hid (p.wt=fw):=hfw
 obtain ⟨y0,y1,y2,y3,y4,y5⟩:=HC6.out _ (Below.refl _ _)
 have HBW : Hid (w.heap.size≤V.heap.size):=HB.out.size
 obtain ⟨TD,hTD⟩ : ∃ x,depsT p=x:=⟨_,rfl⟩
 obtain ⟨TC,hTC⟩ : ∃ x,conflT p=x:=⟨_,rfl⟩
 obtain ⟨TG,hTG⟩ : ∃ x,provT p=x:=⟨_,rfl⟩
 obtain ⟨TW,hTW⟩ : ∃ x,Wm.textW fw=x:=⟨_,rfl⟩
 rw [hTD] at HJD
 rw [hTC] at HJC
 rw [hTG] at HJG
 rw [hTW] at HJW
 have E1 : Hid (to1 p=if dn=0 then to0 p else to0 p ++ [⟨kDep,TD,0⟩]):=by
  show _=_
  unfold to1;rw [hTD]
  by_cases h : dn=0
  ·rw [if_pos h,if_pos (HD1.out.1 h)]
  ·rw [if_neg h,if_neg (fun e=>h (HD1.out.2 e))]
 have E2 : Hid (to2 p=if cn=0 then to1 p else to1 p ++ [⟨kCon,TC,0⟩]):=by
  show _=_
  unfold to2;rw [hTC]
  by_cases h : cn=0
  ·rw [if_pos h,if_pos (HC1.out.1 h)]
  ·rw [if_neg h,if_neg (fun e=>h (HC1.out.2 e))]
 have E3 : Hid (to3 p=if gn=0 then to2 p else to2 p ++ [⟨kPro,TG,0⟩]):=by
  show _=_
  unfold to3;rw [hTG]
  by_cases h : gn=0
  ·rw [if_pos h,if_pos (HG1.out.1 h)]
  ·rw [if_neg h,if_neg (fun e=>h (HG1.out.2 e))]
 have E4 : Hid (toPk p=if TW = [48] then to3 p else to3 p ++ [⟨kWei,TW,0⟩]):=by
  show _=_
  unfold toPk;rw [HW1.out,hTW]
 have HSZ1:=Lib.hid hb
 clear hk hd hdn hc hcn hg hgn t1 t2 t3 t4 t5 t6 t7 t8 t9 t10 t11 t12 hnm hvr hfw hTD hTC hTG hTW HD1 HC1 HG1 HW1
 go_enter Tryz.func16,Tryz.ntmps16
 go_upto_region 1 with fail
 clear hV
 go_cut [3] (fun v wx=>Hid (ToSt V v (to0 p) wx))
 case first =>
  have HS1 : Hid (Below V.heap.size V V.drew):=(Below.refl _ _).drew
  go_region_held3 (fun w'=>w'.cell? ⟨b,0,none⟩=some (.string ⟨nm.toArray⟩)∧w'.cell? ⟨b,1,none⟩=some (.string ⟨vr.toArray⟩))
   (first
    | exact ⟨(HC6.out _ HS1.out).1,(HC6.out _ HS1.out).2.1⟩
    | exact ⟨(HC6.out _ HS3.out).1,(HC6.out _ HS3.out).2.1⟩
    | exact ⟨(HC6.out _ HS4.out).1,(HC6.out _ HS4.out).2.1⟩
    | exact ⟨(HC6.out _ (HS4.out.alloc HS4.out.size _)).1,(HC6.out _ (HS4.out.alloc HS4.out.size _)).2.1⟩)
   (first
    | (go_at_call 53;refine (clone_any vr _ HN.out.2).mono ?_;rintro _ u4 ⟨rfl,hb4⟩;have HS4:=Lib.hid (HS3.out.trans (hb4.mono HS3.out.size));clear hb4)
    | (go_at_call 53;refine (clone_any nm _ HN.out.1).mono ?_;rintro _ u3 ⟨rfl,hb3⟩;have HS3:=Lib.hid (HS1.out.trans (hb3.mono HS1.out.size));clear hb3))
  go_wp2_with fail
  go_meet
  case rel =>
   show ToSt _ _ _ _
   rw [H0.out]
   exact ⟨own_two HS4.out.size,HS4.out.alloc HS4.out.size _⟩
 case rest =>
 have HT0 : Hid (ToSt V u3 (to0 p) wc):=hcut
 clear hcut y0 y1 y2 y3 y4 y5
 obtain ⟨A0,c0,rfl,_,_,_⟩:=Rg.row_own Sz.fitsF HT0.out.1
 obtain ⟨y0,y1,y2,y3,y4,y5⟩:=HC6.out _ HT0.out.2
 go_upto_if 17 with fail
 go_cut [3] (fun v wx=>Hid (ToSt V v (to1 p) wx))
 case first =>
  by_cases h0 : dn=0
  ·have HF : Hid (to1 p=to0 p):=by show _=_;rw [E1.out,if_pos h0]
   subst h0
   go_wp2_with fail
   go_meet
   case rel=>show ToSt _ _ _ _;rw [HF.out];exact HT0.out
  ·have HF : Hid (to1 p=to0 p ++ [⟨kDep,TD,0⟩]):=by show _=_;rw [E1.out,if_neg h0]
   have hpos : 0 < dn:=by omega
   clear h0
   go_wp2_with fail
   refine (HJD.out _ HT0.out.2).mono ?_
   rintro _ u1 ⟨rfl,hb1⟩
   have HU1:=Lib.hid hb1
   clear hb1
   have HSZ : Hid ((to0 p).length + 1≤1000000):=by have:=to0_len p;show _≤_;omega
   go_wp2_with (at_builtin;refine Rg.wpList_app Sz.sliceF rfl (.tmp 18) (.tmp 23) rfl V.heap.size _ (to0 p) [⟨kDep,TD,0⟩] rfl (Rg.own_below HT0.out.1 (HU1.out.alloc HU1.out.size _)) _ _ rfl (Rg.news_new u1 _ _ _ (by rfl)) (Nat.zero_lt_succ _) HSZ.out ?b2 ?_)
   case b2=>have:=HT0.out.2.size;have:=HU1.out.size;simp;omega
   intro v5 W5 ho5 hg5 hz5
   have HT5 : Hid (ToSt V v5 (to1 p) W5):=by show ToSt _ _ _ _;rw [HF.out];exact toSt_app HT0.out HU1.out ho5 hg5
   clear ho5 hg5 hz5
   go_wp2_with fail
   go_meet
   case rel=>exact HT5
 case rest =>
 have HT1 : Hid (ToSt V u3 (to1 p) wc):=hcut
 clear hcut HT0 y0 y1 y2 y3 y4 y5
 obtain ⟨A1,c1,rfl,_,_,_⟩:=Rg.row_own Sz.fitsF HT1.out.1
 obtain ⟨y0,y1,y2,y3,y4,y5⟩:=HC6.out _ HT1.out.2
 go_upto_if 28 with fail
 go_cut [3] (fun v wx=>Hid (ToSt V v (to2 p) wx))
 case first =>
  by_cases h0 : cn=0
  ·have HF : Hid (to2 p=to1 p):=by show _=_;rw [E2.out,if_pos h0]
   subst h0
   go_wp2_with fail
   go_meet
   case rel=>show ToSt _ _ _ _;rw [HF.out];exact HT1.out
  ·have HF : Hid (to2 p=to1 p ++ [⟨kCon,TC,0⟩]):=by show _=_;rw [E2.out,if_neg h0]
   have hpos : 0 < cn:=by omega
   clear h0
   go_wp2_with fail
   refine (HJC.out _ HT1.out.2).mono ?_
   rintro _ u1 ⟨rfl,hb1⟩
   have HU1:=Lib.hid hb1
   clear hb1
   have HSZ : Hid ((to1 p).length + 1≤1000000):=by have:=to1_len p;show _≤_;omega
   go_wp2_with (at_builtin;refine Rg.wpList_app Sz.sliceF rfl (.tmp 29) (.tmp 34) rfl V.heap.size _ (to1 p) [⟨kCon,TC,0⟩] rfl (Rg.own_below HT1.out.1 (HU1.out.alloc HU1.out.size _)) _ _ rfl (Rg.news_new u1 _ _ _ (by rfl)) (Nat.zero_lt_succ _) HSZ.out ?b2 ?_)
   case b2=>have:=HT1.out.2.size;have:=HU1.out.size;simp;omega
   intro v5 W5 ho5 hg5 hz5
   have HT5 : Hid (ToSt V v5 (to2 p) W5):=by show ToSt _ _ _ _;rw [HF.out];exact toSt_app HT1.out HU1.out ho5 hg5
   clear ho5 hg5 hz5
   go_wp2_with fail
   go_meet
   case rel=>exact HT5
 case rest =>
 have HT2 : Hid (ToSt V u3 (to2 p) wc):=hcut
 clear hcut HT1 y0 y1 y2 y3 y4 y5
 obtain ⟨A2,c2,rfl,_,_,_⟩:=Rg.row_own Sz.fitsF HT2.out.1
 obtain ⟨y0,y1,y2,y3,y4,y5⟩:=HC6.out _ HT2.out.2
 go_upto_if 39 with fail
 go_cut [3] (fun v wx=>Hid (ToSt V v (to3 p) wx))
 case first =>
  by_cases h0 : gn=0
  ·have HF : Hid (to3 p=to2 p):=by show _=_;rw [E3.out,if_pos h0]
   subst h0
   go_wp2_with fail
   go_meet
   case rel=>show ToSt _ _ _ _;rw [HF.out];exact HT2.out
  ·have HF : Hid (to3 p=to2 p ++ [⟨kPro,TG,0⟩]):=by show _=_;rw [E3.out,if_neg h0]
   have hpos : 0 < gn:=by omega
   clear h0
   go_wp2_with fail
   refine (HJG.out _ HT2.out.2).mono ?_
   rintro _ u1 ⟨rfl,hb1⟩
   have HU1:=Lib.hid hb1
   clear hb1
   have HSZ : Hid ((to2 p).length + 1≤1000000):=by have:=to2_len p;show _≤_;omega
   go_wp2_with (at_builtin;refine Rg.wpList_app Sz.sliceF rfl (.tmp 40) (.tmp 45) rfl V.heap.size _ (to2 p) [⟨kPro,TG,0⟩] rfl (Rg.own_below HT2.out.1 (HU1.out.alloc HU1.out.size _)) _ _ rfl (Rg.news_new u1 _ _ _ (by rfl)) (Nat.zero_lt_succ _) HSZ.out ?b2 ?_)
   case b2=>have:=HT2.out.2.size;have:=HU1.out.size;simp;omega
   intro v5 W5 ho5 hg5 hz5
   have HT5 : Hid (ToSt V v5 (to3 p) W5):=by show ToSt _ _ _ _;rw [HF.out];exact toSt_app HT2.out HU1.out ho5 hg5
   clear ho5 hg5 hz5
   go_wp2_with fail
   go_meet
   case rel=>exact HT5
 case rest =>
 have HT3 : Hid (ToSt V u3 (to3 p) wc):=hcut
 clear hcut HT2 y0 y1 y2 y3 y4 y5
 obtain ⟨A3,c3,rfl,_,_,_⟩:=Rg.row_own Sz.fitsF HT3.out.1
 obtain ⟨y0,y1,y2,y3,y4,y5⟩:=HC6.out _ HT3.out.2
 by_cases h0 : TW = [48]
 ·have HF : Hid (toPk p=to3 p):=by show _=_;rw [E4.out,if_pos h0]
  have d0 : (TW == [48])=true:=beq_iff_eq.2 h0
  have d1 : (TW != [48])=false:=by rw [bne,d0];rfl
  clear h0
  go_wp2_with fail
  refine (HJW.out _ HT3.out.2).mono ?_
  rintro _ u1 ⟨rfl,hb1⟩
  have HT4 : Hid (ToSt V (.slice A3 (to3 p).length c3) (to3 p) u1):=⟨Rg.own_below HT3.out.1 hb1,HT3.out.2.trans (hb1.mono HT3.out.2.size)⟩
  clear hb1
  go_wp2_with fail
  go_ret
  rw [HF.out]
  obtain ⟨A4,c4,e4,hr4,_,_⟩:=Rg.row_own Sz.fitsF HT4.out.1
  cases e4
  exact ⟨_,_,_,rfl,rfl,hr4,HB.out.trans (HT4.out.2.mono HBW.out)⟩
 ·have HF : Hid (toPk p=to3 p ++ [⟨kWei,TW,0⟩]):=by show _=_;rw [E4.out,if_neg h0]
  have d0 : (TW == [48])=false:=beq_eq_false_iff_ne.2 h0
  have d1 : (TW != [48])=true:=by rw [bne,d0];rfl
  clear h0
  go_wp2_with fail
  refine (HJW.out _ HT3.out.2).mono ?_
  rintro _ u1 ⟨rfl,hb1⟩
  have HU1:=Lib.hid hb1
  clear hb1
  have HSZ : Hid ((to3 p).length + 1≤1000000):=by have:=to3_len p;show _≤_;omega
  go_wp2_with (at_builtin;refine Rg.wpList_app Sz.sliceF rfl (.tmp 52) (.tmp 55) rfl V.heap.size _ (to3 p) [⟨kWei,TW,0⟩] rfl (Rg.own_below HT3.out.1 (HU1.out.alloc HU1.out.size _)) _ _ rfl (Rg.news_new u1 _ _ _ (by rfl)) (Nat.zero_lt_succ _) HSZ.out ?b2 ?_)
  case b2=>have:=HT3.out.2.size;have:=HU1.out.size;simp;omega
  intro v5 W5 ho5 hg5 hz5
  have HT5 : Hid (ToSt V v5 (toPk p) W5):=by show ToSt _ _ _ _;rw [HF.out];exact toSt_app HT3.out HU1.out ho5 hg5
  clear ho5 hg5 hz5
  go_wp2_with fail
  go_ret
  obtain ⟨A4,c4,rfl,hr4,_,_⟩:=Rg.row_own Sz.fitsF HT5.out.1
  exact ⟨_,_,_,rfl,rfl,hr4,HB.out.trans (HT5.out.2.mono HBW.out)⟩
end Go.Proofs.YtkplahkkmmoppaaGreatDoor
namespace Go.Proofs.YtkplahkkmmoppaaGreatDoor
open Go.RowKit Rs At Pg
namespace Pg
theorem checkP_all {p : Pk} (h : checkP p=0) : nameB p.name=true∧verE p.ver=0∧p.deps.length≤16∧depsE p.deps=0∧p.confl.length≤16∧atomsE p.confl=0∧p.prov.length≤16∧givesE p.prov=0∧chkW p.wt=0:=by
 unfold checkP at h
 by_cases h1 : nameB p.name=false
 ·rw [if_pos h1] at h;cases h
 rw [if_neg h1] at h
 by_cases h2 : verE p.ver ≠ 0
 ·rw [if_pos h2] at h;exact absurd h h2
 rw [if_neg h2] at h
 by_cases h3 : 16 < p.deps.length
 ·rw [if_pos h3] at h;cases h
 rw [if_neg h3] at h
 by_cases h4 : depsE p.deps ≠ 0
 ·rw [if_pos h4] at h;exact absurd h h4
 rw [if_neg h4] at h
 by_cases h5 : 16 < p.confl.length
 ·rw [if_pos h5] at h;cases h
 rw [if_neg h5] at h
 by_cases h6 : atomsE p.confl ≠ 0
 ·rw [if_pos h6] at h;exact absurd h h6
 rw [if_neg h6] at h
 by_cases h7 : 16 < p.prov.length
 ·rw [if_pos h7] at h;cases h
 rw [if_neg h7] at h
 by_cases h8 : givesE p.prov ≠ 0
 ·rw [if_pos h8] at h;exact absurd h h8
 rw [if_neg h8] at h
 refine ⟨?_,Decidable.not_not.1 h2,by omega,Decidable.not_not.1 h4,by omega,Decidable.not_not.1 h6,by omega,Decidable.not_not.1 h8,h⟩
 cases hb : nameB p.name
 ·exact absurd hb h1
 ·rfl
theorem atomsE_all : ∀ {l : List Atm},atomsE l=0 → ∀ a ∈ l,checkA a=0
 | [],_,a,ha=>by cases ha
 | b :: l,h,a,ha=>by
  unfold atomsE at h
  by_cases h1 : checkA b=0
  ·rw [if_pos h1] at h
   rcases List.mem_cons.1 ha with rfl | ha
   ·exact h1
   ·exact atomsE_all h a ha
  ·rw [if_neg h1] at h;exact absurd h h1
theorem givesE_all : ∀ {l : List Gv},givesE l=0 → ∀ a ∈ l,giveE a=0
 | [],_,a,ha=>by cases ha
 | b :: l,h,a,ha=>by
  unfold givesE at h
  by_cases h1 : giveE b=0
  ·rw [if_pos h1] at h
   rcases List.mem_cons.1 ha with rfl | ha
   ·exact h1
   ·exact givesE_all h a ha
  ·rw [if_neg h1] at h;exact absurd h h1
theorem depsE_all : ∀ {l : List (List Atm)},depsE l=0 → ∀ d ∈ l,1≤d.length∧d.length≤8∧atomsE d=0
 | [],_,a,ha=>by cases ha
 | b :: l,h,a,ha=>by
  unfold depsE at h
  by_cases h1 : 1≤b.length∧b.length≤8
  ·rw [if_pos h1] at h
   by_cases h2 : atomsE b=0
   ·rw [if_pos h2] at h
    rcases List.mem_cons.1 ha with rfl | ha
    ·exact ⟨h1.1,h1.2,h2⟩
    ·exact depsE_all h a ha
   ·rw [if_neg h2] at h;exact absurd h h2
  ·rw [if_neg h1] at h;cases h
theorem verE_parts {v : List UInt8} (h : verE v=0) : Vm.check v=0∧Vm.canon v=v:=by
 unfold verE at h
 split at h
 ·rename_i h1
  split at h
  ·rename_i h2;exact ⟨h1,h2⟩
  ·cases h
 ·rename_i h1;exact absurd h h1
theorem giveE_parts {g : Gv} (h : giveE g=0) : nameB g.name=true∧(g.ver = [] ∨ verE g.ver=0):=by
 unfold giveE at h
 split at h
 ·rename_i h1
  split at h
  ·rename_i h2;exact ⟨h1,Or.inl h2⟩
  ·exact ⟨h1,Or.inr h⟩
 ·cases h
theorem lens_le {B : Nat} : ∀ (l : List (List UInt8)),(∀ x ∈ l,x.length≤B) → Lib.lens l≤l.length * B
 | [],_=>by simp [Lib.lens]
 | x :: l,h=>by
  have h1:=lens_le l (fun y hy=>h y (List.mem_cons_of_mem _ hy))
  have h2:=h x (List.mem_cons_self ..)
  have e : Lib.lens (x :: l)=x.length + Lib.lens l:=by simp [Lib.lens]
  rw [e,List.length_cons,Nat.add_mul]
  omega
theorem join_le {B : Nat} (l : List (List UInt8)) (sep : List UInt8) (h : ∀ x ∈ l,x.length≤B) : (Lib.join l sep).length≤l.length * (B + sep.length):=by
 cases l with
 | nil=>simp [Lib.join_nil]
 | cons x r =>
  rw [Lib.join_length]
  have h1:=lens_le (x :: r) h
  have h2 : sep.length * r.length≤(r.length + 1) * sep.length:=by rw [Nat.mul_comm];exact Nat.mul_le_mul_right _ (Nat.le_succ _)
  rw [List.length_cons] at h1 ⊢
  rw [Nat.mul_add]
  omega
theorem atxt_of {l : List Atm} (h : atomsE l=0) : ATxt l:=fun a ha=>by
 obtain ⟨h1,h2,_⟩:=check_parts (atomsE_all h a ha)
 exact ⟨Nat.le_trans (name_len h1) (by decide),good_n h2,h2⟩
theorem afew_of {l : List Atm} (h : atomsE l=0) : AFew l:=fun a ha=>by
 obtain ⟨h1,h2,_⟩:=check_parts (atomsE_all h a ha)
 exact ⟨Nat.le_trans (name_len h1) (by decide),Nat.le_trans (good_n h2) (by decide)⟩
theorem texts_le {l : List Atm} (h : atomsE l=0) : ∀ x ∈ l.map textA,x.length≤1000:=fun x hx=>by
 obtain ⟨a,ha,rfl⟩:=List.mem_map.1 hx
 exact text_le (atomsE_all h a ha)
theorem depT_le {d : List Atm} (h : atomsE d=0) (hl : d.length≤8) : (depT d).length≤8032:=by
 have h1:=join_le (d.map textA) orT (texts_le h)
 rw [List.length_map] at h1
 have h2 : d.length * (1000 + orT.length)≤8 * 1004:=Nat.mul_le_mul_right _ hl
 exact Nat.le_trans h1 h2
theorem depsT_le {p : Pk} (h : depsE p.deps=0) (hl : p.deps.length≤16) : (depsT p).length≤128544:=by
 have h1:=join_le (B:=8032) (p.deps.map depT) semi (fun x hx=>by
  obtain ⟨d,hd,rfl⟩:=List.mem_map.1 hx
  obtain ⟨_,q1,q2⟩:=depsE_all h d hd
  exact depT_le q2 q1)
 rw [List.length_map] at h1
 have h2 : p.deps.length * (8032 + semi.length)≤16 * 8034:=Nat.mul_le_mul_right _ hl
 exact Nat.le_trans h1 h2
theorem conflT_le {p : Pk} (h : atomsE p.confl=0) (hl : p.confl.length≤16) : (conflT p).length≤16032:=by
 have h1:=join_le (p.confl.map textA) semi (texts_le h)
 rw [List.length_map] at h1
 have h2 : p.confl.length * (1000 + semi.length)≤16 * 1002:=Nat.mul_le_mul_right _ hl
 exact Nat.le_trans h1 h2
theorem give_le {g : Gv} (h : giveE g=0) : g.name.length≤24∧g.ver.length≤40∧(gvT g).length≤67:=by
 obtain ⟨h1,h2⟩:=giveE_parts h
 have hn:=name_len h1
 have hv : g.ver.length≤40:=by
  rcases h2 with h2 | h2
  ·rw [h2];exact Nat.zero_le _
  ·exact (Vm.ver_of (verE_parts h2).1).1
 refine ⟨hn,hv,?_⟩
 unfold gvT
 split
 ·omega
 ·simp only [List.length_append,List.length_cons,List.length_nil];omega
theorem gtxt_of {l : List Gv} (h : givesE l=0) : GTxt l:=fun g hg=>by
 obtain ⟨h1,h2,_⟩:=give_le (givesE_all h g hg)
 exact ⟨by omega,by omega⟩
theorem provT_le {p : Pk} (h : givesE p.prov=0) (hl : p.prov.length≤16) : (provT p).length≤1104:=by
 have h1:=join_le (B:=67) (p.prov.map gvT) semi (fun x hx=>by
  obtain ⟨d,hd,rfl⟩:=List.mem_map.1 hx
  exact (give_le (givesE_all h d hd)).2.2)
 rw [List.length_map] at h1
 have h2 : p.prov.length * (67 + semi.length)≤16 * 69:=Nat.mul_le_mul_right _ hl
 exact Nat.le_trans h1 h2
theorem check_txt {p : Pk} (h : checkP p=0) (hw : p.wt < Wm.W) : PTxt p:=by
 obtain ⟨h1,h2,h3,h4,h5,h6,h7,h8,h9⟩:=checkP_all h
 have hv:=(Vm.ver_of (verE_parts h2).1).1
 have hn:=name_len h1
 refine ⟨by omega,by omega,by omega,fun d hd=>?_,Nat.le_trans (depsT_le h4 h3) (by decide),by omega,atxt_of h6,Nat.le_trans (conflT_le h6 h5) (by decide),by omega,gtxt_of h8,Nat.le_trans (provT_le h8 h7) (by decide),hw⟩
 obtain ⟨_,q1,q2⟩:=depsE_all h4 d hd
 exact ⟨by omega,atxt_of q2,Nat.le_trans (depT_le q2 q1) (by decide)⟩
theorem check_few {p : Pk} (h : checkP p=0) (hw : p.wt < Wm.W) : PFew p:=by
 obtain ⟨h1,h2,h3,h4,h5,h6,h7,h8,h9⟩:=checkP_all h
 have hn:=name_len h1
 refine ⟨Nat.le_trans hn (by decide),by omega,fun d hd=>?_,by omega,afew_of h6,by omega,fun g hg=>?_,hw⟩
 ·obtain ⟨_,q1,q2⟩:=depsE_all h4 d hd
  exact ⟨by omega,afew_of q2⟩
 ·obtain ⟨q1,q2,_⟩:=give_le (givesE_all h8 g hg)
  exact ⟨Nat.le_trans q1 (by decide),Nat.le_trans q2 (by decide)⟩
theorem check_gives {p : Pk} (h : checkP p=0) : Vm.check p.ver=0∧∀ g ∈ p.prov,g.ver = [] ∨ Vm.check g.ver=0:=by
 obtain ⟨h1,h2,h3,h4,h5,h6,h7,h8,h9⟩:=checkP_all h
 refine ⟨(verE_parts h2).1,fun g hg=>?_⟩
 obtain ⟨_,q⟩:=giveE_parts (givesE_all h8 g hg)
 exact q.imp id fun q=>(verE_parts q).1
end Pg
end Go.Proofs.YtkplahkkmmoppaaGreatDoor
namespace Go.Proofs.YtkplahkkmmoppaaGreatDoor
open Go.RowKit Rs At Pg
attribute [local go_sem ↓] Go.wp_at_zero Go.wp_at_succ
attribute [local go_sem] Pg.run_store_float
namespace Pg
theorem s6_from {u : World} (hk : KOk u) (A : Option Addr) (n c : Nat) (l : List Sz.Fld) (hn : l.length=n) (hr : Rg.Row Sz.encF 3 u A l) (hl : n≤1000) (hs : Sz.Short l) (hv : ∀ f ∈ l,f.val.length≤1000) {k i : Int} {p : Pk} (hX : fromP l=(k,i,p)) {nm vr : List UInt8} {dn cn gn wt : Nat} (e0 : p.name=nm) (e1 : p.ver=vr) (e2 : p.deps.length=dn) (e3 : p.confl.length=cn) (e4 : p.prov.length=gn) (e5 : p.wt=wt) :
  Calls Tryz.prog 17 #[.slice A n c] u fun e w'=>∃ D dc C cc G gc,e = .returned (.tuple #[.agg #[.string ⟨nm.toArray⟩,.string ⟨vr.toArray⟩,.slice D dn dc,.slice C cn cc,.slice G gn gc,.float .f64 wt],.int .i64 i,.int .i64 k])∧Pg.DRow w' D p.deps∧ARow w' C p.confl∧GRow w' G p.prov∧Below u.heap.size u w' :=
 (pkgFrom_any A n c l u hk hn hr hl hs hv).mono fun e w' ⟨hb,D,dc,C,cc,G,gc,he,hr⟩=>by
  rw [hX] at he hr
  dsimp only at he hr
  subst e0 e1 e2 e3 e4 e5
  exact ⟨D,dc,C,cc,G,gc,he,drowF_row hr.1.1,hr.2.1.1,hr.2.2.1,hb⟩
theorem s6_check {u : World} (hw : MaxOk u) (p : Pk) (D C G : Option Addr) (dn dc cn cc gn gc : Nat) (hd : Pg.DRow u D p.deps) (hdn : p.deps.length=dn) (hc : ARow u C p.confl) (hcn : p.confl.length=cn) (hg : GRow u G p.prov) (hgn : p.prov.length=gn) (hf : PFew p) {nm vr : List UInt8} {wt : Nat} (e0 : p.name=nm) (e1 : p.ver=vr) (e5 : p.wt=wt) {k : Int} (hk : checkP p=k) :
  Calls Tryz.prog 12 #[.agg #[.string ⟨nm.toArray⟩,.string ⟨vr.toArray⟩,.slice D dn dc,.slice C cn cc,.slice G gn gc,.float .f64 wt]] u fun e w'=>e = .returned (.int .i64 k)∧Below u.heap.size u w':=by
 subst e0 e1 e5 hk
 exact pkgCheck_any p D C G dn dc cn cc gn gc u hw hd hdn hc hcn hg hgn hf
theorem s6_same {u : World} (p : Pk) (D C G : Option Addr) (dn dc cn cc gn gc : Nat) (q : Pk) (D' C' G' : Option Addr) (dn' dc' cn' cc' gn' gc' : Nat) (hd : Pg.DRow u D p.deps) (hdn : p.deps.length=dn) (hc : ARow u C p.confl) (hcn : p.confl.length=cn) (hg : GRow u G p.prov) (hgn : p.prov.length=gn) (hf : PFew p) (hd' : Pg.DRow u D' q.deps) (hdn' : q.deps.length=dn') (hc' : ARow u C' q.confl) (hcn' : q.confl.length=cn') (hg' : GRow u G' q.prov) (hgn' : q.prov.length=gn') (hf' : PFew q) {nm vr nm' vr' : List UInt8} {wt wt' : Nat} (e0 : p.name=nm) (e1 : p.ver=vr) (e5 : p.wt=wt) (e0' : q.name=nm') (e1' : q.ver=vr') (e5' : q.wt=wt') {b : Bool} (hb : samP p q=b) :
  Calls Tryz.prog 14 #[.agg #[.string ⟨nm.toArray⟩,.string ⟨vr.toArray⟩,.slice D dn dc,.slice C cn cc,.slice G gn gc,.float .f64 wt],.agg #[.string ⟨nm'.toArray⟩,.string ⟨vr'.toArray⟩,.slice D' dn' dc',.slice C' cn' cc',.slice G' gn' gc',.float .f64 wt']] u fun e w'=>e = .returned (.bool b)∧Below u.heap.size u w':=by
 subst e0 e1 e5 e0' e1' e5' hb
 exact pkgSame_any p q D C G D' C' G' dn dc cn cc gn gc dn' dc' cn' cc' gn' gc' u hd hdn hc hcn hg hgn hf hd' hdn' hc' hcn' hg' hgn' hf'
theorem s6_meets {u : World} (hw : MaxOk u) (p : Pk) (D C G : Option Addr) (dn dc cn cc gn gc : Nat) (nm : List UInt8) (B : Option Addr) (m d : Nat) (r : List Sp) (hg : GRow u G p.prov) (hgn : p.prov.length=gn) (hgl : gn≤1000000) (ho : ∀ g ∈ p.prov,g.ver = [] ∨ Vm.check g.ver=0) (hv : Vm.check p.ver=0) (hm : r.length=m) (hq : SRow u B r) (hm2 : m≤64) (hk : checkR r=0) {pn vr : List UInt8} {wt : Nat} (e0 : p.name=pn) (e1 : p.ver=vr) (e5 : p.wt=wt) {b : Bool} (hb : metP p ⟨nm,r⟩=b) :
  Calls Tryz.prog 26 #[.agg #[.string ⟨pn.toArray⟩,.string ⟨vr.toArray⟩,.slice D dn dc,.slice C cn cc,.slice G gn gc,.float .f64 wt],.agg #[.string ⟨nm.toArray⟩,.slice B m d]] u fun e w'=>e = .returned (.bool b)∧Below u.heap.size u w':=by
 subst e0 e1 e5 hb
 exact pkgMeets_any p D C G dn dc cn cc gn gc nm B m d r u hw hg hgn hgl ho hv hm hq hm2 hk
theorem s6_to {u : World} (hk : KOk u) (p : Pk) (D C G : Option Addr) (dn dc cn cc gn gc : Nat) (hd : Pg.DRow u D p.deps) (hdn : p.deps.length=dn) (hc : ARow u C p.confl) (hcn : p.confl.length=cn) (hg : GRow u G p.prov) (hgn : p.prov.length=gn) (ht : PTxt p) {nm vr : List UInt8} {wt : Nat} (e0 : p.name=nm) (e1 : p.ver=vr) (e5 : p.wt=wt) {n : Nat} (hn : (toPk p).length=n) :
  Calls Tryz.prog 16 #[.agg #[.string ⟨nm.toArray⟩,.string ⟨vr.toArray⟩,.slice D dn dc,.slice C cn cc,.slice G gn gc,.float .f64 wt]] u fun e w'=>∃ A c,e = .returned (.slice A n c)∧Rg.Row Sz.encF 3 w' A (toPk p)∧Below u.heap.size u w':=by
 subst e0 e1 e5
 refine (pkgTo_any p D C G dn dc cn cc gn gc u hk hd hdn hc hcn hg hgn ht).mono ?_
 rintro e w' ⟨A,m,c,rfl,hm,hr,hb⟩
 rw [hn] at hm
 subst hm
 exact ⟨A,c,rfl,hr,hb⟩
theorem s6_depT {u : World} (hw : MaxOk u) (A : Option Addr) (n c : Nat) (d : List Atm) (hn : d.length=n) (hr : ARow u A d) (hl : n≤1000) (hg : ATxt d) {t : List UInt8} (ht : depT d=t) (hj : t.length≤1000000) : Calls Tryz.prog 32 #[.slice A n c] u fun e w'=>e = .returned (.string ⟨t.toArray⟩)∧Below u.heap.size u w':=by
 subst ht
 exact depText_any A n c d u hw hn hr hl hg hj
theorem s6_all (u : World) : Calls Tryz.prog 29 #[] u fun e w'=>∃ C d,e = .returned (.slice C 1 d)∧SRow w' C allS∧Below u.heap.size u w' :=
 (all_any u).mono fun _ _ ⟨⟨C,d,he,hr,_,_⟩,hb⟩=>⟨C,d,he,hr,hb⟩
theorem region_named {P : Program} {id : Nat} {L : Array Oper} {b : Bool} {Q : Exit → Act → World → Prop} {a : Act} {w : World} (h : ∀ ops,L=ops → (Code.region id ops b).wp P Q a w) : (Code.region id L b).wp P Q a w:=h L rfl
section
variable {P : Program} {ops : Array Oper} {L : List Oper} {md : Region.Mode} {Q : Exit → Act → World → Prop} {S : World → Prop} {fuel : Nat} {listed : Array Bool} {a : Act} {w : World}
theorem take_at (hL : L.toArray=ops) (i : Nat) {oi : Oper} {v : Value} (hi : L[i]? = some oi) (hs : Region.noSelect ops=true) (hf : Region.free md L.toArray listed i=true) (hr : (Region.ready md L.toArray listed).contains i=true)
  (hQ : ∀ c a w,Q (.panic c) (a.put oi.dst v) w → Q (.panic c) a w) (hw : Region.wanted oi (yielded L.toArray a.tmps)=true) (hS : S w) (hy : ∀ w,S w → (execOp a.eval oi).run P w = .ok (.value v) w)
  (h : wpAnyH P md ops Q S fuel (listed.setIfInBounds i true) (a.put oi.dst v) w) : wpAnyH P md ops Q S (fuel + 1) listed a w:=by
 subst hL
 exact wpAnyH_take (by simpa using hi) hs hf hr hQ (Or.inl ⟨hw,hy⟩) hS h
theorem mvS {α : Type} : (∀ (l : List α) (i : Nat) (v : α),l.toArray.setIfInBounds i v=(l.set i v).toArray)∧(∀ (x v : α) (l : List α),(x :: l).set 0 v=v :: l)∧∀ (x v : α) (l : List α) (n : Nat),(x :: l).set (n + 1) v=x :: l.set n v:=⟨fun _ _ _=>List.setIfInBounds_toArray ..,fun _ _ _=>List.set_cons_zero,fun _ _ _ _=>List.set_cons_succ⟩
theorem mv (hS : S w) (hL : L.toArray=ops) (hs : Region.noSelect ops=true) (i : Nat) {oi : Oper} {v : Value} (h : wpAnyH P md ops Q S fuel (listed.setIfInBounds i true) (a.put oi.dst v) w)
  (hi : L[i]? = some oi:=by rfl) (hf : Region.free md L.toArray listed i=true:=by kernel_rfl) (hr : (Region.ready md L.toArray listed).contains i=true:=by kernel_rfl) (hQ : ∀ c a w,Q (.panic c) (a.put oi.dst v) w → Q (.panic c) a w:=by exact fun _ _ _ h=>h) (hw : Region.wanted oi (yielded L.toArray a.tmps)=true:=by rfl)
  (hy : ∀ w,S w → (execOp a.eval oi).run P w = .ok (.value v) w:=by (intro w hSw;(try dsimp only at hSw);go_simp;(try with_reducible rfl))) : wpAnyH P md ops Q S (fuel + 1) listed a w:=take_at hL i hi hs hf hr hQ hw hS hy h
theorem next_at (hL : L.toArray=ops) (i : Nat) {oi : Oper} (hi : L[i]? = some oi) (hr : Region.ready md L.toArray listed = [i]) (hw : Region.wanted oi (yielded L.toArray a.tmps)=true)
  (h : ∀ K : Act → World → Prop,Shut (∀ a w,S w → (S w → wpAnyH P md ops Q S fuel (listed.setIfInBounds i true) a w) → K a w) → Oper.wp P oi a w K Q) : wpAnyH P md ops Q S (fuel + 1) listed a w:=by
 subst hL
 refine wpAnyH_ready (rs:=[i]) hr (by simp) (AllReadyH.cons (by simpa using hi) (fun K hK=>?_) AllReadyH.nil)
 rw [if_pos hw]
 exact h K hK
theorem done_at (hL : L.toArray=ops) (hr : Region.ready md L.toArray listed = []) (h : Q .normal a w) : wpAnyH P md ops Q S fuel listed a w:=by
 subst hL
 exact wpAnyH_done hr h fuel
theorem size_at (hL : L.toArray=ops) {n : Nat} (h : L.length=n) : ops.size=n:=by subst hL;simpa using h
theorem nosel_at (hL : L.toArray=ops) (h : Region.noSelect L.toArray=true) : Region.noSelect ops=true:=by subst hL;exact h
end
theorem grid_one (A : Option Addr) (n c : Nat) {w : World} (l : List Sz.Fld) (T : TypeId) (h : Rg.Row Sz.encF 3 w A l) (hn : l.length=n) : Gr.Row Sz.encF 3 (w.alloc (.cells #[.slice A n c] T)) (some ⟨w.heap.size,0,none⟩) [l]:=by
 refine ⟨[(A,n,c)],Rg.row_new fitsO w T [((A,n,c) : Desc)] _ rfl rfl,rfl,fun i d m e1 e2=>?_⟩
 match i with
 | 0=>cases e1;cases e2;exact ⟨hn.symm,Rg.row_below h ((Below.refl _ _).alloc (Nat.le_refl _) _)⟩
 | i + 1=>simp at e1
theorem row_take {α : Type} {enc : α → List Value} {K : Nat} {w : World} {A : Option Addr} {l : List α} (h : Rg.Row enc K w A l) (n : Nat) : Rg.Row enc K w A (l.take n):=fun h0=>by
 have hl : (l.take n).length≤l.length:=by rw [List.length_take];omega
 obtain ⟨a,e,hb,hc⟩:=h (by omega)
 refine ⟨a,e,hb,fun i hi=>?_⟩
 rw [List.getElem_take]
 exact hc i (by omega)
end Pg
theorem Pg.s6_parse {w : World} (hw : MaxOk w) : Calls Tryz.prog 34 #[.string ⟨[80,97,99,107,97,103,101,58,32,97,112,112,10,86,101,114,115,105,111,110,58,32,49,46,48,48,10,68,101,112,101,110,100,115,58,32,108,105,98,32,40,62,61,32,50,41,32,111,114,32,97,108,116,59,32,120,10,80,114,111,118,105,100,101,115,58,32,116,111,111,108,59,32,111,108,100,32,61,32,48,49,10,87,101,105,103,104,116,58,32,51,112,45,49,10].toArray⟩] w fun e w'=>∃ ad c C0 d0,e = .returned (.tuple #[.slice (some ad) 1 c,.int .i64 0,.int .i64 0])∧5≤d0∧Rg.Row Sz.encF 3 w' C0 f6∧(∀ u,Below w'.heap.size w' u → u.cell? ad=some (.slice C0 5 d0))∧Below w.heap.size w w' :=
 (stanzaParse_cap _ w hw).mono fun e w' ⟨A,c,he,⟨ds,h1,h2,h3⟩,hb⟩=>by
  rw [k6a] at he h2
  have hl : ds.length=1:=h2.1
  obtain ⟨ad,x,e,hx,hlt,hc⟩:=Rg.row_at h1 0 (by omega)
  obtain ⟨q1,q2⟩:=h2.2 0 x f6 (by rw [List.getElem?_eq_getElem (by omega),hx]) rfl
  have hcap:=h3 x (by rw [← hx];exact List.getElem_mem _)
  obtain ⟨C0,n0,d0⟩:=x
  have e5 : n0=5:=q1
  subst e5 e
  have c0:=hc 0 _ rfl
  rw [if_pos rfl,Nat.zero_mul,Rg.add_zero] at c0
  exact ⟨ad,c,C0,d0,he,hcap,q2,fun u hu=>(hu.cell (cell_in c0)).trans c0,hb⟩
theorem known6_any (w : World) (hk : KOk w) : Calls Tryz.prog 9 #[] w fun e w'=>e = .returned (.bool true)∧Below w.heap.size w w':=by
 have HK:=Lib.hid hk
 have HTX : Hid (PTxt p6):=check_txt k6h.1 (by decide +kernel)
 have HFW : Hid (PFew p6):=check_few k6h.1 (by decide +kernel)
 have HGV : Hid (Vm.check p6.ver=0∧∀ g ∈ p6.prov,g.ver = [] ∨ Vm.check g.ver=0):=check_gives k6h.1
 have HSH : Hid (Sz.Short f6∧Sz.Short [⟨kPkg,[97,112,112],0⟩]∧Sz.Short [⟨kPkg,[97],0⟩,⟨kVer,[49],0⟩,⟨kWei,[110,97,110],0⟩]):=⟨Sz.short_of (by decide +kernel),Sz.short_of (by decide +kernel),Sz.short_of (by decide +kernel)⟩
 have HVL : Hid ((∀ f ∈ f6,f.val.length≤1000)∧(∀ f ∈ [(⟨kPkg,[97,112,112],0⟩ : Sz.Fld)],f.val.length≤1000)∧∀ f ∈ [(⟨kPkg,[97],0⟩ : Sz.Fld),⟨kVer,[49],0⟩,⟨kWei,[110,97,110],0⟩],f.val.length≤1000):=⟨by decide +kernel,by decide +kernel,by decide +kernel⟩
 have o1:=Wm.ord_self 4609434218613702656 (by decide)
 rw [show Wm.nan 4609434218613702656=false from by decide +kernel] at o1
 clear hk
 go_enter Tryz.func9,Tryz.ntmps9
 go_wp2_with fail
 refine (s6_parse HK.out.1).mono ?_
 rintro _ u1 ⟨ad,c,C0,d0,rfl,hcap,hr,hcl,hb⟩
 have HB1:=Lib.hid hb
 have HR1:=Lib.hid hr
 have HC1:=Lib.hid hcl
 have HK1 : Hid (KOk u1):=kOk_below HK.out hb
 have HCAP:=Lib.hid hcap
 have q0:=hcl _ (Below.refl _ _)
 clear hb hr hcl hcap
 go_wp2_with fail
 refine (s6_from HK1.out C0 5 d0 f6 rfl HR1.out (by decide) HSH.out.1 HVL.out.1 k6b (nm:=[97,112,112]) (vr:=[49,46,48]) (dn:=2) (cn:=0) (gn:=2) (wt:=4609434218613702656) rfl rfl rfl rfl rfl rfl).mono ?_
 rintro _ u2 ⟨D,dc,C,cc,G,gc,rfl,hd,hc,hg,hb⟩
 have HB2:=Lib.hid hb
 have HD2:=Lib.hid hd
 have HC2:=Lib.hid hc
 have HG2:=Lib.hid hg
 clear hb hd hc hg q0
 obtain ⟨W4,hW4⟩ : ∃ W,u2.alloc (.cells #[.string ⟨#[97,112,112]⟩,.string ⟨#[49,46,48]⟩,.slice D 2 dc,.slice C 0 cc,.slice G 2 gc,.float .f64 4609434218613702656] 34)=W:=⟨_,rfl⟩
 have h24 : Below u2.heap.size u2 W4:=alloc_low hW4
 have HB4 : Hid (Below u1.heap.size u1 W4):=HB2.out.trans (h24.mono HB2.out.size)
 have HK4 : Hid (KOk W4):=kOk_below HK1.out HB4.out
 have HD4 : Hid (Pg.DRow W4 D p6.deps):=drowD_below HD2.out h24
 have HCC4 : Hid (ARow W4 C p6.confl):=arow_below HC2.out h24
 have HG4 : Hid (GRow W4 G p6.prov):=Rg.row_below HG2.out h24
 obtain ⟨b4,hb4⟩ : ∃ b,u2.heap.size=b:=⟨_,rfl⟩
 have HY:=Lib.hid (fun W (h : Below W4.heap.size W4 W)=>cell_six hW4 h)
 rw [hb4] at HY
 obtain ⟨adD,C1,n1,c1,rfl,hn1,hr1,hcD⟩:=drowD_at HD4.out 0 (by decide)
 obtain rfl : (2 : Nat)=n1:=hn1
 have HA1 : Hid (ARow W4 C1 d60):=hr1
 obtain ⟨adA,CA,nA,cA,rfl,hnA,hrA,hcA⟩:=arow_at HA1.out 0 (by decide)
 obtain rfl : (1 : Nat)=nA:=hnA
 have HSA : Hid (SRow W4 CA [⟨[50],[],true,false⟩]):=hrA
 obtain ⟨adG,rfl,hcG⟩:=grow_at HG4.out 1 (by decide)
 rw [Rg.add_zero] at hcD
 rw [Nat.zero_mul,Rg.add_zero] at hcA
 have HCD : Hid (∀ u,Below W4.heap.size W4 u → u.cell? adD=some (.slice (some adA) 2 c1)):=hcD
 have HCA : Hid (∀ u,Below W4.heap.size W4 u → u.cell? adA=some (.string ⟨#[108,105,98]⟩)∧u.cell? ⟨adA.block,adA.off + 1,none⟩=some (.slice CA 1 cA)):=hcA
 have HCG : Hid (∀ u,Below W4.heap.size W4 u → u.cell? ⟨adG.block,adG.off + 2 + 1,none⟩=some (.string ⟨#[49]⟩)):=fun u h=>(hcG u h).2
 clear h24 hr1 hcD hrA hcA hcG
 have HQ : Hid (∀ u,Below W4.heap.size W4 u → KOk u∧Pg.DRow u (some adD) p6.deps∧ARow u C p6.confl∧GRow u (some adG) p6.prov∧ARow u (some adA) d60∧SRow u CA [⟨[50],[],true,false⟩]∧Rg.Row Sz.encF 3 u C0 f6):=fun u h=>⟨kOk_below HK4.out h,drowD_below HD4.out h,arow_below HCC4.out h,Rg.row_below HG4.out h,arow_below HA1.out h,srow_below HSA.out h,Rg.row_below HR1.out (HB4.out.trans (h.mono HB4.out.size))⟩
 clear HD2 HC2 HG2 HD4 HCC4 HG4 HA1 HSA HK4
 have HB : Hid (Below W4.heap.size W4 W4):=Below.refl _ _
 obtain ⟨y0,y1,y2,y3,y4,y5⟩:=HY.out _ HB.out
 have q0:=HC1.out _ HB4.out
 have q1:=HCD.out _ HB.out
 have hcap1 : 1≤d0:=by have:=HCAP.out;omega
 go_wp2_with fail
 clear hW4 hb4 hcap1
 refine (s6_from (HQ.out _ HB.out).1 C0 1 d0 [⟨kPkg,[97,112,112],0⟩] rfl (row_take (HQ.out _ HB.out).2.2.2.2.2.2 1) (by decide) HSH.out.2.1 HVL.out.2.1 k6c (nm:=[]) (vr:=[]) (dn:=0) (cn:=0) (gn:=0) (wt:=0) rfl rfl rfl rfl rfl rfl).mono ?_
 rintro _ u5 ⟨D5,dc5,C5,cc5,G5,gc5,rfl,_,_,_,hb⟩
 have HB5 : Hid (Below W4.heap.size W4 u5):=hb
 clear hb y0 y1 y2 y3 y4 y5 q0 q1
 have HB6 : Hid (Below W4.heap.size W4 (u5.alloc (.cells #[.string ⟨#[]⟩,.string ⟨#[]⟩,.slice D5 0 dc5,.slice C5 0 cc5,.slice G5 0 gc5,.float .f64 0] 34))):=Sz.below_alloc HB5.out (Nat.le_refl _) _
 have HB7 : Hid (Below W4.heap.size W4 ((u5.alloc (.cells #[.string ⟨#[]⟩,.string ⟨#[]⟩,.slice D5 0 dc5,.slice C5 0 cc5,.slice G5 0 gc5,.float .f64 0] 34)).alloc (.cells #[.string ⟨#[80,97,99,107,97,103,101]⟩,.string ⟨#[97]⟩,.int .i64 0,.string ⟨#[86,101,114,115,105,111,110]⟩,.string ⟨#[49]⟩,.int .i64 0,.string ⟨#[87,101,105,103,104,116]⟩,.string ⟨#[110,97,110]⟩,.int .i64 0] 82))):=Sz.below_alloc HB6.out (Nat.le_refl _) _
 have HR7 : Hid (Rg.Row Sz.encF 3 ((u5.alloc (.cells #[.string ⟨#[]⟩,.string ⟨#[]⟩,.slice D5 0 dc5,.slice C5 0 cc5,.slice G5 0 gc5,.float .f64 0] 34)).alloc (.cells #[.string ⟨#[80,97,99,107,97,103,101]⟩,.string ⟨#[97]⟩,.int .i64 0,.string ⟨#[86,101,114,115,105,111,110]⟩,.string ⟨#[49]⟩,.int .i64 0,.string ⟨#[87,101,105,103,104,116]⟩,.string ⟨#[110,97,110]⟩,.int .i64 0] 82)) (some ⟨u5.heap.size + 1,0,none⟩) [⟨kPkg,[97],0⟩,⟨kVer,[49],0⟩,⟨kWei,[110,97,110],0⟩]):=Rg.row_new Sz.fitsF _ 82 _ _ rfl (by simp)
 obtain ⟨b6,hb6⟩ : ∃ b,u5.heap.size + 1=b:=⟨_,rfl⟩
 rw [hb6] at HR7
 go_wp2_with fail
 clear HB6 hb6
 generalize (u5.alloc (.cells #[.string ⟨#[]⟩,.string ⟨#[]⟩,.slice D5 0 dc5,.slice C5 0 cc5,.slice G5 0 gc5,.float .f64 0] 34)).alloc (.cells #[.string ⟨#[80,97,99,107,97,103,101]⟩,.string ⟨#[97]⟩,.int .i64 0,.string ⟨#[86,101,114,115,105,111,110]⟩,.string ⟨#[49]⟩,.int .i64 0,.string ⟨#[87,101,105,103,104,116]⟩,.string ⟨#[110,97,110]⟩,.int .i64 0] 82)=W7 at *
 refine (s6_from (HQ.out _ HB7.out).1 (some ⟨b6,0,none⟩) 3 3 _ rfl HR7.out (by decide) HSH.out.2.2 HVL.out.2.2 k6d (nm:=[]) (vr:=[]) (dn:=0) (cn:=0) (gn:=0) (wt:=0) rfl rfl rfl rfl rfl rfl).mono ?_
 rintro _ u8 ⟨D8,dc8,C8,cc8,G8,gc8,rfl,_,_,_,hb⟩
 have HB8 : Hid (Below W4.heap.size W4 u8):=HB7.out.trans (hb.mono HB7.out.size)
 clear hb
 have HB9 : Hid (Below W4.heap.size W4 (u8.alloc (.cells #[.string ⟨#[]⟩,.string ⟨#[]⟩,.slice D8 0 dc8,.slice C8 0 cc8,.slice G8 0 gc8,.float .f64 0] 34))):=Sz.below_alloc HB8.out (Nat.le_refl _) _
 go_wp2_with fail
 generalize u8.alloc (.cells #[.string ⟨#[]⟩,.string ⟨#[]⟩,.slice D8 0 dc8,.slice C8 0 cc8,.slice G8 0 gc8,.float .f64 0] 34)=W9 at *
 have HBa : Hid (Below W4.heap.size W4 W9.drew):=HB9.out.drew
 have HS : Hid (∀ u,Below W4.heap.size W4 u → u.cell? ⟨b4,0,none⟩=some (.string ⟨#[97,112,112]⟩)∧u.cell? ⟨b4,1,none⟩=some (.string ⟨#[49,46,48]⟩)∧u.cell? ⟨b4,2,none⟩=some (.slice (some adD) 2 dc)∧u.cell? ⟨b4,3,none⟩=some (.slice C 0 cc)∧u.cell? ⟨b4,4,none⟩=some (.slice (some adG) 2 gc)∧u.cell? ⟨b4,5,none⟩=some (.float .f64 4609434218613702656)∧u.cell? adD=some (.slice (some adA) 2 c1)∧u.cell? adA=some (.string ⟨#[108,105,98]⟩)∧u.cell? ⟨adA.block,adA.off + 1,none⟩=some (.slice CA 1 cA)∧u.cell? ⟨adG.block,adG.off + 2 + 1,none⟩=some (.string ⟨#[49]⟩)):=fun u h=>by
  obtain ⟨y0,y1,y2,y3,y4,y5⟩:=HY.out u h
  obtain ⟨r0,r1⟩:=HCA.out u h
  exact ⟨y0,y1,y2,y3,y4,y5,HCD.out u h,r0,r1,HCG.out u h⟩
 have o2 : (FloatKind.f64.format.order 4609434218613702656 4609434218613702656 == some .eq)=true:=by
  cases h : (FloatKind.f64.format.order 4609434218613702656 4609434218613702656 == some .eq)
  ·rw [bne,h] at o1;cases o1
  ·rfl
 clear o1 HB5 HB8 HB7 HCAP HC1 HR1 HVL HSH
 dsimp only [List.append]
 refine region_named (fun ops hops=>?_)
 have HOPS:=Lib.hid hops
 have HNS:=Lib.hid (nosel_at hops (by kernel_rfl))
 have hsz:=size_at hops (n:=91) (by rfl)
 clear hops
 refine wp_region_held_drew (S:=fun u=>u.cell? ⟨b4,0,none⟩=some (.string ⟨#[97,112,112]⟩)∧u.cell? ⟨b4,1,none⟩=some (.string ⟨#[49,46,48]⟩)∧u.cell? ⟨b4,2,none⟩=some (.slice (some adD) 2 dc)∧u.cell? ⟨b4,3,none⟩=some (.slice C 0 cc)∧u.cell? ⟨b4,4,none⟩=some (.slice (some adG) 2 gc)∧u.cell? ⟨b4,5,none⟩=some (.float .f64 4609434218613702656)∧u.cell? adD=some (.slice (some adA) 2 c1)∧u.cell? adA=some (.string ⟨#[108,105,98]⟩)∧u.cell? ⟨adA.block,adA.off + 1,none⟩=some (.slice CA 1 cA)∧u.cell? ⟨adG.block,adG.off + 2 + 1,none⟩=some (.string ⟨#[49]⟩)) (by kernel_rfl) ?_ (fun hH0=>?_)
 ·exact HS.out _ HBa.out
 rw [hsz]
 clear hsz
 refine mv (by assumption) HOPS.out HNS.out 0 ?_
 try simp only [Act.put,mvS]
 refine mv (by assumption) HOPS.out HNS.out 1 ?_
 try simp only [Act.put,mvS]
 refine mv (by assumption) HOPS.out HNS.out 2 ?_
 try simp only [Act.put,mvS]
 refine mv (by assumption) HOPS.out HNS.out 3 ?_
 try simp only [Act.put,mvS]
 refine mv (by assumption) HOPS.out HNS.out 4 ?_
 try simp only [Act.put,mvS]
 refine mv (by assumption) HOPS.out HNS.out 5 ?_
 try simp only [Act.put,mvS]
 refine mv (by assumption) HOPS.out HNS.out 6 ?_
 try simp only [Act.put,mvS]
 refine mv (by assumption) HOPS.out HNS.out 7 ?_
 try simp only [Act.put,mvS]
 refine mv (by assumption) HOPS.out HNS.out 8 ?_
 try simp only [Act.put,mvS]
 refine mv (by assumption) HOPS.out HNS.out 9 ?_
 try simp only [Act.put,mvS]
 refine mv (by assumption) HOPS.out HNS.out 10 ?_
 try simp only [Act.put,mvS]
 refine mv (by assumption) HOPS.out HNS.out 11 ?_
 try simp only [Act.put,mvS]
 refine mv (by assumption) HOPS.out HNS.out 12 ?_
 try simp only [Act.put,mvS]
 refine mv (by assumption) HOPS.out HNS.out 13 ?_
 try simp only [Act.put,mvS]
 refine mv (by assumption) HOPS.out HNS.out 14 ?_
 try simp only [Act.put,mvS]
 refine mv (by assumption) HOPS.out HNS.out 15 ?_
 try simp only [Act.put,mvS]
 refine mv (by assumption) HOPS.out HNS.out 16 ?_
 try simp only [Act.put,mvS]
 refine mv (by assumption) HOPS.out HNS.out 17 ?_
 try simp only [Act.put,mvS]
 refine mv (by assumption) HOPS.out HNS.out 18 ?_
 try simp only [Act.put,mvS]
 refine mv (by assumption) HOPS.out HNS.out 19 ?_
 try simp only [Act.put,mvS]
 refine mv (by assumption) HOPS.out HNS.out 20 ?_
 try simp only [Act.put,mvS]
 refine mv (by assumption) HOPS.out HNS.out 21 ?_
 try simp only [Act.put,mvS]
 refine mv (by assumption) HOPS.out HNS.out 22 ?_
 try simp only [Act.put,mvS]
 refine mv (by assumption) HOPS.out HNS.out 23 ?_
 try simp only [Act.put,mvS]
 refine mv (by assumption) HOPS.out HNS.out 24 ?_
 try simp only [Act.put,mvS]
 refine next_at HOPS.out 25 rfl (by kernel_rfl) (by rfl) (fun K hK=>?_)
 go_simp
 go_at_call 32;refine (s6_depT (HQ.out _ HBa.out).1.1 (some adA) 2 c1 d60 rfl (HQ.out _ HBa.out).2.2.2.2.1 (by decide) (HTX.out.2.2.2.1 d60 (List.mem_cons_self ..)).2.1 k6e (by decide)).mono ?_;rintro _ zb ⟨rfl,hz⟩;have HBb : Hid (Below W4.heap.size W4 zb):=HBa.out.trans (hz.mono HBa.out.size);clear hz
 refine hK.out _ _ ?_ (fun hH1=>?_)
 ·exact HS.out _ HBb.out
 clear hK K hH0
 try simp only [Act.put,mvS]
 as_aux_lemma =>
  refine mv (by assumption) HOPS.out HNS.out 26 ?_
  try simp only [Act.put,mvS]
  refine mv (by assumption) HOPS.out HNS.out 27 ?_
  try simp only [Act.put,mvS]
  refine mv (by assumption) HOPS.out HNS.out 28 ?_
  try simp only [Act.put,mvS]
  refine mv (by assumption) HOPS.out HNS.out 29 ?_
  try simp only [Act.put,mvS]
  refine next_at HOPS.out 30 rfl (by kernel_rfl) (by rfl) (fun K hK=>?_)
  go_simp
  go_at_call 16;refine (s6_to (HQ.out _ HBb.out).1 p6 (some adD) C (some adG) 2 dc 0 cc 2 gc (HQ.out _ HBb.out).2.1 rfl (HQ.out _ HBb.out).2.2.1 rfl (HQ.out _ HBb.out).2.2.2.1 rfl HTX.out rfl rfl rfl (n:=5) (by decide +kernel)).mono ?_;rintro _ zc ⟨At,ct,rfl,hrt,hz⟩;have HBc : Hid (Below W4.heap.size W4 zc):=HBb.out.trans (hz.mono HBb.out.size);have HRT:=Lib.hid hrt;clear hrt;clear hz
  refine hK.out _ _ ?_ (fun hH2=>?_)
  ·exact HS.out _ HBc.out
  clear hK K hH1
  try simp only [Act.put,mvS]
  as_aux_lemma =>
   refine next_at HOPS.out 31 rfl (by kernel_rfl) (by rfl) (fun K hK=>?_)
   go_simp
   refine hK.out _ _ ?_ (fun hH3=>?_)
   ·exact HS.out _ (HBc.out.alloc HBc.out.size _)
   clear hK K hH2
   try simp only [Act.put,mvS]
   refine next_at HOPS.out 32 rfl (by kernel_rfl) (by rfl) (fun K hK=>?_)
   go_simp
   go_at_call 35;refine (Sz.s5_print (some ⟨zc.heap.size,0,none⟩) 1 1 [toPk p6] rfl (grid_one At 5 ct (toPk p6) 42 HRT.out (by decide +kernel)) (by decide) (by decide +kernel) k6f (by decide)).mono ?_;rintro _ zd ⟨rfl,hz0⟩;have HBd : Hid (Below W4.heap.size W4 zd):=(HBc.out.alloc HBc.out.size _).trans (hz0.mono (HBc.out.alloc HBc.out.size _).size);clear hz0
   refine hK.out _ _ ?_ (fun hH4=>?_)
   ·exact HS.out _ HBd.out
   clear hK K hH3
   as_aux_lemma =>
    refine mv (by assumption) HOPS.out HNS.out 33 ?_
    try simp only [Act.put,mvS]
    refine mv (by assumption) HOPS.out HNS.out 34 ?_
    try simp only [Act.put,mvS]
    refine mv (by assumption) HOPS.out HNS.out 35 ?_
    try simp only [Act.put,mvS]
    refine mv (by assumption) HOPS.out HNS.out 36 ?_
    try simp only [Act.put,mvS]
    refine mv (by assumption) HOPS.out HNS.out 37 ?_
    try simp only [Act.put,mvS]
    refine mv (by assumption) HOPS.out HNS.out 38 ?_
    try simp only [Act.put,mvS]
    refine mv (by assumption) HOPS.out HNS.out 39 ?_
    try simp only [Act.put,mvS]
    refine mv (by assumption) HOPS.out HNS.out 40 ?_
    try simp only [Act.put,mvS]
    refine mv (by assumption) HOPS.out HNS.out 41 ?_
    try simp only [Act.put,mvS]
    refine mv (by assumption) HOPS.out HNS.out 42 ?_
    try simp only [Act.put,mvS]
    refine mv (by assumption) HOPS.out HNS.out 43 ?_
    try simp only [Act.put,mvS]
    refine mv (by assumption) HOPS.out HNS.out 44 ?_
    try simp only [Act.put,mvS]
    refine mv (by assumption) HOPS.out HNS.out 45 ?_
    try simp only [Act.put,mvS]
    refine mv (by assumption) HOPS.out HNS.out 46 ?_
    try simp only [Act.put,mvS]
    refine mv (by assumption) HOPS.out HNS.out 47 ?_
    try simp only [Act.put,mvS]
    refine mv (by assumption) HOPS.out HNS.out 48 ?_
    try simp only [Act.put,mvS]
    refine mv (by assumption) HOPS.out HNS.out 49 ?_
    try simp only [Act.put,mvS]
    refine mv (by assumption) HOPS.out HNS.out 50 ?_
    try simp only [Act.put,mvS]
    refine mv (by assumption) HOPS.out HNS.out 51 ?_
    try simp only [Act.put,mvS]
    refine mv (by assumption) HOPS.out HNS.out 52 ?_
    try simp only [Act.put,mvS]
    refine next_at HOPS.out 53 rfl (by kernel_rfl) (by rfl) (fun K hK=>?_)
    go_simp
    go_at_call 29;refine (s6_all _).mono ?_;rintro _ ze ⟨Ce,de,rfl,hre,hz⟩;have HBe : Hid (Below W4.heap.size W4 ze):=HBd.out.trans (hz.mono HBd.out.size);have HRE:=Lib.hid hre;clear hre;clear hz
    refine hK.out _ _ ?_ (fun hH5=>?_)
    ·exact HS.out _ HBe.out
    clear hK K hH4
    try simp only [Act.put,mvS]
    as_aux_lemma =>
     refine mv (by assumption) HOPS.out HNS.out 54 ?_
     try simp only [Act.put,mvS]
     refine next_at HOPS.out 55 rfl (by kernel_rfl) (by rfl) (fun K hK=>?_)
     go_simp
     go_at_call 26;refine (s6_meets (HQ.out _ HBe.out).1.1 p6 (some adD) C (some adG) 2 dc 0 cc 2 gc [111,108,100] Ce 1 de allS (HQ.out _ HBe.out).2.2.2.1 rfl (by decide) HGV.out.2 HGV.out.1 rfl HRE.out (by decide) (by decide +kernel) rfl rfl rfl k6g.1).mono ?_;rintro _ zf ⟨rfl,hz⟩;have HBf : Hid (Below W4.heap.size W4 zf):=HBe.out.trans (hz.mono HBe.out.size);clear hz
     refine hK.out _ _ ?_ (fun hH6=>?_)
     ·exact HS.out _ HBf.out
     clear hK K hH5
     try simp only [Act.put,mvS]
     as_aux_lemma =>
      refine mv (by assumption) HOPS.out HNS.out 56 ?_
      try simp only [Act.put,mvS]
      refine mv (by assumption) HOPS.out HNS.out 57 ?_
      try simp only [Act.put,mvS]
      refine mv (by assumption) HOPS.out HNS.out 58 ?_
      try simp only [Act.put,mvS]
      refine next_at HOPS.out 59 rfl (by kernel_rfl) (by rfl) (fun K hK=>?_)
      go_simp
      go_at_call 29;refine (s6_all _).mono ?_;rintro _ zg ⟨Cg,dg,rfl,hrg,hz⟩;have HBg : Hid (Below W4.heap.size W4 zg):=HBf.out.trans (hz.mono HBf.out.size);have HRG:=Lib.hid hrg;clear hrg;clear hz
      refine hK.out _ _ ?_ (fun hH7=>?_)
      ·exact HS.out _ HBg.out
      clear hK K hH6
      try simp only [Act.put,mvS]
      as_aux_lemma =>
       refine mv (by assumption) HOPS.out HNS.out 60 ?_
       try simp only [Act.put,mvS]
       refine next_at HOPS.out 61 rfl (by kernel_rfl) (by rfl) (fun K hK=>?_)
       go_simp
       go_at_call 26;refine (s6_meets (HQ.out _ HBg.out).1.1 p6 (some adD) C (some adG) 2 dc 0 cc 2 gc [116,111,111,108] Cg 1 dg allS (HQ.out _ HBg.out).2.2.2.1 rfl (by decide) HGV.out.2 HGV.out.1 rfl HRG.out (by decide) (by decide +kernel) rfl rfl rfl k6g.2.1).mono ?_;rintro _ zh ⟨rfl,hz⟩;have HBh : Hid (Below W4.heap.size W4 zh):=HBg.out.trans (hz.mono HBg.out.size);clear hz
       refine hK.out _ _ ?_ (fun hH8=>?_)
       ·exact HS.out _ HBh.out
       clear hK K hH7
       try simp only [Act.put,mvS]
       as_aux_lemma =>
        refine mv (by assumption) HOPS.out HNS.out 62 ?_
        try simp only [Act.put,mvS]
        refine mv (by assumption) HOPS.out HNS.out 63 ?_
        try simp only [Act.put,mvS]
        refine mv (by assumption) HOPS.out HNS.out 64 ?_
        try simp only [Act.put,mvS]
        refine mv (by assumption) HOPS.out HNS.out 65 ?_
        try simp only [Act.put,mvS]
        refine next_at HOPS.out 66 rfl (by kernel_rfl) (by rfl) (fun K hK=>?_)
        go_simp
        go_at_call 26;refine (s6_meets (HQ.out _ HBh.out).1.1 p6 (some adD) C (some adG) 2 dc 0 cc 2 gc [116,111,111,108] none 0 0 [] (HQ.out _ HBh.out).2.2.2.1 rfl (by decide) HGV.out.2 HGV.out.1 rfl (srow_nil _ _) (by decide) (by decide +kernel) rfl rfl rfl k6g.2.2.1).mono ?_;rintro _ zi ⟨rfl,hz⟩;have HBi : Hid (Below W4.heap.size W4 zi):=HBh.out.trans (hz.mono HBh.out.size);clear hz
        refine hK.out _ _ ?_ (fun hH9=>?_)
        ·exact HS.out _ HBi.out
        clear hK K hH8
        try simp only [Act.put,mvS]
        as_aux_lemma =>
         refine mv (by assumption) HOPS.out HNS.out 67 ?_
         try simp only [Act.put,mvS]
         refine mv (by assumption) HOPS.out HNS.out 68 ?_
         try simp only [Act.put,mvS]
         refine mv (by assumption) HOPS.out HNS.out 69 ?_
         try simp only [Act.put,mvS]
         refine mv (by assumption) HOPS.out HNS.out 70 ?_
         try simp only [Act.put,mvS]
         refine mv (by assumption) HOPS.out HNS.out 71 ?_
         try simp only [Act.put,mvS]
         refine mv (by assumption) HOPS.out HNS.out 72 ?_
         try simp only [Act.put,mvS]
         refine mv (by assumption) HOPS.out HNS.out 73 ?_
         try simp only [Act.put,mvS]
         refine mv (by assumption) HOPS.out HNS.out 74 ?_
         try simp only [Act.put,mvS]
         refine mv (by assumption) HOPS.out HNS.out 75 ?_
         try simp only [Act.put,mvS]
         refine mv (by assumption) HOPS.out HNS.out 76 ?_
         try simp only [Act.put,mvS]
         refine next_at HOPS.out 77 rfl (by kernel_rfl) (by rfl) (fun K hK=>?_)
         go_simp
         go_at_call 26;refine (s6_meets (HQ.out _ HBi.out).1.1 p6 (some adD) C (some adG) 2 dc 0 cc 2 gc [108,105,98] CA 1 cA [⟨[50],[],true,false⟩] (HQ.out _ HBi.out).2.2.2.1 rfl (by decide) HGV.out.2 HGV.out.1 rfl (HQ.out _ HBi.out).2.2.2.2.2.1 (by decide) (by decide +kernel) rfl rfl rfl k6g.2.2.2).mono ?_;rintro _ zj ⟨rfl,hz⟩;have HBj : Hid (Below W4.heap.size W4 zj):=HBi.out.trans (hz.mono HBi.out.size);clear hz
         refine hK.out _ _ ?_ (fun hH10=>?_)
         ·exact HS.out _ HBj.out
         clear hK K hH9
         try simp only [Act.put,mvS]
         as_aux_lemma =>
          refine mv (by assumption) HOPS.out HNS.out 78 ?_
          try simp only [Act.put,mvS]
          refine mv (by assumption) HOPS.out HNS.out 79 ?_
          try simp only [Act.put,mvS]
          refine mv (by assumption) HOPS.out HNS.out 80 ?_
          try simp only [Act.put,mvS]
          refine mv (by assumption) HOPS.out HNS.out 81 ?_
          try simp only [Act.put,mvS]
          refine next_at HOPS.out 82 rfl (by kernel_rfl) (by rfl) (fun K hK=>?_)
          go_simp
          go_at_call 12;refine (s6_check (HQ.out _ HBj.out).1.1 p6 (some adD) C (some adG) 2 dc 0 cc 2 gc (HQ.out _ HBj.out).2.1 rfl (HQ.out _ HBj.out).2.2.1 rfl (HQ.out _ HBj.out).2.2.2.1 rfl HFW.out rfl rfl rfl k6h.1).mono ?_;rintro _ zk ⟨rfl,hz⟩;have HBk : Hid (Below W4.heap.size W4 zk):=HBj.out.trans (hz.mono HBj.out.size);clear hz
          refine hK.out _ _ ?_ (fun hH11=>?_)
          ·exact HS.out _ HBk.out
          clear hK K hH10
          try simp only [Act.put,mvS]
          as_aux_lemma =>
           refine mv (by assumption) HOPS.out HNS.out 83 ?_
           try simp only [Act.put,mvS]
           refine mv (by assumption) HOPS.out HNS.out 84 ?_
           try simp only [Act.put,mvS]
           refine mv (by assumption) HOPS.out HNS.out 85 ?_
           try simp only [Act.put,mvS]
           refine mv (by assumption) HOPS.out HNS.out 86 ?_
           try simp only [Act.put,mvS]
           refine mv (by assumption) HOPS.out HNS.out 87 ?_
           try simp only [Act.put,mvS]
           refine next_at HOPS.out 88 rfl (by kernel_rfl) (by rfl) (fun K hK=>?_)
           go_simp
           go_at_call 14;refine (s6_same p6 (some adD) C (some adG) 2 dc 0 cc 2 gc p6 (some adD) C (some adG) 2 dc 0 cc 2 gc (HQ.out _ HBk.out).2.1 rfl (HQ.out _ HBk.out).2.2.1 rfl (HQ.out _ HBk.out).2.2.2.1 rfl HFW.out (HQ.out _ HBk.out).2.1 rfl (HQ.out _ HBk.out).2.2.1 rfl (HQ.out _ HBk.out).2.2.2.1 rfl HFW.out rfl rfl rfl rfl rfl rfl k6h.2).mono ?_;rintro _ zl ⟨rfl,hz⟩;have HBl : Hid (Below W4.heap.size W4 zl):=HBk.out.trans (hz.mono HBk.out.size);clear hz
           refine hK.out _ _ ?_ (fun hH12=>?_)
           ·exact HS.out _ HBl.out
           clear hK K hH11
           try simp only [Act.put,mvS]
           as_aux_lemma =>
            refine mv (by assumption) HOPS.out HNS.out 89 ?_
            try simp only [Act.put,mvS]
            refine mv (by assumption) HOPS.out HNS.out 90 ?_
            try simp only [Act.put,mvS]
            refine done_at HOPS.out (by kernel_rfl) ?_
            go_wp2_with fail
            go_ret
            exact ⟨rfl,HB1.out.trans ((HB4.out.trans (HBl.out.mono HB4.out.size)).mono HB1.out.size)⟩
end Go.Proofs.YtkplahkkmmoppaaGreatDoor
