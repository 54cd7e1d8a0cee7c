/- Part 26 of what the laws lean on. -/
import Derived.Test.YtkplahkkmmoppaaGreatDoorL22
set_option maxRecDepth 100000
set_option maxHeartbeats 3200000
namespace Go.Proofs.YtkplahkkmmoppaaGreatDoor
open Go.RowKit Rs At Pg
namespace Pg
def gvT (g : Gv) : List UInt8:=if g.ver = [] then g.name else g.name ++ [32,61,32] ++ g.ver
def depT (d : List Atm) : List UInt8:=Lib.join (d.map textA) [32,111,114,32]
def ATxt (l : List Atm) : Prop:=∀ a ∈ l,a.name.length≤100∧a.rng.length≤64∧checkR a.rng=0
def GTxt (l : List Gv) : Prop:=∀ g ∈ l,g.name.length≤1000∧g.ver.length≤1000
def DTxt (t : List (List Atm)) : Prop:=∀ d ∈ t,d.length≤1000∧ATxt d∧(depT d).length≤1000000
end Pg
attribute [local go_sem ↓] Go.wp_at_zero Go.wp_at_succ
theorem giveText_any (g : Gv) (w : World) (h1 : g.name.length≤1000) (h2 : g.ver.length≤1000) :
  Calls Tryz.prog 57 #[.agg #[.string ⟨g.name.toArray⟩,.string ⟨g.ver.toArray⟩]] w fun e w'=>e = .returned (.string ⟨(gvT g).toArray⟩)∧Below w.heap.size w w':=by
 obtain ⟨nm,v⟩:=g
 dsimp only at h1 h2 ⊢
 obtain ⟨R,hR⟩ : ∃ R,gvT ⟨nm,v⟩=R:=⟨_,rfl⟩
 rw [hR]
 unfold gvT at hR
 dsimp only at hR
 obtain ⟨V,hV⟩ : ∃ V,w.alloc (.cells #[.string ⟨nm.toArray⟩,.string ⟨v.toArray⟩] 72)=V:=⟨_,rfl⟩
 have HB : Hid (Below w.heap.size w V):=alloc_low hV
 obtain ⟨c0,c1⟩:=cell_pair hV (Below.refl _ _)
 by_cases e2 : v = []
 ·have e : (v == [])=true:=by rw [e2];rfl
  rw [if_pos e2] at hR
  subst hR
  clear e2
  go_enter Tryz.func57,Tryz.ntmps57
  go_wp2_with fail
  refine (clone_any nm _ (by omega)).mono ?_
  rintro _ u ⟨rfl,hb⟩
  have HU : Hid (Below w.heap.size w u):=HB.out.trans (hb.mono HB.out.size)
  clear hb
  go_wp2_with fail
  go_ret
  exact ⟨rfl,HU.out⟩
 ·have e : (v == [])=false:=beq_eq_false_iff_ne.2 e2
  rw [if_neg e2] at hR
  have HR:=Lib.hid hR
  have q1:=cat_run { data:=nm.toArray } { data:=#[32,61,32] } (by show nm.toArray.size + 3≤_;rw [List.size_toArray];omega)
  have q2:=cat_run ({ data:=nm.toArray } ++ { data:=#[32,61,32] }) { data:=v.toArray } (by rw [ByteArray.size_append];show nm.toArray.size + 3 + v.toArray.size≤_;rw [List.size_toArray,List.size_toArray];omega)
  clear e2 hR
  go_enter Tryz.func57,Tryz.ntmps57
  go_wp2_with fail
  go_ret
  rw [← HR.out]
  exact ⟨congrArg (fun x=>Ending.returned (Value.string x)) (cat3 nm [32,61,32] v),HB.out⟩
theorem joinAtoms_any (sep : List UInt8) (A : Option Addr) (n c : Nat) (l : List Atm) (w : World) (hw : MaxOk w) (hn : l.length=n) (hr : ARow w A l) (hl : n≤1000) (hg : ATxt l) (hj : (Lib.join (l.map textA) sep).length≤1000000) :
  Calls Tryz.prog 55 #[.slice A n c,.func (.func 31) #[] #[],.string ⟨sep.toArray⟩] w fun e w'=>e = .returned (.string ⟨(Lib.join (l.map textA) sep).toArray⟩)∧Below w.heap.size w w':=by
 have HM:=Lib.hid hw
 have HR:=Lib.hid hr
 have HN:=Lib.hid hn
 have HG:=Lib.hid hg
 have HJ:=Lib.hid hj
 clear hw hr hn hg hj
 go_enter Tryz.func55,Tryz.ntmps55
 go_wp2_with fail
 go_loopw [7,12] (fun v i wr=>∃ k : Nat,k≤n∧i = .int .i64 k∧Hid (Rg.Own encT 1 wr w.heap.size 9 v ((l.take k).map textA))∧Hid (Below w.heap.size w wr∧w.heap.size≤wr.heap.size)) (fun _ i _=>n - (intOf i).toNat)
 case atStart=>exact ⟨0,Nat.zero_le _,rfl,Rg.own_nil _ _ _,Below.refl _ _,Nat.le_refl _⟩
 case round =>
  obtain ⟨k,hk,rfl,HO,HB⟩:=hrel
  by_cases hlt : k < n
  ·have hlr : k < l.length:=by rw [HN.out];exact hlt
   have hgk:=HG.out _ (List.getElem_mem hlr)
   obtain ⟨ad,C,m,d,rfl,hm,hs,hc⟩:=arow_at HR.out k hlr
   obtain ⟨c0,c1⟩:=hc _ HB.out.1
   obtain ⟨a,ha⟩ : ∃ a,l[k]=a:=⟨_,rfl⟩
   have HS:=Lib.hid (text_snoc textA l k hlr _ ha)
   obtain ⟨tk,htk⟩ : ∃ x,(l.take k).map textA=x:=⟨_,rfl⟩
   have hsz : tk.length + 1≤1000000:=by rw [← htk,List.length_map,List.length_take];omega
   rw [htk] at HS HO
   have HSZ:=Lib.hid hsz
   clear htk hsz
   rw [ha] at hm hs hgk c0
   obtain ⟨nm,r⟩:=a
   dsimp only at hm hs hgk c0
   obtain ⟨V,hV⟩ : ∃ V,wr.alloc (.cells #[.string ⟨nm.toArray⟩,.slice C m d] 66)=V:=⟨_,rfl⟩
   have HVB : Hid (Below wr.heap.size wr V):=alloc_low hV
   have HVW : Hid (Below w.heap.size w V):=HB.out.1.trans (HVB.out.mono HB.out.2)
   obtain ⟨v0,v1⟩:=cell_pair hV (Below.refl _ _)
   have HT:=Lib.hid (atomText_any nm C m d r V (maxOk_below HM.out HVW.out) hgk.1 hm (srow_below hs HVW.out) (by rw [← hm];exact hgk.2.1) hgk.2.2)
   clear hc ha hm hs hgk HVW
   obtain ⟨X,hX⟩ : ∃ X,textA ⟨nm,r⟩=X:=⟨_,rfl⟩
   rw [hX] at HT HS
   clear hX
   go_wp2_with fail
   refine HT.out.mono ?_
   rintro _ u2 ⟨rfl,hb⟩
   have HBU : Hid (Below wr.heap.size wr u2):=HVB.out.trans (hb.mono HVB.out.size)
   clear hb HT
   go_wp2_with (at_builtin;refine Rg.wpList_app sliceTx rfl (.tmp 16) (.tmp 20) rfl w.heap.size _ tk [X] rfl (Rg.own_below HO.out (HBU.out.alloc HBU.out.size _)) _ _ rfl (Rg.news_new u2 _ _ _ (by rfl)) (Nat.zero_lt_succ _) HSZ.out ?b2 ?_)
   case b2=>have:=HB.out.2;have:=HBU.out.size;simp;omega
   intro v5 W5 ho5 hg5 hz5
   have HB5:=app_done4 HB HBU.out HO hg5
   have HO5 : Hid (Rg.Own encT 1 W5 w.heap.size 9 v5 ((l.take (k + 1)).map textA)):=by show Rg.Own _ _ _ _ _ _ _;rw [HS.out];exact ho5
   clear ho5 hg5 hz5 HO HB HBU HVB
   go_wp2_with fail
   go_roundw
   case rel=>exact ⟨k + 1,by omega,by go_num,HO5,HB5⟩
   case measure=>simp [intOf];omega
  ·obtain rfl : k=n:=by omega
   have HOO : Hid (Rg.Own encT 1 wr w.heap.size 9 u7 (l.map textA)):=by
    have:=HO.out
    rwa [List.take_of_length_le (by rw [HN.out];exact Nat.le_refl _)] at this
   have HLN : Hid ((l.map textA).length≤100000):=by show _≤_;rw [List.length_map,HN.out];omega
   clear HO
   go_wp2_with fail
   refine (join_any sep HOO.out HLN.out HJ.out).mono ?_
   rintro _ u ⟨rfl,hb⟩
   have HBU : Hid (Below w.heap.size w u):=HB.out.1.trans (hb.mono HB.out.2)
   clear hb
   go_wp2_with fail
   go_ret
   exact ⟨rfl,HBU.out⟩
theorem depText_any (A : Option Addr) (n c : Nat) (l : List Atm) (w : World) (hw : MaxOk w) (hn : l.length=n) (hr : ARow w A l) (hl : n≤1000) (hg : ATxt l) (hj : (depT l).length≤1000000) :
  Calls Tryz.prog 32 #[.slice A n c] w fun e w'=>e = .returned (.string ⟨(depT l).toArray⟩)∧Below w.heap.size w w':=by
 have HJ:=Lib.hid (joinAtoms_any [32,111,114,32] A n c l w hw hn hr hl hg hj)
 clear hw hn hr hl hg hj
 go_enter Tryz.func32,Tryz.ntmps32
 go_wp2_with fail
 refine HJ.out.mono ?_
 rintro _ u ⟨rfl,hb⟩
 have HU:=Lib.hid hb
 clear hb
 go_wp2_with fail
 go_ret
 exact ⟨rfl,HU.out⟩
theorem joinGives_any (sep : List UInt8) (A : Option Addr) (n c : Nat) (l : List Gv) (w : World) (hw : MaxOk w) (hn : l.length=n) (hr : GRow w A l) (hl : n≤1000) (hg : GTxt l) (hj : (Lib.join (l.map gvT) sep).length≤1000000) :
  Calls Tryz.prog 56 #[.slice A n c,.func (.func 57) #[] #[],.string ⟨sep.toArray⟩] w fun e w'=>e = .returned (.string ⟨(Lib.join (l.map gvT) sep).toArray⟩)∧Below w.heap.size w w':=by
 have HM:=Lib.hid hw
 have HR:=Lib.hid hr
 have HN:=Lib.hid hn
 have HG:=Lib.hid hg
 have HJ:=Lib.hid hj
 clear hw hr hn hg hj
 go_enter Tryz.func56,Tryz.ntmps56
 go_wp2_with fail
 go_loopw [7,12] (fun v i wr=>∃ k : Nat,k≤n∧i = .int .i64 k∧Hid (Rg.Own encT 1 wr w.heap.size 9 v ((l.take k).map gvT))∧Hid (Below w.heap.size w wr∧w.heap.size≤wr.heap.size)) (fun _ i _=>n - (intOf i).toNat)
 case atStart=>exact ⟨0,Nat.zero_le _,rfl,Rg.own_nil _ _ _,Below.refl _ _,Nat.le_refl _⟩
 case round =>
  obtain ⟨k,hk,rfl,HO,HB⟩:=hrel
  by_cases hlt : k < n
  ·have hlr : k < l.length:=by rw [HN.out];exact hlt
   have hgk:=HG.out _ (List.getElem_mem hlr)
   obtain ⟨ad,rfl,hc⟩:=grow_at HR.out k hlr
   obtain ⟨c0,c1⟩:=hc _ HB.out.1
   obtain ⟨a,ha⟩ : ∃ a,l[k]=a:=⟨_,rfl⟩
   have HS:=Lib.hid (text_snoc gvT l k hlr _ ha)
   obtain ⟨tk,htk⟩ : ∃ x,(l.take k).map gvT=x:=⟨_,rfl⟩
   have hsz : tk.length + 1≤1000000:=by rw [← htk,List.length_map,List.length_take];omega
   rw [htk] at HS HO
   have HSZ:=Lib.hid hsz
   clear htk hsz
   rw [ha] at hgk c0 c1
   obtain ⟨V,hV⟩ : ∃ V,wr.alloc (.cells #[.string ⟨a.name.toArray⟩,.string ⟨a.ver.toArray⟩] 72)=V:=⟨_,rfl⟩
   have HVB : Hid (Below wr.heap.size wr V):=alloc_low hV
   obtain ⟨v0,v1⟩:=cell_pair hV (Below.refl _ _)
   have HT:=Lib.hid (giveText_any a V hgk.1 hgk.2)
   clear hc ha hgk
   obtain ⟨X,hX⟩ : ∃ X,gvT a=X:=⟨_,rfl⟩
   rw [hX] at HT HS
   clear hX
   go_wp2_with fail
   refine HT.out.mono ?_
   rintro _ u2 ⟨rfl,hb⟩
   have HBU : Hid (Below wr.heap.size wr u2):=HVB.out.trans (hb.mono HVB.out.size)
   clear hb HT
   go_wp2_with (at_builtin;refine Rg.wpList_app sliceTx rfl (.tmp 16) (.tmp 20) rfl w.heap.size _ tk [X] rfl (Rg.own_below HO.out (HBU.out.alloc HBU.out.size _)) _ _ rfl (Rg.news_new u2 _ _ _ (by rfl)) (Nat.zero_lt_succ _) HSZ.out ?b2 ?_)
   case b2=>have:=HB.out.2;have:=HBU.out.size;simp;omega
   intro v5 W5 ho5 hg5 hz5
   have HB5:=app_done4 HB HBU.out HO hg5
   have HO5 : Hid (Rg.Own encT 1 W5 w.heap.size 9 v5 ((l.take (k + 1)).map gvT)):=by show Rg.Own _ _ _ _ _ _ _;rw [HS.out];exact ho5
   clear ho5 hg5 hz5 HO HB HBU HVB
   go_wp2_with fail
   go_roundw
   case rel=>exact ⟨k + 1,by omega,by go_num,HO5,HB5⟩
   case measure=>simp [intOf];omega
  ·obtain rfl : k=n:=by omega
   have HOO : Hid (Rg.Own encT 1 wr w.heap.size 9 u7 (l.map gvT)):=by
    have:=HO.out
    rwa [List.take_of_length_le (by rw [HN.out];exact Nat.le_refl _)] at this
   have HLN : Hid ((l.map gvT).length≤100000):=by show _≤_;rw [List.length_map,HN.out];omega
   clear HO
   go_wp2_with fail
   refine (join_any sep HOO.out HLN.out HJ.out).mono ?_
   rintro _ u ⟨rfl,hb⟩
   have HBU : Hid (Below w.heap.size w u):=HB.out.1.trans (hb.mono HB.out.2)
   clear hb
   go_wp2_with fail
   go_ret
   exact ⟨rfl,HBU.out⟩
theorem joinDeps_any (sep : List UInt8) (A : Option Addr) (n c : Nat) (l : List (List Atm)) (w : World) (hw : MaxOk w) (hn : l.length=n) (hr : Pg.DRow w A l) (hl : n≤1000) (hg : DTxt l) (hj : (Lib.join (l.map depT) sep).length≤1000000) :
  Calls Tryz.prog 54 #[.slice A n c,.func (.func 32) #[] #[],.string ⟨sep.toArray⟩] w fun e w'=>e = .returned (.string ⟨(Lib.join (l.map depT) sep).toArray⟩)∧Below w.heap.size w w':=by
 have HM:=Lib.hid hw
 have HR:=Lib.hid hr
 have HN:=Lib.hid hn
 have HG:=Lib.hid hg
 have HJ:=Lib.hid hj
 clear hw hr hn hg hj
 go_enter Tryz.func54,Tryz.ntmps54
 go_wp2_with fail
 go_loopw [7,12] (fun v i wr=>∃ k : Nat,k≤n∧i = .int .i64 k∧Hid (Rg.Own encT 1 wr w.heap.size 9 v ((l.take k).map depT))∧Hid (Below w.heap.size w wr∧w.heap.size≤wr.heap.size)) (fun _ i _=>n - (intOf i).toNat)
 case atStart=>exact ⟨0,Nat.zero_le _,rfl,Rg.own_nil _ _ _,Below.refl _ _,Nat.le_refl _⟩
 case round =>
  obtain ⟨k,hk,rfl,HO,HB⟩:=hrel
  by_cases hlt : k < n
  ·have hlr : k < l.length:=by rw [HN.out];exact hlt
   have hgk:=HG.out _ (List.getElem_mem hlr)
   obtain ⟨ad,C,m,d,rfl,hm,hs,hc⟩:=drowD_at HR.out k hlr
   have c0:=hc _ HB.out.1
   obtain ⟨a,ha⟩ : ∃ a,l[k]=a:=⟨_,rfl⟩
   have HS:=Lib.hid (text_snoc depT l k hlr _ ha)
   obtain ⟨tk,htk⟩ : ∃ x,(l.take k).map depT=x:=⟨_,rfl⟩
   have hsz : tk.length + 1≤1000000:=by rw [← htk,List.length_map,List.length_take];omega
   rw [htk] at HS HO
   have HSZ:=Lib.hid hsz
   clear htk hsz
   rw [ha] at hm hs hgk
   have HVB : Hid (Below wr.heap.size wr wr):=Below.refl _ _
   have HT:=Lib.hid (depText_any C m d a wr (maxOk_below HM.out HB.out.1) hm (arow_below hs HB.out.1) (by rw [← hm];exact hgk.1) hgk.2.1 hgk.2.2)
   clear hc ha hm hs hgk
   obtain ⟨X,hX⟩ : ∃ X,depT a=X:=⟨_,rfl⟩
   rw [hX] at HT HS
   clear hX
   go_wp2_with fail
   refine HT.out.mono ?_
   rintro _ u2 ⟨rfl,hb⟩
   have HBU : Hid (Below wr.heap.size wr u2):=HVB.out.trans (hb.mono HVB.out.size)
   clear hb HT
   go_wp2_with (at_builtin;refine Rg.wpList_app sliceTx rfl (.tmp 16) (.tmp 20) rfl w.heap.size _ tk [X] rfl (Rg.own_below HO.out (HBU.out.alloc HBU.out.size _)) _ _ rfl (Rg.news_new u2 _ _ _ (by rfl)) (Nat.zero_lt_succ _) HSZ.out ?b2 ?_)
   case b2=>have:=HB.out.2;have:=HBU.out.size;simp;omega
   intro v5 W5 ho5 hg5 hz5
   have HB5:=app_done4 HB HBU.out HO hg5
   have HO5 : Hid (Rg.Own encT 1 W5 w.heap.size 9 v5 ((l.take (k + 1)).map depT)):=by show Rg.Own _ _ _ _ _ _ _;rw [HS.out];exact ho5
   clear ho5 hg5 hz5 HO HB HBU HVB
   go_wp2_with fail
   go_roundw
   case rel=>exact ⟨k + 1,by omega,by go_num,HO5,HB5⟩
   case measure=>simp [intOf];omega
  ·obtain rfl : k=n:=by omega
   have HOO : Hid (Rg.Own encT 1 wr w.heap.size 9 u7 (l.map depT)):=by
    have:=HO.out
    rwa [List.take_of_length_le (by rw [HN.out];exact Nat.le_refl _)] at this
   have HLN : Hid ((l.map depT).length≤100000):=by show _≤_;rw [List.length_map,HN.out];omega
   clear HO
   go_wp2_with fail
   refine (join_any sep HOO.out HLN.out HJ.out).mono ?_
   rintro _ u ⟨rfl,hb⟩
   have HBU : Hid (Below w.heap.size w u):=HB.out.1.trans (hb.mono HB.out.2)
   clear hb
   go_wp2_with fail
   go_ret
   exact ⟨rfl,HBU.out⟩
end Go.Proofs.YtkplahkkmmoppaaGreatDoor
namespace Go.Proofs.YtkplahkkmmoppaaGreatDoor
open Go.RowKit Rs At Pg
def Pg.hasL (l : List Sp) (v : List UInt8) : Bool:=hasR (l.map Sp.piece) v
def Pg.givM (g : Gv) (a : Atm) : Bool:=decide (g.name=a.name) && (if g.ver = [] then decide (a.rng=allR.map spOf) else hasL a.rng g.ver)
def Pg.metP (p : Pk) (a : Atm) : Bool:=(decide (p.name=a.name) && hasL a.rng p.ver) || p.prov.any (fun g=>givM g a)
attribute [local go_sem ↓] Go.wp_at_zero Go.wp_at_succ
theorem giveMeets_any (g : Gv) (nm : List UInt8) (A : Option Addr) (n c : Nat) (l : List Sp) (w : World) (hw : MaxOk w) (hn : l.length=n) (hr : SRow w A l) (hl : n≤64) (hk : checkR l=0) (hv : g.ver = [] ∨ Vm.check g.ver=0) :
  Calls Tryz.prog 74 #[.agg #[.string ⟨g.name.toArray⟩,.string ⟨g.ver.toArray⟩],.agg #[.string ⟨nm.toArray⟩,.slice A n c]] w fun e w'=>e = .returned (.bool (givM g ⟨nm,l⟩))∧Below w.heap.size w w':=by
 obtain ⟨gn,gv⟩:=g
 dsimp only at hv ⊢
 obtain ⟨R,hR⟩ : ∃ R,givM ⟨gn,gv⟩ ⟨nm,l⟩=R:=⟨_,rfl⟩
 rw [hR]
 unfold givM at hR
 dsimp only at hR
 obtain ⟨V,hV⟩ : ∃ V,w.alloc (.cells #[.string ⟨gn.toArray⟩,.string ⟨gv.toArray⟩] 72)=V:=⟨_,rfl⟩
 obtain ⟨b,hb⟩ : ∃ b,V.heap.size=b:=⟨_,rfl⟩
 obtain ⟨U,hU⟩ : ∃ U,V.alloc (.cells #[.string ⟨nm.toArray⟩,.slice A n c] 66)=U:=⟨_,rfl⟩
 have HX1 : Hid (Bx2 b nm A n c U):=by rw [← hU,← hb];exact bx2_new V nm A n c _
 have HVU : Hid (Below V.heap.size V U):=alloc_low hU
 have hb1 : b < U.heap.size:=by rw [← hU,← hb];simp
 have HB : Hid (Below w.heap.size w U):=(alloc_low hV).trans (HVU.out.mono (alloc_low hV).size)
 have HMX : Hid (MaxOk U):=maxOk_below hw HB.out
 have HR1 : Hid (SRow U A l):=srow_below hr HB.out
 have HN:=Lib.hid hn
 have HK:=Lib.hid hk
 have HR:=Lib.hid hR
 obtain ⟨c0,c1⟩:=cell_pair hV HVU.out
 obtain ⟨k0,k1⟩:=HX1.out
 clear hw hn hr hk hR
 by_cases e1 : gn=nm
 case neg =>
  have d1 : (gn != nm)=true:=by simp [e1]
  have d0 : (gn == nm)=false:=beq_eq_false_iff_ne.2 e1
  have HF : Hid (R=false):=by show _=_;rw [← HR.out,decide_eq_false e1,Bool.false_and]
  clear e1
  go_enter Tryz.func74,Tryz.ntmps74
  go_wp2_with fail
  go_ret
  exact ⟨by rw [HF.out];rfl,HB.out⟩
 have d1 : (gn != nm)=false:=by simp [e1]
 have d0 : (gn == nm)=true:=beq_iff_eq.2 e1
 by_cases e2 : gv = []
 ·have e : (gv == [])=true:=by rw [e2];rfl
  obtain ⟨sm,hsm⟩ : ∃ x,decide (l=allR.map spOf)=x:=⟨_,rfl⟩
  have HSM:=Lib.hid hsm
  have HF : Hid (sm=R):=by show _=_;rw [← HR.out,decide_eq_true e1,if_pos e2,Bool.true_and];exact hsm.symm
  clear e1 e2 hsm hv
  go_enter Tryz.func74,Tryz.ntmps74
  go_wp2_with fail
  clear hb hV hU c0 c1
  have HS1 : Hid (St U U.drew [⟨A,n,l⟩]):=⟨HMX.out,(Below.refl _ _).drew,fun x hx=>by rw [List.mem_singleton.1 hx];exact ⟨srow_below HR1.out (Below.refl _ _).drew,HN.out⟩⟩
  go_region_held3 (fun w'=>w'.cell? ⟨b,0,none⟩=some (.string ⟨nm.toArray⟩)∧w'.cell? ⟨b,1,none⟩=some (.slice A n c))
   (first
    | exact bx2_below HX1.out hb1 HS1.out.2.1
    | exact bx2_below HX1.out hb1 HS2.out.2.1
    | exact bx2_below HX1.out hb1 HS3.out.2.1)
   (first
    | (go_at_call 29;refine (s_all HS1.out allR rfl).mono ?_;rintro _ u2 ⟨C,m2,d,rfl,hs⟩;have HS2:=Lib.hid hs;have hm2 : m2=1:=(st_row hs 0 rfl).2.symm;have HM2:=Lib.hid hm2;clear hs hm2)
    | (go_at_call 82;refine (s_same HS2.out 1 0 rfl rfl (by omega) (by rw [HM2.out];decide) _ _ sm HSM.out).mono ?_;rintro _ u3 ⟨rfl,hs⟩;have HS3:=Lib.hid hs;clear hs))
  go_wp2_with fail
  go_ret
  exact ⟨by rw [← HF.out];rfl,HB.out.trans (HS3.out.2.1.mono HB.out.size)⟩
 ·have e : (gv == [])=false:=beq_eq_false_iff_ne.2 e2
  have hv2 : Vm.check gv=0:=hv.resolve_left e2
  have HF : Hid (hasR (l.map Sp.piece) gv=R):=by show _=_;rw [← HR.out,decide_eq_true e1,if_neg e2,Bool.true_and];rfl
  have HS : Hid (St U U [⟨A,n,l⟩]):=⟨HMX.out,Below.refl _ _,fun x hx=>by rw [List.mem_singleton.1 hx];exact ⟨HR1.out,HN.out⟩⟩
  have HH:=Lib.hid (s4_has HS.out 0 rfl HK.out c gv hv2 R HF.out)
  clear e1 e2 hv hv2
  go_enter Tryz.func74,Tryz.ntmps74
  go_wp2_with fail
  clear hb hV hU c0 c1
  refine HH.out.mono ?_
  rintro _ u2 ⟨rfl,hs⟩
  have HS2:=Lib.hid hs.2.1
  clear hs
  go_wp2_with fail
  go_ret
  exact ⟨rfl,HB.out.trans (HS2.out.mono HB.out.size)⟩
theorem meets1_any (g : Gv) (b : Nat) (nm : List UInt8) (A : Option Addr) (n c : Nat) (l : List Sp) (w : World) (hw : MaxOk w) (hn : l.length=n) (hr : SRow w A l) (hl : n≤64) (hk : checkR l=0) (hv : g.ver = [] ∨ Vm.check g.ver=0) (hx : Bx2 b nm A n c w) (hb : b < w.heap.size) :
  Calls Tryz.prog 73 #[.agg #[.string ⟨g.name.toArray⟩,.string ⟨g.ver.toArray⟩],.pointer (some ⟨b,0,none⟩)] w fun e w'=>e = .returned (.bool (givM g ⟨nm,l⟩))∧Below w.heap.size w w':=by
 obtain ⟨V,hV⟩ : ∃ V,w.alloc (.cells #[.string ⟨g.name.toArray⟩,.string ⟨g.ver.toArray⟩] 72)=V:=⟨_,rfl⟩
 have HB : Hid (Below w.heap.size w V):=alloc_low hV
 have HG:=Lib.hid (giveMeets_any g nm A n c l V (maxOk_below hw HB.out) hn (srow_below hr HB.out) hl hk hv)
 obtain ⟨c0,c1⟩:=cell_pair hV (Below.refl _ _)
 obtain ⟨k0,k1⟩:=bx2_below hx hb HB.out
 clear hw hn hr hl hk hv hx hb
 go_enter Tryz.func73,Tryz.ntmps73
 go_wp2_with fail
 refine HG.out.mono ?_
 rintro _ u ⟨rfl,hb⟩
 have HU : Hid (Below w.heap.size w u):=HB.out.trans (hb.mono HB.out.size)
 clear hb
 go_wp2_with fail
 go_ret
 exact ⟨rfl,HU.out⟩
theorem idxGive_any (A : Option Addr) (n c : Nat) (l : List Gv) (b : Nat) (nm : List UInt8) (B : Option Addr) (m d : Nat) (r : List Sp) (w : World) (hw : MaxOk w) (hn : l.length=n) (hr : GRow w A l) (hl : n≤1000000) (ho : ∀ g ∈ l,g.ver = [] ∨ Vm.check g.ver=0) (hm : r.length=m) (hq : SRow w B r) (hm2 : m≤64) (hk : checkR r=0) (hx : Bx2 b nm B m d w) (hb : b < w.heap.size) :
  Calls Tryz.prog 121 #[.slice A n c,.func (.func 73) #[] #[.pointer (some ⟨b,0,none⟩)]] w (IdxRet w (l.any fun g=>givM g ⟨nm,r⟩)):=by
 have HR:=Lib.hid hr
 have HN:=Lib.hid hn
 have HO:=Lib.hid ho
 have HC:=Lib.hid (fun (g : Gv) (hv : g.ver = [] ∨ Vm.check g.ver=0) (W : World) (h : Below w.heap.size w W)=>meets1_any g b nm B m d r W (maxOk_below hw h) hm (srow_below hq h) hm2 hk hv (bx2_below hx hb h) (Nat.lt_of_lt_of_le hb h.size))
 obtain ⟨X,hX⟩ : ∃ X,(l.any fun g=>givM g ⟨nm,r⟩)=X:=⟨_,rfl⟩
 rw [hX]
 obtain ⟨f,hf⟩ : ∃ f : Gv → Bool,(fun g=>givM g ⟨nm,r⟩)=f:=⟨_,rfl⟩
 rw [hf] at hX
 have HF : Hid (∀ g,givM g ⟨nm,r⟩=f g):=fun g=>by rw [← hf]
 have HX : Hid (X=l.any f):=hX.symm
 clear hw hr hn ho hm hq hm2 hk hx hb hX hf
 go_enter Tryz.func121,Tryz.ntmps121
 go_wp2_with fail
 go_loopw [8] (fun i wr=>∃ k : Nat,k≤n∧i = .int .i64 k∧Hid ((l.take k).any f=false)∧Hid (Below w.heap.size w wr)) (fun i _=>n - (intOf i).toNat)
 case atStart=>exact ⟨0,Nat.zero_le _,rfl,rfl,Below.refl _ _⟩
 case round =>
  obtain ⟨k,hk,rfl,HA,HB⟩:=hrel
  by_cases hlt : k < n
  ·have hlr : k < l.length:=by rw [HN.out];exact hlt
   obtain ⟨ad,rfl,hc⟩:=grow_at HR.out k hlr
   obtain ⟨c0,c1⟩:=hc _ HB.out
   have HS : Hid ((l.take (k + 1)).any f=((l.take k).any f || f l[k])):=by show _=_;rw [List.take_succ_eq_append_getElem hlr,List.any_append];simp
   have HY : Hid (f l[k]=true → X=true):=fun h=>by rw [HX.out];exact List.any_eq_true.2 ⟨_,List.getElem_mem hlr,h⟩
   have hov:=HO.out _ (List.getElem_mem hlr)
   generalize l[k]=g at c0 c1 HS HY hov
   have HG:=HC.out g hov wr HB.out
   rw [HF.out] at HG
   have HC2:=Lib.hid HG
   clear HG hc hlr hov
   go_wp2_with fail
   refine HC2.out.mono ?_
   rintro _ w1 ⟨rfl,hbl⟩
   have HB1 : Hid (Below w.heap.size w w1):=HB.out.trans (hbl.mono HB.out.size)
   clear hbl c0 c1 HC2
   cases hp : f g
   ·have HA2 : Hid ((l.take (k + 1)).any f=false):=by show _=_;rw [HS.out,HA.out];exact hp
    clear hp
    go_wp2_with fail
    go_roundw
    case rel=>exact ⟨k + 1,by omega,by go_num,HA2.out,HB1.out⟩
    case measure=>simp [intOf];omega
   ·have HXT : Hid (X=true):=HY.out hp
    clear hp
    go_wp2_with fail
    go_ret
    exact ⟨⟨k,rfl,by rw [HXT.out];exact decide_eq_true (by omega)⟩,HB1.out⟩
  ·have HXF : Hid (X=false):=by
    show _=_
    have:=HA.out
    rw [List.take_of_length_le (by rw [HN.out];omega)] at this
    rw [HX.out];exact this
   go_wp2_with fail
   go_ret
   exact ⟨⟨-1,rfl,by rw [HXF.out];rfl⟩,HB.out⟩
theorem hasGive_any (A : Option Addr) (n c : Nat) (l : List Gv) (b : Nat) (nm : List UInt8) (B : Option Addr) (m d : Nat) (r : List Sp) (w : World) (hw : MaxOk w) (hn : l.length=n) (hr : GRow w A l) (hl : n≤1000000) (ho : ∀ g ∈ l,g.ver = [] ∨ Vm.check g.ver=0) (hm : r.length=m) (hq : SRow w B r) (hm2 : m≤64) (hk : checkR r=0) (hx : Bx2 b nm B m d w) (hb : b < w.heap.size) :
  Calls Tryz.prog 72 #[.slice A n c,.func (.func 73) #[] #[.pointer (some ⟨b,0,none⟩)]] w fun e w'=>e = .returned (.bool (l.any fun g=>givM g ⟨nm,r⟩))∧Below w.heap.size w w':=by
 have HC:=Lib.hid (idxGive_any A n c l b nm B m d r w hw hn hr hl ho hm hq hm2 hk hx hb)
 obtain ⟨X,hX⟩ : ∃ X,(l.any fun g=>givM g ⟨nm,r⟩)=X:=⟨_,rfl⟩
 rw [hX] at HC ⊢
 clear hw hn hr hl ho hm hq hm2 hk hx hb hX
 go_enter Tryz.func72,Tryz.ntmps72
 go_wp2_with fail
 refine HC.out.mono ?_
 rintro _ w1 ⟨⟨m,rfl,hm⟩,hb⟩
 have HB:=Lib.hid hb
 clear hb
 cases X
 all_goals
  go_wp2_with fail
  go_ret
  exact ⟨rfl,HB.out⟩
theorem pkgMeets_any (p : Pk) (D C G : Option Addr) (dn dc cn cc gn gc : Nat) (nm : List UInt8) (B : Option Addr) (m d : Nat) (r : List Sp) (w : World) (hw : MaxOk w) (hg : GRow w G p.prov) (hgn : p.prov.length=gn) (hgl : gn≤1000000) (ho : ∀ g ∈ p.prov,g.ver = [] ∨ Vm.check g.ver=0) (hv : Vm.check p.ver=0) (hm : r.length=m) (hq : SRow w B r) (hm2 : m≤64) (hk : checkR r=0) :
  Calls Tryz.prog 26 #[.agg #[.string ⟨p.name.toArray⟩,.string ⟨p.ver.toArray⟩,.slice D dn dc,.slice C cn cc,.slice G gn gc,.float .f64 p.wt],.agg #[.string ⟨nm.toArray⟩,.slice B m d]] w fun e w'=>e = .returned (.bool (metP p ⟨nm,r⟩))∧Below w.heap.size w w':=by
 have hmf : ∀ (fn : Fn) (first cap : Array Value) (w : World),(Instr.makeFunc fn first cap).run Tryz.prog w = .ok (.func fn first cap) w:=fun _ _ _ _=>rfl
 obtain ⟨pn,pv,deps,confl,prov,wt⟩:=p
 dsimp only at hg hgn ho hv ⊢
 obtain ⟨R,hR⟩ : ∃ R,metP ⟨pn,pv,deps,confl,prov,wt⟩ ⟨nm,r⟩=R:=⟨_,rfl⟩
 rw [hR]
 unfold metP at hR
 dsimp only at hR
 obtain ⟨V,hV⟩ : ∃ V,w.alloc (.cells #[.string ⟨pn.toArray⟩,.string ⟨pv.toArray⟩,.slice D dn dc,.slice C cn cc,.slice G gn gc,.float .f64 wt] 34)=V:=⟨_,rfl⟩
 obtain ⟨b,hb⟩ : ∃ b,V.heap.size=b:=⟨_,rfl⟩
 obtain ⟨U,hU⟩ : ∃ U,V.alloc (.cells #[.string ⟨nm.toArray⟩,.slice B m d] 66)=U:=⟨_,rfl⟩
 have HV:=Lib.hid hV
 have HX1 : Hid (Bx2 b nm B m d U):=by rw [← hU,← hb];exact bx2_new V nm B m d _
 have HVU : Hid (Below V.heap.size V U):=alloc_low hU
 have hb1 : b < U.heap.size:=by rw [← hU,← hb];simp
 have HB : Hid (Below w.heap.size w U):=(alloc_low hV).trans (HVU.out.mono (alloc_low hV).size)
 have HC:=Lib.hid (fun (W : World) (h : Below U.heap.size U W)=>hasGive_any G gn gc prov b nm B m d r W (maxOk_below hw (HB.out.trans (h.mono HB.out.size))) hgn (Rg.row_below hg (HB.out.trans (h.mono HB.out.size))) hgl ho hm (srow_below hq (HB.out.trans (h.mono HB.out.size))) hm2 hk (bx2_below HX1.out hb1 h) (Nat.lt_of_lt_of_le hb1 h.size))
 obtain ⟨y,hy⟩ : ∃ y,(prov.any fun g=>givM g ⟨nm,r⟩)=y:=⟨_,rfl⟩
 rw [hy] at HC hR
 obtain ⟨x,hx⟩ : ∃ x,hasL r pv=x:=⟨_,rfl⟩
 rw [hx] at hR
 have HS : Hid (St U U [⟨B,m,r⟩]):=⟨maxOk_below hw HB.out,Below.refl _ _,fun x hx=>by rw [List.mem_singleton.1 hx];exact ⟨srow_below hq HB.out,hm⟩⟩
 have HH:=Lib.hid (s4_has HS.out 0 rfl hk d pv hv x hx)
 have HR:=Lib.hid hR
 clear hw hg hgn hgl ho hv hm hq hm2 hk hR hy hx
 by_cases e1 : pn=nm
 case neg =>
  have d0 : (pn == nm)=false:=beq_eq_false_iff_ne.2 e1
  have HF : Hid (y=R):=by show _=_;rw [← HR.out,decide_eq_false e1,Bool.false_and,Bool.false_or]
  obtain ⟨c0,-,-,-,c4,-⟩:=cell_six HV.out HVU.out
  obtain ⟨k0,k1⟩:=HX1.out
  clear e1
  go_enter Tryz.func26,Tryz.ntmps26
  go_wp2_with fail
  refine (HC.out _ (Below.refl _ _)).mono ?_
  rintro _ u ⟨rfl,hb2⟩
  have HU : Hid (Below w.heap.size w u):=HB.out.trans (hb2.mono HB.out.size)
  clear hb2
  go_wp2_with fail
  go_ret
  exact ⟨by rw [← HF.out];rfl,HU.out⟩
 have d0 : (pn == nm)=true:=beq_iff_eq.2 e1
 have HR2 : Hid ((x || y)=R):=by show _=_;rw [← HR.out,decide_eq_true e1,Bool.true_and]
 obtain ⟨c0,c1,-,-,-,-⟩:=cell_six HV.out HVU.out
 obtain ⟨k0,k1⟩:=HX1.out
 clear e1 HR
 go_enter Tryz.func26,Tryz.ntmps26
 go_wp2_with fail
 clear hV hU c0 c1 k0 k1
 refine HH.out.mono ?_
 rintro _ u ⟨rfl,hs⟩
 have HU:=Lib.hid hs.2.1
 have HUW : Hid (Below w.heap.size w u):=HB.out.trans (HU.out.mono HB.out.size)
 clear hs
 cases x
 case true =>
  have HF : Hid (true=R):=HR2.out
  go_wp2_with fail
  go_ret
  exact ⟨by rw [← HF.out];rfl,HUW.out⟩
 have HF : Hid (y=R):=HR2.out
 obtain ⟨-,-,-,-,c4,-⟩:=cell_six HV.out (HVU.out.trans (HU.out.mono HVU.out.size))
 go_wp2_with fail
 refine (HC.out _ HU.out).mono ?_
 rintro _ u2 ⟨rfl,hb2⟩
 have HU2 : Hid (Below w.heap.size w u2):=HUW.out.trans (hb2.mono HUW.out.size)
 clear hb2
 go_wp2_with fail
 go_ret
 exact ⟨by rw [← HF.out];rfl,HU2.out⟩
end Go.Proofs.YtkplahkkmmoppaaGreatDoor
namespace Go.Proofs.YtkplahkkmmoppaaGreatDoor
open Go.RowKit Rs At Pg
attribute [local go_sem ↓] Go.wp_at_zero Go.wp_at_succ
theorem eqAtoms_any (A B : Option Addr) (n m c d : Nat) (l k : List Atm) (w : World) (hn : l.length=n) (hm : k.length=m) (hr : ARow w A l) (hq : ARow w B k) (hl : n≤1000000) (hf : AFew l) (hg : AFew k) :
  Calls Tryz.prog 47 #[.slice A n c,.slice B m d,.func (.func 48) #[] #[]] w fun e w'=>e = .returned (.bool (decide (l=k)))∧Below w.heap.size w w':=by
 obtain ⟨X,hX⟩ : ∃ X,decide (l=k)=X:=⟨_,rfl⟩
 rw [hX]
 have HX:=Lib.hid hX
 have HR:=Lib.hid hr
 have HQ:=Lib.hid hq
 have HN:=Lib.hid hn
 have HM:=Lib.hid hm
 have HF:=Lib.hid hf
 have HG:=Lib.hid hg
 clear hX hr hq hn hm hf hg
 by_cases hlen : n=m
 ·have hd : ((n : Int) != m)=false:=by rw [hlen];simp
  have HL:=Lib.hid hlen
  clear hlen
  go_enter Tryz.func47,Tryz.ntmps47
  go_wp2_with fail
  clear hd
  go_loopw [17] (fun i wr=>∃ j : Nat,j≤n∧i = .int .i64 j∧Hid (l.take j=k.take j)∧Hid (Below w.heap.size w wr)) (fun i _=>n - (intOf i).toNat)
  case atStart=>exact ⟨0,Nat.zero_le _,rfl,rfl,Below.refl _ _⟩
  case round =>
   obtain ⟨j,hj,rfl,HT,HW⟩:=hrel
   by_cases hlt : j < n
   ·have hlt2 : j < m:=by have:=HL.out;omega
    have h1 : j < l.length:=by rw [HN.out];exact hlt
    have h2 : j < k.length:=by rw [HM.out];exact hlt2
    obtain ⟨ad,C,x,cx,rfl,hx,hs,hc⟩:=arow_at HR.out j h1
    obtain ⟨ae,C',y,cy,rfl,hy,ht,he⟩:=arow_at HQ.out j h2
    obtain ⟨f1,f2⟩:=afew_at HF.out j h1
    obtain ⟨g1,g2⟩:=afew_at HG.out j h2
    have HT2 : Hid (l[j]=k[j] → l.take (j + 1)=k.take (j + 1)):=fun q=>by
     rw [List.take_succ_eq_append_getElem h1,List.take_succ_eq_append_getElem h2,HT.out,q]
    have HNE : Hid (l[j] ≠ k[j] → X=false):=fun q=>by
     rw [← HX.out];exact decide_eq_false fun h=>q (by subst h;rfl)
    obtain ⟨a,ha⟩ : ∃ a,l[j]=a:=⟨_,rfl⟩
    obtain ⟨b,hb⟩ : ∃ b,k[j]=b:=⟨_,rfl⟩
    rw [ha] at hx hs f2
    rw [hb] at hy ht g2
    rw [ha,hb] at HT2 HNE
    obtain ⟨c0,c1⟩:=hc _ HW.out
    rw [ha] at c0
    obtain ⟨na,ra⟩:=a
    obtain ⟨nb,rb⟩:=b
    dsimp only at hx hs f2 hy ht g2 c0
    obtain ⟨V,hV⟩ : ∃ V,wr.alloc (.cells #[.string ⟨na.toArray⟩,.slice C x cx] 66)=V:=⟨_,rfl⟩
    have HBV : Hid (Below w.heap.size w V):=HW.out.trans ((alloc_low hV).mono HW.out.size)
    obtain ⟨e0,e1⟩:=he _ HBV.out
    rw [hb] at e0
    dsimp only at e0
    obtain ⟨U,hU⟩ : ∃ U,V.alloc (.cells #[.string ⟨nb.toArray⟩,.slice C' y cy] 66)=U:=⟨_,rfl⟩
    have HBU : Hid (Below w.heap.size w U):=HBV.out.trans ((alloc_low hU).mono HBV.out.size)
    obtain ⟨u0,u1⟩:=cell_pair hV (alloc_low hU)
    obtain ⟨u2,u3⟩:=cell_pair hU (Below.refl _ _)
    have HS:=Lib.hid (atomSame_any na nb C C' x y cx cy ra rb U hx hy (srow_below hs HBU.out) (srow_below ht HBU.out) (by omega) (by omega))
    clear hc he ha hb hx hs f1 f2 hy ht g1 g2 h1 h2
    go_wp2_with fail
    clear hV hU
    refine HS.out.mono ?_
    rintro _ u ⟨rfl,hb⟩
    have HU : Hid (Below w.heap.size w u):=HBU.out.trans (hb.mono HBU.out.size)
    clear hb HS c0 c1 e0 e1 u0 u1 u2 u3
    by_cases hq : (⟨na,ra⟩ : Atm)=⟨nb,rb⟩
    ·rw [decide_eq_true hq]
     have HT3:=Lib.hid (HT2.out hq)
     clear HT2 HNE hq
     go_wp2_with fail
     go_roundw
     case rel=>exact ⟨j + 1,by omega,by go_num,HT3.out,HU.out⟩
     case measure=>simp [intOf];omega
    ·rw [decide_eq_false hq]
     have HFF:=Lib.hid (HNE.out hq)
     clear HT2 HNE hq
     go_wp2_with fail
     go_ret
     exact ⟨by rw [HFF.out];rfl,HU.out⟩
   ·obtain rfl : j=n:=by omega
    have HFT : Hid (X=true):=by
     show _=_
     have:=HT.out
     rw [List.take_of_length_le (by rw [HN.out];exact Nat.le_refl _),List.take_of_length_le (by rw [HM.out,HL.out];exact Nat.le_refl _)] at this
     rw [← HX.out];exact decide_eq_true this
    clear HT
    go_wp2_with fail
    go_ret
    exact ⟨by rw [HFT.out];rfl,HW.out⟩
 ·have hd : ((n : Int) != m)=true:=by simp;omega
  have HFF : Hid (X=false):=by show _=_;rw [← HX.out];exact decide_eq_false fun h=>hlen (by rw [← HN.out,← HM.out,h])
  go_enter Tryz.func47,Tryz.ntmps47
  go_wp2_with fail
  go_ret
  exact ⟨by rw [HFF.out];rfl,Below.refl _ _⟩
theorem eqDep_any (A B : Option Addr) (n m c d : Nat) (l k : List Atm) (w : World) (hn : l.length=n) (hm : k.length=m) (hr : ARow w A l) (hq : ARow w B k) (hl : n≤1000000) (hf : AFew l) (hg : AFew k) :
  Calls Tryz.prog 98 #[.slice A n c,.slice B m d,.func (.func 48) #[] #[]] w fun e w'=>e = .returned (.bool (decide (l=k)))∧Below w.heap.size w w':=by
 obtain ⟨X,hX⟩ : ∃ X,decide (l=k)=X:=⟨_,rfl⟩
 rw [hX]
 have HX:=Lib.hid hX
 have HR:=Lib.hid hr
 have HQ:=Lib.hid hq
 have HN:=Lib.hid hn
 have HM:=Lib.hid hm
 have HF:=Lib.hid hf
 have HG:=Lib.hid hg
 clear hX hr hq hn hm hf hg
 by_cases hlen : n=m
 ·have hd : ((n : Int) != m)=false:=by rw [hlen];simp
  have HL:=Lib.hid hlen
  clear hlen
  go_enter Tryz.func98,Tryz.ntmps98
  go_wp2_with fail
  clear hd
  go_loopw [17] (fun i wr=>∃ j : Nat,j≤n∧i = .int .i64 j∧Hid (l.take j=k.take j)∧Hid (Below w.heap.size w wr)) (fun i _=>n - (intOf i).toNat)
  case atStart=>exact ⟨0,Nat.zero_le _,rfl,rfl,Below.refl _ _⟩
  case round =>
   obtain ⟨j,hj,rfl,HT,HW⟩:=hrel
   by_cases hlt : j < n
   ·have hlt2 : j < m:=by have:=HL.out;omega
    have h1 : j < l.length:=by rw [HN.out];exact hlt
    have h2 : j < k.length:=by rw [HM.out];exact hlt2
    obtain ⟨ad,C,x,cx,rfl,hx,hs,hc⟩:=arow_at HR.out j h1
    obtain ⟨ae,C',y,cy,rfl,hy,ht,he⟩:=arow_at HQ.out j h2
    obtain ⟨f1,f2⟩:=afew_at HF.out j h1
    obtain ⟨g1,g2⟩:=afew_at HG.out j h2
    have HT2 : Hid (l[j]=k[j] → l.take (j + 1)=k.take (j + 1)):=fun q=>by
     rw [List.take_succ_eq_append_getElem h1,List.take_succ_eq_append_getElem h2,HT.out,q]
    have HNE : Hid (l[j] ≠ k[j] → X=false):=fun q=>by
     rw [← HX.out];exact decide_eq_false fun h=>q (by subst h;rfl)
    obtain ⟨a,ha⟩ : ∃ a,l[j]=a:=⟨_,rfl⟩
    obtain ⟨b,hb⟩ : ∃ b,k[j]=b:=⟨_,rfl⟩
    rw [ha] at hx hs f2
    rw [hb] at hy ht g2
    rw [ha,hb] at HT2 HNE
    obtain ⟨c0,c1⟩:=hc _ HW.out
    rw [ha] at c0
    obtain ⟨na,ra⟩:=a
    obtain ⟨nb,rb⟩:=b
    dsimp only at hx hs f2 hy ht g2 c0
    obtain ⟨V,hV⟩ : ∃ V,wr.alloc (.cells #[.string ⟨na.toArray⟩,.slice C x cx] 66)=V:=⟨_,rfl⟩
    have HBV : Hid (Below w.heap.size w V):=HW.out.trans ((alloc_low hV).mono HW.out.size)
    obtain ⟨e0,e1⟩:=he _ HBV.out
    rw [hb] at e0
    dsimp only at e0
    obtain ⟨U,hU⟩ : ∃ U,V.alloc (.cells #[.string ⟨nb.toArray⟩,.slice C' y cy] 66)=U:=⟨_,rfl⟩
    have HBU : Hid (Below w.heap.size w U):=HBV.out.trans ((alloc_low hU).mono HBV.out.size)
    obtain ⟨u0,u1⟩:=cell_pair hV (alloc_low hU)
    obtain ⟨u2,u3⟩:=cell_pair hU (Below.refl _ _)
    have HS:=Lib.hid (atomSame_any na nb C C' x y cx cy ra rb U hx hy (srow_below hs HBU.out) (srow_below ht HBU.out) (by omega) (by omega))
    clear hc he ha hb hx hs f1 f2 hy ht g1 g2 h1 h2
    go_wp2_with fail
    clear hV hU
    refine HS.out.mono ?_
    rintro _ u ⟨rfl,hb⟩
    have HU : Hid (Below w.heap.size w u):=HBU.out.trans (hb.mono HBU.out.size)
    clear hb HS c0 c1 e0 e1 u0 u1 u2 u3
    by_cases hq : (⟨na,ra⟩ : Atm)=⟨nb,rb⟩
    ·rw [decide_eq_true hq]
     have HT3:=Lib.hid (HT2.out hq)
     clear HT2 HNE hq
     go_wp2_with fail
     go_roundw
     case rel=>exact ⟨j + 1,by omega,by go_num,HT3.out,HU.out⟩
     case measure=>simp [intOf];omega
    ·rw [decide_eq_false hq]
     have HFF:=Lib.hid (HNE.out hq)
     clear HT2 HNE hq
     go_wp2_with fail
     go_ret
     exact ⟨by rw [HFF.out];rfl,HU.out⟩
   ·obtain rfl : j=n:=by omega
    have HFT : Hid (X=true):=by
     show _=_
     have:=HT.out
     rw [List.take_of_length_le (by rw [HN.out];exact Nat.le_refl _),List.take_of_length_le (by rw [HM.out,HL.out];exact Nat.le_refl _)] at this
     rw [← HX.out];exact decide_eq_true this
    clear HT
    go_wp2_with fail
    go_ret
    exact ⟨by rw [HFT.out];rfl,HW.out⟩
 ·have hd : ((n : Int) != m)=true:=by simp;omega
  have HFF : Hid (X=false):=by show _=_;rw [← HX.out];exact decide_eq_false fun h=>hlen (by rw [← HN.out,← HM.out,h])
  go_enter Tryz.func98,Tryz.ntmps98
  go_wp2_with fail
  go_ret
  exact ⟨by rw [HFF.out];rfl,Below.refl _ _⟩
theorem sameDep_any (A B : Option Addr) (n m c d : Nat) (l k : List Atm) (w : World) (hn : l.length=n) (hm : k.length=m) (hr : ARow w A l) (hq : ARow w B k) (hl : n≤1000000) (hf : AFew l) (hg : AFew k) :
  Calls Tryz.prog 46 #[.slice A n c,.slice B m d] w fun e w'=>e = .returned (.bool (decide (l=k)))∧Below w.heap.size w w':=by
 have HS:=Lib.hid (eqDep_any A B n m c d l k w hn hm hr hq hl hf hg)
 clear hn hm hr hq hl hf hg
 go_enter Tryz.func46,Tryz.ntmps46
 go_wp2_with fail
 refine HS.out.mono ?_
 rintro _ u ⟨rfl,hb⟩
 have HU:=Lib.hid hb
 clear hb
 go_wp2_with fail
 go_ret
 exact ⟨rfl,HU.out⟩
theorem eqDeps_any (A B : Option Addr) (n m c d : Nat) (l k : List (List Atm)) (w : World) (hn : l.length=n) (hm : k.length=m) (hr : Pg.DRow w A l) (hq : Pg.DRow w B k) (hl : n≤1000000) (hf : DFew l) (hg : DFew k) :
  Calls Tryz.prog 45 #[.slice A n c,.slice B m d,.func (.func 46) #[] #[]] w fun e w'=>e = .returned (.bool (decide (l=k)))∧Below w.heap.size w w':=by
 obtain ⟨X,hX⟩ : ∃ X,decide (l=k)=X:=⟨_,rfl⟩
 rw [hX]
 have HX:=Lib.hid hX
 have HR:=Lib.hid hr
 have HQ:=Lib.hid hq
 have HN:=Lib.hid hn
 have HM:=Lib.hid hm
 have HF:=Lib.hid hf
 have HG:=Lib.hid hg
 clear hX hr hq hn hm hf hg
 by_cases hlen : n=m
 ·have hd : ((n : Int) != m)=false:=by rw [hlen];simp
  have HL:=Lib.hid hlen
  clear hlen
  go_enter Tryz.func45,Tryz.ntmps45
  go_wp2_with fail
  clear hd
  go_loopw [17] (fun i wr=>∃ j : Nat,j≤n∧i = .int .i64 j∧Hid (l.take j=k.take j)∧Hid (Below w.heap.size w wr)) (fun i _=>n - (intOf i).toNat)
  case atStart=>exact ⟨0,Nat.zero_le _,rfl,rfl,Below.refl _ _⟩
  case round =>
   obtain ⟨j,hj,rfl,HT,HW⟩:=hrel
   by_cases hlt : j < n
   ·have hlt2 : j < m:=by have:=HL.out;omega
    have h1 : j < l.length:=by rw [HN.out];exact hlt
    have h2 : j < k.length:=by rw [HM.out];exact hlt2
    obtain ⟨ad,C,x,cx,rfl,hx,hs,hc⟩:=drowD_at HR.out j h1
    obtain ⟨ae,C',y,cy,rfl,hy,ht,he⟩:=drowD_at HQ.out j h2
    obtain ⟨f1,f2⟩:=dfew_at HF.out j h1
    obtain ⟨g1,g2⟩:=dfew_at HG.out j h2
    have HT2 : Hid (l[j]=k[j] → l.take (j + 1)=k.take (j + 1)):=fun q=>by
     rw [List.take_succ_eq_append_getElem h1,List.take_succ_eq_append_getElem h2,HT.out,q]
    have HNE : Hid (l[j] ≠ k[j] → X=false):=fun q=>by
     rw [← HX.out];exact decide_eq_false fun h=>q (by subst h;rfl)
    have c0:=hc _ HW.out
    have e0:=he _ HW.out
    have HS:=Lib.hid (sameDep_any C C' x y cx cy l[j] k[j] wr hx hy (arow_below hs HW.out) (arow_below ht HW.out) (by omega) f2 g2)
    obtain ⟨P,hP⟩ : ∃ P,(decide (l[j]=k[j]))=P:=⟨_,rfl⟩
    rw [hP] at HS
    have HP:=Lib.hid hP
    clear hc he hx hs f1 f2 hy ht g1 g2 hP
    go_wp2_with fail
    refine HS.out.mono ?_
    rintro _ u ⟨rfl,hb⟩
    have HU : Hid (Below w.heap.size w u):=HW.out.trans (hb.mono HW.out.size)
    clear hb HS c0 e0
    cases P
    ·have HFF:=Lib.hid (HNE.out (of_decide_eq_false HP.out))
     clear HT2 HNE HP
     go_wp2_with fail
     go_ret
     exact ⟨by rw [HFF.out];rfl,HU.out⟩
    ·have HT3:=Lib.hid (HT2.out (of_decide_eq_true HP.out))
     clear HT2 HNE HP
     go_wp2_with fail
     go_roundw
     case rel=>exact ⟨j + 1,by omega,by go_num,HT3.out,HU.out⟩
     case measure=>simp [intOf];omega
   ·obtain rfl : j=n:=by omega
    have HFT : Hid (X=true):=by
     show _=_
     have:=HT.out
     rw [List.take_of_length_le (by rw [HN.out];exact Nat.le_refl _),List.take_of_length_le (by rw [HM.out,HL.out];exact Nat.le_refl _)] at this
     rw [← HX.out];exact decide_eq_true this
    clear HT
    go_wp2_with fail
    go_ret
    exact ⟨by rw [HFT.out];rfl,HW.out⟩
 ·have hd : ((n : Int) != m)=true:=by simp;omega
  have HFF : Hid (X=false):=by show _=_;rw [← HX.out];exact decide_eq_false fun h=>hlen (by rw [← HN.out,← HM.out,h])
  go_enter Tryz.func45,Tryz.ntmps45
  go_wp2_with fail
  go_ret
  exact ⟨by rw [HFF.out];rfl,Below.refl _ _⟩
end Go.Proofs.YtkplahkkmmoppaaGreatDoor
namespace Go.Proofs.YtkplahkkmmoppaaGreatDoor
open Go.RowKit Rs At Pg
def GiveT (T : TypeId) : Prop := (Tryz.prog.fieldsOf T).toList.map (fun f => (f.name == "_", f.type, f.offset)) = [(false, 9, 0), (false, 9, 1)] ∧ Tryz.prog.underlying T = some (.struct (Tryz.prog.fieldsOf T)) ∧ Tryz.prog.stoodInHeld T = false ∧ Tryz.prog.eqGuardType Tryz.prog.depth T = false
theorem giveT : GiveT 72:=⟨by kernel_rfl,by kernel_rfl,by kernel_rfl,by kernel_rfl⟩
theorem equal_give {T : TypeId} (h : GiveT T) (a b : Gv) (w : World) :
  (Op.equalIn 10000 T (.agg #[.string ⟨a.name.toArray⟩,.string ⟨a.ver.toArray⟩]) (.agg #[.string ⟨b.name.toArray⟩,.string ⟨b.ver.toArray⟩])).run Tryz.prog w = .ok (decide (a=b)) w:=by
 obtain ⟨nm,v⟩:=a
 obtain ⟨nm',v'⟩:=b
 obtain ⟨h1,h2,h3,h4⟩:=h
 rw [run_equalIn_struct w 9999 T _ _ h2 h3]
 generalize (Tryz.prog.fieldsOf T).toList=fs at *
 have hl : fs.length=2:=by have:=congrArg List.length h1;simpa using this
 match fs,hl with
 | [f0,f1],_ =>
  simp at h1
  obtain ⟨⟨n0,t0,o0⟩,⟨n1,t1,o1⟩⟩:=h1
  simp only [Op.eqFields,n0,n1,t0,t1,o0,o1,ne_eq,not_false_eq_true,if_true]
  simp [go_sem]
  by_cases e0 : nm=nm' <;> by_cases e1 : v=v' <;> simp [e0,e1]
theorem neq_give {T : TypeId} (h : GiveT T) (a b : Gv) (w : World) :
  (binOp .neq T (.agg #[.string ⟨a.name.toArray⟩,.string ⟨a.ver.toArray⟩]) (.agg #[.string ⟨b.name.toArray⟩,.string ⟨b.ver.toArray⟩])).run Tryz.prog w = .ok (.bool (!decide (a=b))) w:=by
 rw [run_neq_struct,equal_give h];rfl
theorem grd_give {T : TypeId} (h : GiveT T) (op : BinOp) (x y : Operand) (xs ys : Array Value) (w : World) : (eqGuard op T x y (.agg xs) (.agg ys)).run Tryz.prog w = .ok () w:=run_eqGuard_agg w op T x y xs ys h.2.2.2
attribute [local go_sem ↓] Go.wp_at_zero Go.wp_at_succ
theorem eqGives_any (A B : Option Addr) (n m c d : Nat) (l k : List Gv) (w : World) (hn : l.length=n) (hm : k.length=m) (hr : GRow w A l) (hq : GRow w B k) (hl : n≤1000000) :
  Calls Tryz.prog 49 #[.slice A n c,.slice B m d] w fun e w'=>e = .returned (.bool (decide (l=k)))∧Below w.heap.size w w':=by
 obtain ⟨X,hX⟩ : ∃ X,decide (l=k)=X:=⟨_,rfl⟩
 rw [hX]
 have HX:=Lib.hid hX
 have HR:=Lib.hid hr
 have HQ:=Lib.hid hq
 have HN:=Lib.hid hn
 have HM:=Lib.hid hm
 clear hX hr hq hn hm
 by_cases hlen : n=m
 ·have hd : ((n : Int) != m)=false:=by rw [hlen];simp
  have HL:=Lib.hid hlen
  clear hlen
  go_enter Tryz.func49,Tryz.ntmps49
  go_wp2_with fail
  clear hd
  go_loopw [13] (fun i wr=>∃ j : Nat,j≤n∧i = .int .i64 j∧Hid (l.take j=k.take j)∧∃ x,wr=w.drewN x) (fun i _=>n - (intOf i).toNat)
  case atStart=>exact ⟨0,Nat.zero_le _,rfl,rfl,0,rfl⟩
  case round =>
   obtain ⟨j,hj,rfl,HT,x,rfl⟩:=hrel
   by_cases hlt : j < n
   ·have hlt2 : j < m:=by have:=HL.out;omega
    have h1 : j < l.length:=by rw [HN.out];exact hlt
    have h2 : j < k.length:=by rw [HM.out];exact hlt2
    obtain ⟨ad,rfl,hc⟩:=grow_at HR.out j h1
    obtain ⟨ae,rfl,he⟩:=grow_at HQ.out j h2
    have HT2 : Hid (l[j]=k[j] → l.take (j + 1)=k.take (j + 1)):=fun q=>by
     rw [List.take_succ_eq_append_getElem h1,List.take_succ_eq_append_getElem h2,HT.out,q]
    have HNE : Hid (l[j] ≠ k[j] → X=false):=fun q=>by
     rw [← HX.out];exact decide_eq_false fun h=>q (by subst h;rfl)
    obtain ⟨c0,c1⟩:=hc _ (Below.refl _ _)
    obtain ⟨e0,e1⟩:=he _ (Below.refl _ _)
    generalize l[j]=a at c0 c1 HT2 HNE
    generalize k[j]=b at e0 e1 HT2 HNE
    have hr1:=neq_give giveT a b
    have hr2 : ∀ (x y : Operand) (W : World),(eqGuard .neq 72 x y (.agg #[.string ⟨a.name.toArray⟩,.string ⟨a.ver.toArray⟩]) (.agg #[.string ⟨b.name.toArray⟩,.string ⟨b.ver.toArray⟩])).run Tryz.prog W = .ok () W:=fun x y W=>grd_give giveT .neq x y _ _ W
    clear hc he h1 h2
    by_cases hq : a=b
    ·rw [decide_eq_true hq] at hr1
     have HT3:=Lib.hid (HT2.out hq)
     clear HT2 HNE hq HT
     go_wp2_with fail
     go_quiet (fail)
     clear hr1 hr2 c0 c1 e0 e1
     go_wp2_with fail
     go_roundw
     case rel=>exact ⟨j + 1,by omega,by go_num,HT3.out,_,rfl⟩
     case measure=>simp [intOf];omega
    ·rw [decide_eq_false hq] at hr1
     have HFF:=Lib.hid (HNE.out hq)
     clear HT2 HNE hq HT
     go_wp2_with fail
     go_quiet (fail)
     clear hr1 hr2 c0 c1 e0 e1
     go_wp2_with fail
     go_ret
     exact ⟨by rw [HFF.out];rfl,below_drewN (below_drewN (Below.refl _ _) _) _⟩
   ·obtain rfl : j=n:=by omega
    have HFT : Hid (X=true):=by
     show _=_
     have:=HT.out
     rw [List.take_of_length_le (by rw [HN.out];exact Nat.le_refl _),List.take_of_length_le (by rw [HM.out,HL.out];exact Nat.le_refl _)] at this
     rw [← HX.out];exact decide_eq_true this
    clear HT
    go_wp2_with fail
    go_ret
    exact ⟨by rw [HFT.out];rfl,below_drewN (Below.refl _ _) _⟩
 ·have hd : ((n : Int) != m)=true:=by simp;omega
  have HFF : Hid (X=false):=by show _=_;rw [← HX.out];exact decide_eq_false fun h=>hlen (by rw [← HN.out,← HM.out,h])
  go_enter Tryz.func49,Tryz.ntmps49
  go_wp2_with fail
  go_ret
  exact ⟨by rw [HFF.out];rfl,Below.refl _ _⟩
def Pg.samP (p q : Pk) : Bool:=decide (p.name=q.name) && (decide (p.ver=q.ver) && (decide (p.deps=q.deps) && (decide (p.confl=q.confl) && (decide (p.prov=q.prov) && (Vm.sgn (Wm.placeN p.wt) (Wm.placeN q.wt) == 0)))))
theorem pkgSame_any (p q : Pk) (D C G D' C' G' : Option Addr) (dn dc cn cc gn gc dn' dc' cn' cc' gn' gc' : Nat) (w : World) (hd : Pg.DRow w D p.deps) (hdn : p.deps.length=dn) (hc : ARow w C p.confl) (hcn : p.confl.length=cn) (hg : GRow w G p.prov) (hgn : p.prov.length=gn) (hf : PFew p) (hd' : Pg.DRow w D' q.deps) (hdn' : q.deps.length=dn') (hc' : ARow w C' q.confl) (hcn' : q.confl.length=cn') (hg' : GRow w G' q.prov) (hgn' : q.prov.length=gn') (hf' : PFew q) :
  Calls Tryz.prog 14 #[.agg #[.string ⟨p.name.toArray⟩,.string ⟨p.ver.toArray⟩,.slice D dn dc,.slice C cn cc,.slice G gn gc,.float .f64 p.wt],.agg #[.string ⟨q.name.toArray⟩,.string ⟨q.ver.toArray⟩,.slice D' dn' dc',.slice C' cn' cc',.slice G' gn' gc',.float .f64 q.wt]] w fun e w'=>e = .returned (.bool (samP p q))∧Below w.heap.size w w':=by
 obtain ⟨nm,v,deps,confl,prov,wt⟩:=p
 obtain ⟨nm',v',deps',confl',prov',wt'⟩:=q
 obtain ⟨R,hR⟩ : ∃ R,samP ⟨nm,v,deps,confl,prov,wt⟩ ⟨nm',v',deps',confl',prov',wt'⟩=R:=⟨_,rfl⟩
 rw [hR]
 unfold samP at hR
 dsimp only at hd hdn hc hcn hg hgn hd' hdn' hc' hcn' hg' hgn' hR ⊢
 obtain ⟨-,f2,f3,f4,f5,f6,-,f8⟩:=hf
 obtain ⟨-,-,f3',-,f5',-,-,f8'⟩:=hf'
 dsimp only at f2 f3 f4 f5 f6 f8 f3' f5' f8'
 have hdl : dn≤1000000:=by omega
 have hcl : cn≤1000000:=by omega
 have hgl : gn≤1000000:=by omega
 obtain ⟨V,hV⟩ : ∃ V,w.alloc (.cells #[.string ⟨nm.toArray⟩,.string ⟨v.toArray⟩,.slice D dn dc,.slice C cn cc,.slice G gn gc,.float .f64 wt] 34)=V:=⟨_,rfl⟩
 obtain ⟨U,hU⟩ : ∃ U,V.alloc (.cells #[.string ⟨nm'.toArray⟩,.string ⟨v'.toArray⟩,.slice D' dn' dc',.slice C' cn' cc',.slice G' gn' gc',.float .f64 wt'] 34)=U:=⟨_,rfl⟩
 have HV:=Lib.hid hV
 have HU:=Lib.hid hU
 have HVU : Hid (Below V.heap.size V U):=alloc_low hU
 have HB : Hid (Below w.heap.size w U):=(alloc_low hV).trans (HVU.out.mono (alloc_low hV).size)
 have HD:=Lib.hid (fun W (hb : Below w.heap.size w W)=>eqDeps_any D D' dn dn' dc dc' deps deps' W hdn hdn' (drowD_below hd hb) (drowD_below hd' hb) hdl f3 f3')
 have HC:=Lib.hid (fun W (hb : Below w.heap.size w W)=>eqAtoms_any C C' cn cn' cc cc' confl confl' W hcn hcn' (arow_below hc hb) (arow_below hc' hb) hcl f5 f5')
 have HG:=Lib.hid (fun W (hb : Below w.heap.size w W)=>eqGives_any G G' gn gn' gc gc' prov prov' W hgn hgn' (Rg.row_below hg hb) (Rg.row_below hg' hb) hgl)
 have HW:=Lib.hid (fun W=>same_w wt wt' f8 f8' W)
 obtain ⟨x3,hx3⟩ : ∃ x,decide (deps=deps')=x:=⟨_,rfl⟩
 obtain ⟨x4,hx4⟩ : ∃ x,decide (confl=confl')=x:=⟨_,rfl⟩
 obtain ⟨x5,hx5⟩ : ∃ x,decide (prov=prov')=x:=⟨_,rfl⟩
 obtain ⟨x6,hx6⟩ : ∃ x,(Vm.sgn (Wm.placeN wt) (Wm.placeN wt') == 0)=x:=⟨_,rfl⟩
 rw [hx3] at HD hR
 rw [hx4] at HC hR
 rw [hx5] at HG hR
 rw [hx6] at HW hR
 have HR:=Lib.hid hR
 clear hd hdn hc hcn hg hgn hd' hdn' hc' hcn' hg' hgn' f2 f3 f4 f5 f6 f8 f3' f5' f8' hdl hcl hgl hx3 hx4 hx5 hx6 hR
 by_cases e1 : nm=nm'
 case neg =>
  have d1 : (nm == nm')=false:=beq_eq_false_iff_ne.2 e1
  have HF : Hid (R=false):=by show _=_;rw [← HR.out,decide_eq_false e1];rfl
  obtain ⟨c0,-,-,-,-,-⟩:=cell_six hV HVU.out
  obtain ⟨e0,-,-,-,-,-⟩:=cell_six hU (Below.refl _ _)
  clear e1 HD HC HG HW HR
  go_enter Tryz.func14,Tryz.ntmps14
  go_wp2_with fail
  go_ret
  exact ⟨by rw [HF.out];rfl,HB.out⟩
 have d1 : (nm == nm')=true:=beq_iff_eq.2 e1
 by_cases e2 : v=v'
 case neg =>
  have d2 : (v == v')=false:=beq_eq_false_iff_ne.2 e2
  have HF : Hid (R=false):=by show _=_;rw [← HR.out,decide_eq_false e2,Bool.false_and,Bool.and_false]
  obtain ⟨c0,c1,-,-,-,-⟩:=cell_six hV HVU.out
  obtain ⟨k0,k1,-,-,-,-⟩:=cell_six hU (Below.refl _ _)
  clear e1 e2 HD HC HG HW HR
  go_enter Tryz.func14,Tryz.ntmps14
  go_wp2_with fail
  go_ret
  exact ⟨by rw [HF.out];rfl,HB.out⟩
 have d2 : (v == v')=true:=beq_iff_eq.2 e2
 have HR2 : Hid ((x3 && (x4 && (x5 && x6)))=R):=by show _=_;rw [← HR.out,decide_eq_true e1,decide_eq_true e2,Bool.true_and,Bool.true_and]
 obtain ⟨c0,c1,c2,-,-,-⟩:=cell_six hV HVU.out
 obtain ⟨k0,k1,k2,-,-,-⟩:=cell_six hU (Below.refl _ _)
 clear e1 e2 HR
 go_enter Tryz.func14,Tryz.ntmps14
 go_wp2_with fail
 clear hV hU c0 c1 c2 k0 k1 k2 d1 d2
 refine (HD.out _ HB.out).mono ?_
 rintro _ u ⟨rfl,hb⟩
 have HUu:=Lib.hid hb
 have HBu : Hid (Below w.heap.size w u):=HB.out.trans (hb.mono HB.out.size)
 have HVu : Hid (Below V.heap.size V u):=HVU.out.trans (hb.mono HVU.out.size)
 clear hb HD
 cases x3
 case false =>
  have HF : Hid (R=false):=HR2.out.symm
  go_wp2_with fail
  go_ret
  exact ⟨by rw [HF.out];rfl,HBu.out⟩
 obtain ⟨-,-,-,c3,-,-⟩:=cell_six HV.out HVu.out
 obtain ⟨-,-,-,k3,-,-⟩:=cell_six HU.out HUu.out
 go_wp2_with fail
 clear c3 k3
 refine (HC.out _ HBu.out).mono ?_
 rintro _ u2 ⟨rfl,hb⟩
 have HUu2 : Hid (Below U.heap.size U u2):=HUu.out.trans (hb.mono HUu.out.size)
 have HBu2 : Hid (Below w.heap.size w u2):=HBu.out.trans (hb.mono HBu.out.size)
 have HVu2 : Hid (Below V.heap.size V u2):=HVu.out.trans (hb.mono HVu.out.size)
 clear hb HC HUu HBu HVu
 cases x4
 case false =>
  have HF : Hid (R=false):=HR2.out.symm
  go_wp2_with fail
  go_ret
  exact ⟨by rw [HF.out];rfl,HBu2.out⟩
 obtain ⟨-,-,-,-,c4,-⟩:=cell_six HV.out HVu2.out
 obtain ⟨-,-,-,-,k4,-⟩:=cell_six HU.out HUu2.out
 go_wp2_with fail
 clear c4 k4
 refine (HG.out _ HBu2.out).mono ?_
 rintro _ u3 ⟨rfl,hb⟩
 have HUu3 : Hid (Below U.heap.size U u3):=HUu2.out.trans (hb.mono HUu2.out.size)
 have HBu3 : Hid (Below w.heap.size w u3):=HBu2.out.trans (hb.mono HBu2.out.size)
 have HVu3 : Hid (Below V.heap.size V u3):=HVu2.out.trans (hb.mono HVu2.out.size)
 clear hb HG HUu2 HBu2 HVu2
 cases x5
 case false =>
  have HF : Hid (R=false):=HR2.out.symm
  go_wp2_with fail
  go_ret
  exact ⟨by rw [HF.out];rfl,HBu3.out⟩
 obtain ⟨-,-,-,-,-,c5⟩:=cell_six HV.out HVu3.out
 obtain ⟨-,-,-,-,-,k5⟩:=cell_six HU.out HUu3.out
 have HF : Hid (x6=R):=HR2.out
 go_wp2_with fail
 clear c5 k5
 refine (HW.out _).mono ?_
 rintro _ u4 ⟨rfl,rfl⟩
 go_wp2_with fail
 go_ret
 exact ⟨by rw [HF.out];rfl,HBu3.out⟩
end Go.Proofs.YtkplahkkmmoppaaGreatDoor
namespace Go.Proofs.YtkplahkkmmoppaaGreatDoor
open Go.RowKit Rs At Pg
namespace Pg
def to0 (p : Pk) : List Sz.Fld:=[⟨kPkg,p.name,0⟩,⟨kVer,p.ver,0⟩]
def depsT (p : Pk) : List UInt8:=Lib.join (p.deps.map depT) semi
def conflT (p : Pk) : List UInt8:=Lib.join (p.confl.map textA) semi
def provT (p : Pk) : List UInt8:=Lib.join (p.prov.map gvT) semi
def to1 (p : Pk) : List Sz.Fld:=if p.deps = [] then to0 p else to0 p ++ [⟨kDep,depsT p,0⟩]
def to2 (p : Pk) : List Sz.Fld:=if p.confl = [] then to1 p else to1 p ++ [⟨kCon,conflT p,0⟩]
def to3 (p : Pk) : List Sz.Fld:=if p.prov = [] then to2 p else to2 p ++ [⟨kPro,provT p,0⟩]
def toPk (p : Pk) : List Sz.Fld:=if Wm.textW p.wt = [48] then to3 p else to3 p ++ [⟨kWei,Wm.textW p.wt,0⟩]
def PTxt (p : Pk) : Prop:=p.name.length≤1000∧p.ver.length≤1000∧p.deps.length≤1000∧DTxt p.deps∧(depsT p).length≤1000000∧p.confl.length≤1000∧ATxt p.confl∧(conflT p).length≤1000000∧p.prov.length≤1000∧GTxt p.prov∧(provT p).length≤1000000∧p.wt < Wm.W
theorem to0_len (p : Pk) : (to0 p).length=2:=rfl
theorem to1_len (p : Pk) : (to1 p).length≤3:=by unfold to1;split <;> simp [to0]
theorem to2_len (p : Pk) : (to2 p).length≤4:=by unfold to2;have:=to1_len p;split <;> simp <;> omega
theorem to3_len (p : Pk) : (to3 p).length≤5:=by unfold to3;have:=to2_len p;split <;> simp <;> omega
def d60 : List Atm:=[⟨[108,105,98],[⟨[50],[],true,false⟩]⟩,⟨[97,108,116],allS⟩]
def d61 : List Atm:=[⟨[120],allS⟩]
def p6 : Pk:=⟨[97,112,112],[49,46,48],[d60,d61],[],[⟨[116,111,111,108],[]⟩,⟨[111,108,100],[49]⟩],4609434218613702656⟩
def f6 : List Sz.Fld:=[⟨kPkg,[97,112,112],0⟩,⟨kVer,[49,46,48,48],1⟩,⟨kDep,[108,105,98,32,40,62,61,32,50,41,32,111,114,32,97,108,116,59,32,120],2⟩,⟨kPro,[116,111,111,108,59,32,111,108,100,32,61,32,48,49],3⟩,⟨kWei,[51,112,45,49],4⟩]
theorem k6a : Sz.parseS [80,97,99,107,97,103,101,58,32,97,112,112,10,86,101,114,115,105,111,110,58,32,49,46,48,48,10,68,101,112,101,110,100,115,58,32,108,105,98,32,40,62,61,32,50,41,32,111,114,32,97,108,116,59,32,120,10,80,114,111,118,105,100,101,115,58,32,116,111,111,108,59,32,111,108,100,32,61,32,48,49,10,87,101,105,103,104,116,58,32,51,112,45,49,10]=(0,0,[f6]):=by decide +kernel
theorem k6b : fromP f6=(0,0,p6):=by decide +kernel
theorem k6c : fromP [⟨kPkg,[97,112,112],0⟩]=(10,0,zeroP):=by decide +kernel
theorem k6d : fromP [⟨kPkg,[97],0⟩,⟨kVer,[49],0⟩,⟨kWei,[110,97,110],0⟩]=(8,2,zeroP):=by decide +kernel
theorem k6e : depT d60 = [108,105,98,32,40,62,61,32,50,41,32,111,114,32,97,108,116]:=by decide +kernel
theorem k6f : Sz.textS [toPk p6] = [80,97,99,107,97,103,101,58,32,97,112,112,10,86,101,114,115,105,111,110,58,32,49,46,48,10,68,101,112,101,110,100,115,58,32,108,105,98,32,40,62,61,32,50,41,32,111,114,32,97,108,116,59,32,120,10,80,114,111,118,105,100,101,115,58,32,116,111,111,108,59,32,111,108,100,32,61,32,49,10,87,101,105,103,104,116,58,32,51,112,45,49,10]:=by decide +kernel
theorem k6g : metP p6 ⟨[111,108,100],allS⟩=true∧metP p6 ⟨[116,111,111,108],allS⟩=true∧metP p6 ⟨[116,111,111,108],[]⟩=false∧metP p6 ⟨[108,105,98],[⟨[50],[],true,false⟩]⟩=false:=by decide +kernel
theorem k6h : checkP p6=0∧samP p6 p6=true:=by decide +kernel
end Pg
end Go.Proofs.YtkplahkkmmoppaaGreatDoor
