/- Part 25 of what the laws lean on. -/
import Derived.Test.YtkplahkkmmoppaaGreatDoorL24
set_option maxRecDepth 100000
set_option maxHeartbeats 6400000
namespace Go.Proofs.YtkplahkkmmoppaaGreatDoor
open Go.RowKit Go.Maps Sz
attribute [local go_sem ↓] Go.wp_at_zero Go.wp_at_succ
def Sz.Bld (w : World) (t : List UInt8) (u : World) : Prop:=Lib.IsBuilderF 142 5 w.heap.size w.heap.size (Lib.byteCells t) u∧Below w.heap.size w u
theorem Sz.bld_new {w W1 : World} (h : w.alloc (.cells #[.pointer none,.slice none 0 0] 142)=W1) : Bld w [] W1:=by
 subst h
 exact ⟨Lib.IsBuilderF.of (Lib.fresh_isBuilder _ _ w),(Below.refl _ _).alloc (Nat.le_refl _) _⟩
theorem Sz.byteCells_app (t s : List UInt8) : Lib.byteCells t ++ Lib.strCells ⟨s.toArray⟩=Lib.byteCells (t ++ s):=by
 unfold Lib.byteCells Lib.strCells
 simp
theorem Sz.bld_at {u u' : World} {B b : Nat} {p : Value} {bs : List Value} (h : Lib.BuilderAtF 142 5 B b p bs u) (hb : Below u.heap.size u u') : Lib.BuilderAtF 142 5 B b p bs u':=by
 have hlt:=h.lt
 obtain ⟨hB,v,hk,hown,hne⟩:=h
 refine ⟨hB,v,(hb.block _ hlt).trans hk,hown.kept (row:=none) ⟨hb.os,hb.tape,hb.output,hb.size,fun k hk _=>hb.block k hk⟩ ?_,hne⟩
 cases v.ownBlock with
 | none=>exact Or.inl rfl
 | some x=>exact Or.inr (by simp)
theorem Sz.bld_below {w u u' : World} {t : List UInt8} (h : Bld w t u) (hb : Below u.heap.size u u') : Bld w t u' :=
 ⟨h.1.elim (fun x=>.inl (bld_at x hb)) (fun x=>.inr (bld_at x hb)),h.2.trans (hb.mono h.2.size)⟩
theorem Sz.bld_lt {w u : World} {t : List UInt8} (h : Bld w t u) : w.heap.size < u.heap.size:=h.1.elim (fun x=>x.lt) (fun x=>x.lt)
theorem Sz.bld_write {w u : World} {t : List UInt8} (h : Bld w t u) (s : List UInt8) (hl : t.length + s.length≤10000000) :
  Calls Tryz.prog 87 #[.pointer (some ⟨w.heap.size,0,none⟩),.string ⟨s.toArray⟩] u fun e u'=>e = .returned (.tuple #[.int .i64 s.length,.nilIface])∧Bld w (t ++ s) u'∧Lib.OthersKept 5 (some w.heap.size) u u':=by
 refine (Tryz.Builder_WriteString_kc w.heap.size w.heap.size (Lib.byteCells t) ⟨s.toArray⟩ u h.1 (by
  have : (Lib.byteCells t).length=t.length:=by unfold Lib.byteCells;simp
  rw [this];show t.length + s.toArray.size≤_;rw [List.size_toArray];omega) h.2.size).mono ?_
 rintro e u' ⟨rfl,⟨hb,hB,hk⟩,_⟩
 refine ⟨by show _=Ending.returned (.tuple #[.int .i64 s.toArray.size,.nilIface]);rfl,⟨?_,h.2.trans hB⟩,hk⟩
 rw [← byteCells_app]
 exact .inr hb
theorem Sz.bld_string {w u : World} {t : List UInt8} (h : Bld w t u) :
  Calls Tryz.prog 88 #[.pointer (some ⟨w.heap.size,0,none⟩)] u fun e u'=>e = .returned (.string ⟨t.toArray⟩)∧Bld w t u':=by
 refine (Tryz.Builder_String_any_k w.heap.size w.heap.size t u h.1 h.2.size).mono ?_
 rintro e u' ⟨rfl,hb,hB,_⟩
 exact ⟨rfl,hb,h.2.trans hB⟩
def Sz.FBk (b : Nat) (k v : List UInt8) (n : Int) (u : World) : Prop:=u.heap[b]? = some (.cells #[.string ⟨k.toArray⟩,.string ⟨v.toArray⟩,.int .i64 n] 82 (0,0))
theorem Sz.fbk_new {w W1 : World} {k v : List UInt8} {n : Int} (h : w.alloc (.cells #[.string ⟨k.toArray⟩,.string ⟨v.toArray⟩,.int .i64 n] 82)=W1) : FBk w.heap.size k v n W1:=by
 subst h;exact heap_alloc_new w _
theorem Sz.fbk_cells {b : Nat} {k v : List UInt8} {n : Int} {u : World} (h : FBk b k v n u) : u.cell? ⟨b,0,none⟩=some (.string ⟨k.toArray⟩)∧u.cell? ⟨b,1,none⟩=some (.string ⟨v.toArray⟩)∧u.cell? ⟨b,2,none⟩=some (.int .i64 n):=by
 unfold FBk at h
 refine ⟨?_,?_,?_⟩ <;> simp [World.cell?,h]
theorem Sz.fbk_kept {b c : Nat} {k v : List UInt8} {n : Int} {u u' : World} (h : FBk b k v n u) (hk : Lib.OthersKept 5 (some c) u u') (hne : c < b) : FBk b k v n u' :=
 hk b _ h (by simp;omega) (fun cs fz e=>by
  have:=(Obj.cells.inj e).2.1
  exact absurd this (by decide))
theorem Sz.stanzaT_take (l : List Fld) (i : Nat) (hi : i < l.length) : stanzaT (l.take (i + 1))=stanzaT (l.take i) ++ fieldT l[i]:=by
 rw [List.take_succ_eq_append_getElem hi,stanzaT_snoc]
theorem Sz.stanzaT_le (l : List Fld) (i : Nat) : (stanzaT (l.take i)).length≤(stanzaT l).length:=by
 have h : stanzaT l=stanzaT (l.take i) ++ stanzaT (l.drop i):=by
  unfold stanzaT;rw [← List.flatMap_append,List.take_append_drop]
 rw [h,List.length_append];omega
theorem Sz.textS_take (t : List (List Fld)) (k : Nat) (hk : k < t.length) : textS (t.take (k + 1))=textS (t.take k) ++ (if k=0 then [] else [10]) ++ stanzaT t[k]:=by
 rw [List.take_succ_eq_append_getElem hk,textS_snoc]
 by_cases h : k=0
 ·subst h;rw [if_pos rfl];rfl
 ·rw [if_neg h,if_neg]
  simp;exact ⟨h,fun e=>by subst e;simp at hk⟩
theorem Sz.textS_app_le (a : List (List Fld)) : ∀ n (b : List (List Fld)),b.length=n → (textS a).length≤(textS (a ++ b)).length
 | 0,b,h=>by rw [List.length_eq_zero_iff.1 h,List.append_nil];exact Nat.le_refl _
 | n + 1,b,h=>by
  rcases List.eq_nil_or_concat b with rfl | ⟨c,x,rfl⟩
  ·simp at h
  ·rw [List.concat_eq_append] at h ⊢
   have hc : c.length=n:=by simp at h;exact h
   have ih:=textS_app_le a n c hc
   rw [← List.append_assoc,textS_snoc,List.length_append]
   split
   ·rename_i he
    have : a ++ c = []:=by simpa using he
    rw [this] at ih
    have h0 : (textS ([] : List (List Fld))).length=0:=rfl
    omega
   ·rw [List.length_append];omega
theorem Sz.textS_le (t : List (List Fld)) (k : Nat) : (textS (t.take k)).length≤(textS t).length:=by
 have:=textS_app_le (t.take k) _ (t.drop k) rfl
 rwa [List.take_append_drop] at this
theorem Sz.grid_at {w : World} {A : Option Addr} {t : List (List Fld)} (h : Gr.Row encF 3 w A t) (k : Nat) (hk : k < t.length) : ∃ ad C n c,A=some ad∧t[k].length=n∧Rg.Row encF 3 w C t[k]∧∀ u,Below w.heap.size w u → u.cell? (ad.add k)=some (.slice C n c):=by
 obtain ⟨ds,h1,h2,h3⟩:=h
 have hkd : k < ds.length:=by omega
 obtain ⟨ad,e,_,_⟩:=h1 (by omega)
 obtain ⟨q1,q2⟩:=h3 k ds[k] t[k] (List.getElem?_eq_getElem hkd) (List.getElem?_eq_getElem hk)
 refine ⟨ad,ds[k].1,ds[k].2.1,ds[k].2.2,e,q1.symm,q2,fun u hb=>?_⟩
 obtain ⟨ad',x,e',hx,_,hc⟩:=Rg.row_at (Rg.row_below h1 hb) k hkd
 rw [e] at e';cases e'
 have:=hc 0 _ rfl
 rw [if_pos rfl,Nat.mul_one] at this
 rw [hx];exact this
theorem stanzaPrint_any (A : Option Addr) (n c : Nat) (t : List (List Fld)) (w : World) (hn : t.length=n) (hr : Gr.Row encF 3 w A t) (hl : n≤1000000) (hls : ∀ l ∈ t,l.length≤1000000) (ht : (textS t).length≤1000000) :
  Calls Tryz.prog 35 #[.slice A n c] w fun e w'=>e = .returned (.string ⟨(textS t).toArray⟩)∧Below w.heap.size w w':=by
 obtain ⟨R,hR⟩ : ∃ R,textS t=R:=⟨_,rfl⟩
 rw [hR] at ht
 rw [hR]
 have HRT:=Lib.hid hR
 obtain ⟨W1,hW1⟩ : ∃ W,w.alloc (.cells #[.pointer none,.slice none 0 0] 142)=W:=⟨_,rfl⟩
 have HB0 : Hid (Bld w [] W1):=bld_new hW1
 have HR:=Lib.hid hr
 have HN:=Lib.hid hn
 have HL:=Lib.hid hls
 have HT:=Lib.hid ht
 have HTS : Hid (∀ k,(textS (t.take k)).length≤R.length):=fun k=>by rw [← hR];exact textS_le t k
 clear hr hn hls ht hR
 go_enter Tryz.func35,Tryz.ntmps35
 go_wp2_with fail
 clear hW1
 go_loopw [10] (fun i wr=>∃ k : Nat,k≤n∧i = .int .i64 k∧Hid (Bld w (textS (t.take k)) wr)) (fun i _=>n - (intOf i).toNat)
 case atStart=>exact ⟨0,Nat.zero_le _,rfl,HB0.out⟩
 case round =>
  obtain ⟨k,hk,rfl,HW⟩:=hrel
  by_cases hlt : k < n
  ·have hlr : k < t.length:=by rw [HN.out];exact hlt
   obtain ⟨ad,C,m,d,rfl,hm,hrow,hcell⟩:=grid_at HR.out k hlr
   have hc:=hcell _ HW.out.2
   have htk:=textS_take t k hlr
   have hle:=HTS.out (k + 1)
   have hll:=HL.out _ (List.getElem_mem hlr)
   obtain ⟨l,hlk⟩ : ∃ l,t[k]=l:=⟨_,rfl⟩
   rw [hlk] at hm hrow htk hll
   rw [htk,List.length_append,List.length_append] at hle
   obtain ⟨T1,hT1⟩ : ∃ T,textS (t.take k)=T:=⟨_,rfl⟩
   rw [hT1] at htk hle HW
   have HROW:=Lib.hid hrow
   have HM:=Lib.hid hm
   have hm1 : m≤1000000:=by rw [← hm];exact hll
   clear hcell hlk hm hrow hll hT1
   by_cases hk0 : k=0
   ·have d0 : decide (0 < k)=false:=decide_eq_false (by omega)
    have HB1 : Hid (Bld w T1 wr):=HW.out
    have HTK : Hid (textS (t.take (k + 1))=T1 ++ stanzaT l):=by show _=_;rw [htk,if_pos hk0,List.append_nil]
    have HLN : Hid (T1.length + (stanzaT l).length≤R.length):=by show _≤_;rw [if_pos hk0] at hle;have h0 : ([] : List UInt8).length=0:=rfl;omega
    clear htk hle hk0
    go_wp2_with fail
    go_loopw [20] (fun j wr=>∃ i : Nat,i≤m∧j = .int .i64 i∧Hid (Bld w (T1 ++ stanzaT (l.take i)) wr)) (fun j _=>m - (intOf j).toNat)
    case atStart=>exact ⟨0,Nat.zero_le _,rfl,by show Bld w (T1 ++ []) _;rw [List.append_nil];exact HB1.out⟩
    case round =>
     obtain ⟨i,hi,rfl,HI⟩:=hrel
     by_cases hlt2 : i < m
     ·have hli : i < l.length:=by rw [HM.out];exact hlt2
      obtain ⟨ae,rfl,_,c0,c1,c2⟩:=field_at (Rg.row_below HROW.out HI.out.2) i hli
      have hst:=stanzaT_take l i hli
      have hsl:=stanzaT_le l (i + 1)
      obtain ⟨f,hf⟩ : ∃ f,l[i]=f:=⟨_,rfl⟩
      rw [hf] at c0 c1 c2 hst
      obtain ⟨fk,fv,fl⟩:=f
      have hft : fieldT ⟨fk,fv,fl⟩=fk ++ [58,32] ++ fv ++ [10]:=rfl
      rw [hst,hft] at hsl
      have HNX : Hid (T1 ++ stanzaT (l.take (i + 1))=T1 ++ stanzaT (l.take i) ++ fk ++ [58,32] ++ fv ++ [10]):=by show _=_;rw [hst,hft];simp only [List.append_assoc]
      obtain ⟨S,hS⟩ : ∃ S,T1 ++ stanzaT (l.take i)=S:=⟨_,rfl⟩
      rw [hS] at HNX HI
      have HSL : Hid (S.length + fk.length + 2 + fv.length + 1≤1000000):=by
       have h1:=HLN.out;have h2:=HT.out
       show _≤_
       rw [← hS];simp only [List.length_append,List.length_cons,List.length_nil] at hsl ⊢;omega
      dsimp only at c0 c1 c2
      obtain ⟨V,hV⟩ : ∃ V,wr.alloc (.cells #[.string ⟨fk.toArray⟩,.string ⟨fv.toArray⟩,.int .i64 fl] 82)=V:=⟨_,rfl⟩
      have HF0 : Hid (FBk wr.heap.size fk fv fl V):=fbk_new hV
      have HBV : Hid (Bld w S V):=bld_below HI.out (alloc_low hV)
      have HLT : Hid (w.heap.size < wr.heap.size):=bld_lt HI.out
      obtain ⟨v0,v1,v2⟩:=fbk_cells HF0.out
      have x1:=Lib.hid (bld_write HBV.out fk (by have:=HSL.out;omega))
      clear hst hsl hf hft hS
      go_wp2_with fail
      clear hV v0 v1 v2
      refine x1.out.mono ?_
      rintro _ y1 ⟨rfl,hb,hkp⟩
      have HY1:=Lib.hid hb
      have HF1:=Lib.hid (fbk_kept HF0.out hkp HLT.out)
      obtain ⟨v0,v1,v2⟩:=fbk_cells HF1.out
      clear hb hkp
      clear x1
      go_wp2_with fail
      clear v0 v1 v2
      refine (bld_write HY1.out [58,32] (by have:=HSL.out;simp only [List.length_append,List.length_cons,List.length_nil];omega)).mono ?_
      rintro _ y2 ⟨rfl,hb,hkp⟩
      have HY2:=Lib.hid hb
      have HF2:=Lib.hid (fbk_kept HF1.out hkp HLT.out)
      obtain ⟨v0,v1,v2⟩:=fbk_cells HF2.out
      clear hb hkp
      go_wp2_with fail
      clear v0 v1 v2
      refine (bld_write HY2.out fv (by have:=HSL.out;simp only [List.length_append,List.length_cons,List.length_nil];omega)).mono ?_
      rintro _ y3 ⟨rfl,hb,hkp⟩
      have HY3:=Lib.hid hb
      have HF3:=Lib.hid (fbk_kept HF2.out hkp HLT.out)
      obtain ⟨v0,v1,v2⟩:=fbk_cells HF3.out
      clear hb hkp
      go_wp2_with fail
      clear v0 v1 v2
      refine (bld_write HY3.out [10] (by have:=HSL.out;simp only [List.length_append,List.length_cons,List.length_nil];omega)).mono ?_
      rintro _ y4 ⟨rfl,hb,hkp⟩
      have HY4:=Lib.hid hb
      clear hb hkp
      go_wp2_with fail
      go_roundw
      case rel=>exact ⟨i + 1,by omega,by go_num,by show Bld w _ _;rw [HNX.out];exact HY4.out⟩
      case measure=>simp [intOf];omega
     ·obtain rfl : i=m:=by omega
      have HE : Hid (Bld w (textS (t.take (k + 1))) wr):=by
       have h:=HI.out
       rw [List.take_of_length_le (by rw [HM.out];exact Nat.le_refl _),← HTK.out] at h
       exact h
      go_wp2_with fail
      go_roundw
      case rel=>exact ⟨k + 1,by omega,by go_num,HE⟩
      case measure=>simp [intOf];omega
   ·have d0 : decide (0 < k)=true:=decide_eq_true (by omega)
    have HTK : Hid (textS (t.take (k + 1))=(T1 ++ [10]) ++ stanzaT l):=by show _=_;rw [htk,if_neg hk0]
    have hl1 : (T1 ++ [10]).length + (stanzaT l).length≤R.length:=by rw [if_neg hk0] at hle;rw [List.length_append];exact hle
    have hl2 : T1.length + ([10] : List UInt8).length≤10000000:=by have:=HT.out;rw [List.length_append] at hl1;omega
    have HL2:=Lib.hid hl2
    obtain ⟨T2,hT2⟩ : ∃ T,T1 ++ [10]=T:=⟨_,rfl⟩
    rw [hT2] at HTK hl1
    have HLN : Hid (T2.length + (stanzaT l).length≤R.length):=hl1
    clear htk hle hk0 hl1 hl2
    go_wp2_with fail
    refine (bld_write HW.out [10] HL2.out).mono ?_
    rintro _ u1 ⟨rfl,hb,_⟩
    rw [hT2] at hb
    have HB1:=Lib.hid hb
    clear hb hT2
    go_wp2_with fail
    go_loopw [20] (fun j wr=>∃ i : Nat,i≤m∧j = .int .i64 i∧Hid (Bld w (T2 ++ stanzaT (l.take i)) wr)) (fun j _=>m - (intOf j).toNat)
    case atStart=>exact ⟨0,Nat.zero_le _,rfl,by show Bld w (T2 ++ []) _;rw [List.append_nil];exact HB1.out⟩
    case round =>
     obtain ⟨i,hi,rfl,HI⟩:=hrel
     by_cases hlt2 : i < m
     ·have hli : i < l.length:=by rw [HM.out];exact hlt2
      obtain ⟨ae,rfl,_,c0,c1,c2⟩:=field_at (Rg.row_below HROW.out HI.out.2) i hli
      have hst:=stanzaT_take l i hli
      have hsl:=stanzaT_le l (i + 1)
      obtain ⟨f,hf⟩ : ∃ f,l[i]=f:=⟨_,rfl⟩
      rw [hf] at c0 c1 c2 hst
      obtain ⟨fk,fv,fl⟩:=f
      have hft : fieldT ⟨fk,fv,fl⟩=fk ++ [58,32] ++ fv ++ [10]:=rfl
      rw [hst,hft] at hsl
      have HNX : Hid (T2 ++ stanzaT (l.take (i + 1))=T2 ++ stanzaT (l.take i) ++ fk ++ [58,32] ++ fv ++ [10]):=by show _=_;rw [hst,hft];simp only [List.append_assoc]
      obtain ⟨S,hS⟩ : ∃ S,T2 ++ stanzaT (l.take i)=S:=⟨_,rfl⟩
      rw [hS] at HNX HI
      have HSL : Hid (S.length + fk.length + 2 + fv.length + 1≤1000000):=by
       have h1:=HLN.out;have h2:=HT.out
       show _≤_
       rw [← hS];simp only [List.length_append,List.length_cons,List.length_nil] at hsl ⊢;omega
      dsimp only at c0 c1 c2
      obtain ⟨V,hV⟩ : ∃ V,wr.alloc (.cells #[.string ⟨fk.toArray⟩,.string ⟨fv.toArray⟩,.int .i64 fl] 82)=V:=⟨_,rfl⟩
      have HF0 : Hid (FBk wr.heap.size fk fv fl V):=fbk_new hV
      have HBV : Hid (Bld w S V):=bld_below HI.out (alloc_low hV)
      have HLT : Hid (w.heap.size < wr.heap.size):=bld_lt HI.out
      obtain ⟨v0,v1,v2⟩:=fbk_cells HF0.out
      have x1:=Lib.hid (bld_write HBV.out fk (by have:=HSL.out;omega))
      clear hst hsl hf hft hS
      go_wp2_with fail
      clear hV v0 v1 v2
      refine x1.out.mono ?_
      rintro _ y1 ⟨rfl,hb,hkp⟩
      have HY1:=Lib.hid hb
      have HF1:=Lib.hid (fbk_kept HF0.out hkp HLT.out)
      obtain ⟨v0,v1,v2⟩:=fbk_cells HF1.out
      clear hb hkp
      clear x1
      go_wp2_with fail
      clear v0 v1 v2
      refine (bld_write HY1.out [58,32] (by have:=HSL.out;simp only [List.length_append,List.length_cons,List.length_nil];omega)).mono ?_
      rintro _ y2 ⟨rfl,hb,hkp⟩
      have HY2:=Lib.hid hb
      have HF2:=Lib.hid (fbk_kept HF1.out hkp HLT.out)
      obtain ⟨v0,v1,v2⟩:=fbk_cells HF2.out
      clear hb hkp
      go_wp2_with fail
      clear v0 v1 v2
      refine (bld_write HY2.out fv (by have:=HSL.out;simp only [List.length_append,List.length_cons,List.length_nil];omega)).mono ?_
      rintro _ y3 ⟨rfl,hb,hkp⟩
      have HY3:=Lib.hid hb
      have HF3:=Lib.hid (fbk_kept HF2.out hkp HLT.out)
      obtain ⟨v0,v1,v2⟩:=fbk_cells HF3.out
      clear hb hkp
      go_wp2_with fail
      clear v0 v1 v2
      refine (bld_write HY3.out [10] (by have:=HSL.out;simp only [List.length_append,List.length_cons,List.length_nil];omega)).mono ?_
      rintro _ y4 ⟨rfl,hb,hkp⟩
      have HY4:=Lib.hid hb
      clear hb hkp
      go_wp2_with fail
      go_roundw
      case rel=>exact ⟨i + 1,by omega,by go_num,by show Bld w _ _;rw [HNX.out];exact HY4.out⟩
      case measure=>simp [intOf];omega
     ·obtain rfl : i=m:=by omega
      have HE : Hid (Bld w (textS (t.take (k + 1))) wr):=by
       have h:=HI.out
       rw [List.take_of_length_le (by rw [HM.out];exact Nat.le_refl _),← HTK.out] at h
       exact h
      go_wp2_with fail
      go_roundw
      case rel=>exact ⟨k + 1,by omega,by go_num,HE⟩
      case measure=>simp [intOf];omega
  ·obtain rfl : k=n:=by omega
   have HE : Hid (Bld w R wr):=by
    have h:=HW.out
    rw [List.take_of_length_le (by rw [HN.out];exact Nat.le_refl _),HRT.out] at h
    exact h
   go_wp2_with fail
   refine (bld_string HE.out).mono ?_
   rintro _ u2 ⟨rfl,hb2⟩
   have HB2:=Lib.hid hb2
   clear hb2
   go_wp2_with fail
   go_ret
   exact ⟨rfl,HB2.out.2⟩
theorem Sz.s5_order {u : World} (A : Option Addr) (n c : Nat) (l : List Fld) (B : Option Addr) (m d : Nat) (ks : List (List UInt8)) (hn : l.length=n) (hr : Rg.Row encF 3 u A l) (hl : n≤100000) (hs : Short l) (hm : ks.length=m) (hk : Rg.Row encT 1 u B ks) (hml : m≤100000) (hks : ShortT ks) {i e0 : Int} (hX : ordP ks 0 (-1) l=(i,e0)) :
  Calls Tryz.prog 108 #[.slice A n c,.slice B m d] u fun e w'=>e = .returned (.tuple #[.int .i64 i,.int .i64 e0])∧Below u.heap.size u w' :=
 (stanzaOrder_any A n c l B m d ks u hn hr hl hs hm hk hml hks).mono fun e w' ⟨he,hb⟩=>by
  rw [hX] at he
  exact ⟨he,hb⟩
theorem Sz.short_of {l : List Fld} (h : l.all (fun f=>decide (f.key.length≤140737488355328) && decide (f.val.length≤140737488355328))=true) : Short l:=fun f hf=>by
 have:=List.all_eq_true.1 h f hf
 rw [Bool.and_eq_true,decide_eq_true_eq,decide_eq_true_eq] at this
 exact this
theorem Sz.below_alloc {w u : World} {B : Nat} (h : Below B w u) (hB : B≤w.heap.size) (o : Obj) : Below B w (u.alloc o):=h.alloc (Nat.le_trans hB h.size) _
theorem Sz.shortT_of {l : List (List UInt8)} (h : l.all (fun k=>decide (k.length≤140737488355328))=true) : ShortT l:=fun k hk=>by
 have:=List.all_eq_true.1 h k hk
 rwa [decide_eq_true_eq] at this
theorem Sz.s5_print {u : World} (A : Option Addr) (n c : Nat) (t : List (List Fld)) (hn : t.length=n) (hr : Gr.Row encF 3 u A t) (hl : n≤1000000) (hls : ∀ l ∈ t,l.length≤1000000) {T : List UInt8} (hT : textS t=T) (ht : T.length≤1000000) :
  Calls Tryz.prog 35 #[.slice A n c] u fun e w'=>e = .returned (.string ⟨T.toArray⟩)∧Below u.heap.size u w' :=
 (stanzaPrint_any A n c t u hn hr hl hls (by rw [hT];exact ht)).mono fun e w' ⟨he,hb⟩=>by
  rw [hT] at he;exact ⟨he,hb⟩
theorem Rg.row_new {α : Type} {enc : α → List Value} {K : Nat} (hf : Rg.Fits enc K) (w : World) (T : TypeId) (l : List α) (cs : Array Value) (h : cs.toList=Rg.flat enc l) {b : Nat} (hb : w.heap.size=b) : Rg.Row enc K (w.alloc (.cells cs T)) (some ⟨b,0,none⟩) l:=by
 subst hb
 intro _
 refine ⟨_,rfl,by simp,fun i hi j v hv=>?_⟩
 have hj : j < K:=by rw [← hf.len l[i]];exact (List.getElem?_eq_some_iff.1 hv).1
 rw [← Rg.add_j]
 exact Rg.news_new w T l cs h _ _ ((Rg.flat_get hf l i hi j hj).trans hv)
end Go.Proofs.YtkplahkkmmoppaaGreatDoor
namespace Go.Proofs.YtkplahkkmmoppaaGreatDoor
open Go.RowKit Rs At Pg
namespace Pg
theorem pRows_mono {B B' : Nat} {u : World} {p : Pk} {D C G : Option Addr} (h : PRows B u p D C G) (hB : B'≤B) : PRows B' u p D C G :=
 ⟨⟨drowF_mono h.1.1 hB,fun a ha=>Nat.le_trans hB (h.1.2 a ha)⟩,⟨h.2.1.1,fun a ha=>Nat.le_trans hB (h.2.1.2 a ha)⟩,⟨h.2.2.1,fun a ha=>Nat.le_trans hB (h.2.2.2 a ha)⟩⟩
abbrev zeroC : Array Value:=#[.string ⟨#[]⟩,.string ⟨#[]⟩,.slice none 0 0,.slice none 0 0,.slice none 0 0,.float .f64 0]
theorem zero_rows (B : Nat) (u : World) : PRows B u zeroP none none none :=
 ⟨⟨⟨[],fun h=>absurd h (by decide),⟨rfl,fun i a d h=>by simp at h⟩,fun i a h=>by simp at h⟩,fun a h=>by cases h⟩,⟨⟨[],fun h=>absurd h (by decide),⟨rfl,fun i a d h=>by simp at h⟩⟩,fun a h=>by cases h⟩,⟨fun h=>absurd h (by decide),fun a h=>by cases h⟩⟩
theorem pblk_new {T : TypeId} {w W : World} (h : w.alloc (.cells zeroC T)=W) : PBlk T w.heap.size (w.heap.size + 1) zeroP W :=
 ⟨none,0,none,0,none,0,by rw [← h];exact heap_alloc_new w _,zero_rows _ _⟩
abbrev stP (u : World) (b : Nat) (p : Pk) (D C G : Option Addr) (dc cc gc : Nat) : World :=
 (((((u.setCell ⟨b,0,none⟩ (.string ⟨p.name.toArray⟩)).setCell ⟨b,1,none⟩ (.string ⟨p.ver.toArray⟩)).setCell ⟨b,2,none⟩ (.slice D p.deps.length dc)).setCell ⟨b,3,none⟩ (.slice C p.confl.length cc)).setCell ⟨b,4,none⟩ (.slice G p.prov.length gc)).setCell ⟨b,5,none⟩ (.float .f64 p.wt)
theorem stP_heap {u : World} {b : Nat} {T : TypeId} (h : u.heap[b]? = some (.cells zeroC T (0,0))) (p : Pk) (D C G : Option Addr) (dc cc gc : Nat) : (stP u b p D C G dc cc gc).heap[b]? = some (.cells (pCells p D C G dc cc gc) T (0,0)):=by
 unfold stP
 exact (set_heap (set_heap (set_heap (set_heap (set_heap (set_heap h)))))).trans rfl
theorem stP_but (u : World) (b : Nat) (p : Pk) (D C G : Option Addr) (dc cc gc : Nat) : But (some b) u (stP u b p D C G dc cc gc) :=
 but_trans (but_trans (but_trans (but_trans (but_trans (but_set u ⟨b,0,none⟩ _) (but_set _ ⟨b,1,none⟩ _)) (but_set _ ⟨b,2,none⟩ _)) (but_set _ ⟨b,3,none⟩ _)) (but_set _ ⟨b,4,none⟩ _)) (but_set _ ⟨b,5,none⟩ _)
theorem zero_nob {T : TypeId} {b : Nat} {u : World} (h : u.heap[b]? = some (.cells zeroC T (0,0))) : ∀ j x,u.cell? ⟨b,j,none⟩=some x → NoB x:=six_nob (p:=zeroP) (D:=none) (C:=none) (G:=none) (dc:=0) (cc:=0) (gc:=0) h
theorem stP_below {B : Nat} {w u : World} {b : Nat} (h : Below B w u) (hb : B≤b) (p : Pk) (D C G : Option Addr) (dc cc gc : Nat) : Below B w (stP u b p D C G dc cc gc) :=
 (((((h.setCell (p:=⟨b,0,none⟩) hb _).setCell (p:=⟨b,1,none⟩) hb _).setCell (p:=⟨b,2,none⟩) hb _).setCell (p:=⟨b,3,none⟩) hb _).setCell (p:=⟨b,4,none⟩) hb _).setCell (p:=⟨b,5,none⟩) hb _
theorem six_cells {u : World} {b : Nat} {T : TypeId} {x0 x1 x2 x3 x4 x5 : Value} (h : u.heap[b]? = some (.cells #[x0,x1,x2,x3,x4,x5] T (0,0))) : u.cell? ⟨b,0,none⟩=some x0∧u.cell? ⟨b,1,none⟩=some x1∧u.cell? ⟨b,2,none⟩=some x2∧u.cell? ⟨b,3,none⟩=some x3∧u.cell? ⟨b,4,none⟩=some x4∧u.cell? ⟨b,5,none⟩=some x5:=by
 refine ⟨?_,?_,?_,?_,?_,?_⟩ <;> simp [World.cell?,h]
theorem six_free {u : World} {b : Nat} {T : TypeId} {cs : Array Value} (h : u.heap[b]? = some (.cells cs T (0,0))) (j : Nat) : u.frozen? ⟨b,j,none⟩=false:=by
 simp [World.frozen?,h]
end Pg
def Pg.ReadRet (w : World) (R : Except (Int × Int) Pk) (e : Ending) (w' : World) : Prop:=Below w.heap.size w w'∧match R with
 | .ok p=>∃ D dc C cc G gc,e = .returned (.agg (pCells p D C G dc cc gc))∧PRows w.heap.size w' p D C G
 | .error x=>e=panAt x.1 x.2
theorem Pg.res_read {u : World} {b : Nat} (h : u.heap[b]? = some (.cells zeroC 34 (0,0))) (p : Pk) (D C G : Option Addr) (dc cc gc : Nat) {tmps : Array Value} (ht : tmps.getD 2 undef = .pointer (some ⟨b,0,none⟩)) :
  (results Tryz.f61 tmps).run Tryz.prog (stP u b p D C G dc cc gc) = .ok (.agg (pCells p D C G dc cc gc)) (stP u b p D C G dc cc gc):=by
 obtain ⟨g0,g1,g2,g3,g4,g5⟩:=six_cells (stP_heap h p D C G dc cc gc)
 have hr : Tryz.f61.results = #[.cell 2 34]:=Tryz.results61
 simp only [results,hr]
 generalize stP u b p D C G dc cc gc=V at *
 simp only [Array.getD_eq_getD_getElem?] at ht ⊢
 simp [go_sem,ht,g0,g1,g2,g3,g4,g5]
attribute [local go_sem ↓] Go.wp_at_zero Go.wp_at_succ
attribute [local go_sem] Pg.run_store_float
theorem pkgRead_any (A : Option Addr) (n c : Nat) (l : List Sz.Fld) (w : World) (hk : KOk w) (hn : l.length=n) (hr : Rg.Row Sz.encF 3 w A l) (hl : n≤1000) (hs : Sz.Short l) (hv : ∀ f ∈ l,f.val.length≤1000) :
  Calls Tryz.prog 61 #[.slice A n c] w (Pg.ReadRet w (readP l)):=by
 obtain ⟨R,hR⟩ : ∃ R,readP l=R:=⟨_,rfl⟩
 rw [hR]
 unfold readP at hR
 obtain ⟨W1,hW1⟩ : ∃ W,w.alloc (.cells zeroC 34)=W:=⟨_,rfl⟩
 have HW1 : Hid (Below w.heap.size w W1):=alloc_low hW1
 have HZ : Hid (∀ u,Below W1.heap.size W1 u → u.heap[w.heap.size]? = some (.cells zeroC 34 (0,0))):=fun u hb=>(hb.block _ (by rw [← hW1];simp)).trans (by rw [← hW1];exact heap_alloc_new w _)
 obtain ⟨b1,hb1⟩ : ∃ b,W1.heap.size=b:=⟨_,rfl⟩
 obtain ⟨W2,hW2⟩ : ∃ W,W1.alloc (.cells #[.string ⟨#[80,97,99,107,97,103,101]⟩,.string ⟨#[86,101,114,115,105,111,110]⟩,.string ⟨#[68,101,112,101,110,100,115]⟩,.string ⟨#[67,111,110,102,108,105,99,116,115]⟩,.string ⟨#[80,114,111,118,105,100,101,115]⟩,.string ⟨#[87,101,105,103,104,116]⟩] 9)=W:=⟨_,rfl⟩
 have HW12 : Hid (Below W1.heap.size W1 W2):=alloc_low hW2
 have HW2 : Hid (Below w.heap.size w W2):=HW1.out.trans (HW12.out.mono HW1.out.size)
 have hkr : Rg.Row encT 1 W2 (some ⟨b1,0,none⟩) keys6:=by rw [← hW2];exact Rg.row_new fitsT W1 9 keys6 _ rfl hb1
 obtain ⟨X,hX⟩ : ∃ X,Sz.ordP keys6 0 (-1) l=X:=⟨_,rfl⟩
 rw [hX] at hR
 obtain ⟨i0,e0⟩:=X
 dsimp only at hR
 have HO:=Lib.hid (Sz.s5_order (u:=W2) A n c l (some ⟨b1,0,none⟩) 6 6 keys6 hn (Rg.row_below hr HW2.out) (Nat.le_trans hl (by decide)) hs rfl hkr (by decide) (Sz.shortT_of (by decide +kernel)) hX)
 have HS:=Lib.hid hs
 have HV:=Lib.hid hv
 have HN:=Lib.hid hn
 have HR0:=Lib.hid hr
 have HL:=Lib.hid hl
 have HK:=Lib.hid hk
 have HR:=Lib.hid hR
 have HB1 : Hid (w.heap.size < b1):=by rw [← hb1,← hW1];show _ < _;simp
 have HSZ1:=Lib.hid hb1
 clear hR hs hv hn hr hl hk hX hkr
 go_enter Tryz.func61,Tryz.ntmps61
 go_wp2_with fail
 clear hW1 hW2 hb1
 refine HO.out.mono ?_
 rintro _ u1 ⟨rfl,hb⟩
 have HU1 : Hid (Below W1.heap.size W1 u1):=HW12.out.trans (hb.mono HW12.out.size)
 have HWU1 : Hid (Below w.heap.size w u1):=HW2.out.trans (hb.mono HW2.out.size)
 clear hb HO
 by_cases he : e0=0
 case neg =>
  have HF : Hid (R = .error (i0,e0)):=by show _=_;rw [← HR.out,if_neg he]
  have d0 : (e0 == 0)=false:=beq_eq_false_iff_ne.2 he
  clear he
  go_wp2_with fail
  refine (requireAt_no _).mono ?_
  rintro _ u2 ⟨rfl,rfl⟩
  go_wp2_with fail
  exact ⟨rfl,HWU1.out,by rw [HF.out]⟩
 subst he
 have HR2 : Hid ((if ((Sz.getF l kPkg).isSome && (Sz.getF l kVer).isSome)=true then readR 0 zeroP l else .error (0,10))=R):=by show _=_;rw [← HR.out];rfl
 have HH1 : Hid (∀ u,Below w.heap.size w u → Calls Tryz.prog 110 #[.slice A n c,.string ⟨#[80,97,99,107,97,103,101]⟩] u fun e w'=>e = .returned (.bool (Sz.getF l kPkg).isSome)∧Below u.heap.size u w'):=fun u hb=>pkgHas_any A n c l kPkg u HN.out (Rg.row_below HR0.out hb) (Nat.le_trans HL.out (by decide)) HS.out
 have HH2 : Hid (∀ u,Below w.heap.size w u → Calls Tryz.prog 110 #[.slice A n c,.string ⟨#[86,101,114,115,105,111,110]⟩] u fun e w'=>e = .returned (.bool (Sz.getF l kVer).isSome)∧Below u.heap.size u w'):=fun u hb=>pkgHas_any A n c l kVer u HN.out (Rg.row_below HR0.out hb) (Nat.le_trans HL.out (by decide)) HS.out
 obtain ⟨x,hx⟩ : ∃ x,(Sz.getF l kPkg).isSome=x:=⟨_,rfl⟩
 obtain ⟨y,hy⟩ : ∃ x,(Sz.getF l kVer).isSome=x:=⟨_,rfl⟩
 rw [hx,hy] at HR2
 rw [hx] at HH1
 rw [hy] at HH2
 clear hx hy HR
 go_wp2_with fail
 refine (requireAt_yes _).mono ?_
 rintro _ u2 ⟨rfl,rfl⟩
 go_wp2_with fail
 refine (HH1.out _ HWU1.out).mono ?_
 rintro _ u2 ⟨rfl,hb⟩
 have HU2 : Hid (Below W1.heap.size W1 u2):=HU1.out.trans (hb.mono HU1.out.size)
 have HWU2 : Hid (Below w.heap.size w u2):=HWU1.out.trans (hb.mono HWU1.out.size)
 clear hb HH1 HU1 HWU1
 cases x
 ·have HF : Hid (R = .error (0,10)):=HR2.out.symm
  go_wp2_with fail
  refine (requireAt_no _).mono ?_
  rintro _ u3 ⟨rfl,rfl⟩
  go_wp2_with fail
  exact ⟨rfl,HWU2.out,by rw [HF.out]⟩
 go_wp2_with fail
 refine (HH2.out _ HWU2.out).mono ?_
 rintro _ u3 ⟨rfl,hb⟩
 have HU3 : Hid (Below W1.heap.size W1 u3):=HU2.out.trans (hb.mono HU2.out.size)
 have HWU3 : Hid (Below w.heap.size w u3):=HWU2.out.trans (hb.mono HWU2.out.size)
 clear hb HH2 HU2 HWU2
 cases y
 ·have HF : Hid (R = .error (0,10)):=HR2.out.symm
  go_wp2_with fail
  refine (requireAt_no _).mono ?_
  rintro _ u3 ⟨rfl,rfl⟩
  go_wp2_with fail
  exact ⟨rfl,HWU3.out,by rw [HF.out]⟩
 have HR3 : Hid (readR 0 zeroP l=R):=HR2.out
 clear HR2
 go_wp2_with fail
 refine (requireAt_yes _).mono ?_
 rintro _ u4 ⟨rfl,rfl⟩
 obtain ⟨b,hb⟩ : ∃ b,u3.heap.size=b:=⟨_,rfl⟩
 obtain ⟨U,hU⟩ : ∃ U,u3.alloc (.cells zeroC 34)=U:=⟨_,rfl⟩
 have HPB : Hid (PBlk 34 b (b + 1) zeroP U):=by rw [← hb];exact pblk_new hU
 have HUb : Hid (Below W1.heap.size W1 U∧Below w.heap.size w U):=⟨HU3.out.trans ((alloc_low hU).mono HU3.out.size),HWU3.out.trans ((alloc_low hU).mono HWU3.out.size)⟩
 have HSB : Hid (W1.heap.size≤b∧w.heap.size≤b∧U.heap.size=b + 1):=⟨by rw [← hb];exact HU3.out.size,by rw [← hb];exact HWU3.out.size,by rw [← hU,← hb];simp⟩
 clear HU3 HWU3
 go_wp2_with fail
 clear hU hb
 go_loopw [28] (fun i wr=>∃ (k : Nat) (p : Pk),k≤n∧i = .int .i64 k∧Hid (PBlk 34 b (b + 1) p wr)∧Hid (Below b U wr∧b + 1≤wr.heap.size)∧Hid (readR k p (l.drop k)=R)) (fun i _=>n - (intOf i).toNat)
 case atStart=>exact ⟨0,zeroP,Nat.zero_le _,rfl,HPB,⟨Below.refl _ _,Nat.le_of_eq HSB.out.2.2.symm⟩,by show readR _ _ (l.drop 0)=R;rw [List.drop_zero,HR3.out]⟩
 case round =>
  obtain ⟨k,p,hk,rfl,HP,HBW,HE⟩:=hrel
  have HWW : Hid (Below w.heap.size w wr):=HUb.out.2.trans (HBW.out.1.mono HSB.out.2.1)
  have HL2:=HL.out
  by_cases hlt : k < n
  ·have HLT:=Lib.hid hlt
   have hlr : k < l.length:=by rw [HN.out];exact hlt
   obtain ⟨ad,rfl,_,q0,q1,q2⟩:=Sz.field_at (Rg.row_below HR0.out HWW.out) k hlr
   have hvv:=HV.out _ (List.getElem_mem hlr)
   have he:=HE.out
   rw [List.drop_eq_getElem_cons hlr] at he
   obtain ⟨f,hf⟩ : ∃ f,l[k]=f:=⟨_,rfl⟩
   rw [hf] at hvv he q0 q1 q2
   obtain ⟨fk,fv,fl⟩:=f
   dsimp only at hvv q0 q1 q2
   obtain ⟨V,hV⟩ : ∃ V,wr.alloc (.cells #[.string ⟨fk.toArray⟩,.string ⟨fv.toArray⟩,.int .i64 fl] 82)=V:=⟨_,rfl⟩
   have HVB : Hid (Below wr.heap.size wr V):=alloc_low hV
   have HPV:=Lib.hid (pblk_below HP.out HVB.out)
   have HBV : Hid (Below b U V∧b + 1≤V.heap.size):=⟨HBW.out.1.trans (HVB.out.mono (Nat.le_trans (Nat.le_succ _) HBW.out.2)),Nat.le_trans HBW.out.2 HVB.out.size⟩
   obtain ⟨v0,v1,v2,_⟩:=Sz.tri_cells (Sz.tri_new hV)
   have HT:=Lib.hid (pkgTake_any b (b + 1) fk fv k p V (kOk_below HK.out (HWW.out.trans (HVB.out.mono HWW.out.size))) HPV.out (Nat.lt_succ_self b) HBV.out.2 hvv)
   obtain ⟨E,hE⟩ : ∃ E,takeR p fk fv=E:=⟨_,rfl⟩
   rw [hE] at HT
   cases E with
   | error e =>
    have HF : Hid (R = .error ((k : Int),e)):=by show _=_;rw [← he];exact readR_error hE
    clear he hf hvv hE
    go_wp2_with fail
    refine HT.out.mono ?_
    rintro r u5 ⟨hb5,rfl⟩
    have HU5 : Hid (Below w.heap.size w u5):=HUb.out.2.trans ((HBV.out.1.trans hb5).mono HSB.out.2.1)
    clear hb5
    go_wp2_with fail
    exact ⟨rfl,HU5.out,by rw [HF.out]⟩
   | ok q =>
    have HE2 : Hid (readR (k + 1) q (l.drop (k + 1))=R):=by show _=_;rw [← he];exact (readR_ok (f:=⟨fk,fv,fl⟩) hE).symm
    clear he hf hvv hE
    go_wp2_with fail
    refine HT.out.mono ?_
    rintro r u5 ⟨hb5,rfl,hp5⟩
    have HP5:=Lib.hid hp5
    have HB5 : Hid (Below b U u5∧b + 1≤u5.heap.size):=⟨HBV.out.1.trans hb5,Nat.le_trans HBV.out.2 hb5.size⟩
    clear hb5 hp5 HT HP HPV HBW HBV hV v0 v1 v2 q0 q1 q2
    go_wp2_with fail
    go_roundw
    case rel=>exact ⟨k + 1,q,(by have:=HLT.out;omega),by go_num,HP5,HB5,HE2⟩
    case measure=>have:=HLT.out;simp [intOf];omega
  ·obtain rfl : k=n:=by omega
   have HF : Hid (R = .ok p):=by show _=_;rw [← HE.out,List.drop_eq_nil_of_le (by rw [HN.out];exact Nat.le_refl _)];rfl
   obtain ⟨D,dc,C,cc,G,gc,h1,h2⟩:=HP.out
   obtain ⟨g0,g1,g2,g3,g4,g5⟩:=six_cells h1
   have HPR:=Lib.hid h2
   have HZR : Hid (wr.heap[w.heap.size]? = some (.cells zeroC 34 (0,0))):=HZ.out _ (HUb.out.1.trans (HBW.out.1.mono HSB.out.1))
   obtain ⟨k0,k1,k2,k3,k4,k5⟩:=six_cells HZR.out
   have z0:=six_free HZR.out 0
   have z1:=six_free HZR.out 1
   have z2:=six_free HZR.out 2
   have z3:=six_free HZR.out 3
   have z4:=six_free HZR.out 4
   have z5:=six_free HZR.out 5
   clear h1 h2
   go_wp2_with fail
   (try simp only [Exit.inBlock,Exit.then])
   refine bodyPost_ret (res_read HZR.out p D C G dc cc gc rfl) rfl ?_
   refine ⟨stP_below HWW.out (Nat.le_refl _) p D C G dc cc gc,?_⟩
   rw [HF.out]
   exact ⟨D,dc,C,cc,G,gc,rfl,pRows_mono (pRows_but HPR.out (stP_but wr w.heap.size p D C G dc cc gc) (Nat.lt_succ_of_le HSB.out.2.1) (zero_nob HZR.out)) (Nat.le_succ_of_le HSB.out.2.1)⟩
end Go.Proofs.YtkplahkkmmoppaaGreatDoor
namespace Go.Proofs.YtkplahkkmmoppaaGreatDoor
open Go.RowKit Rs At Pg
attribute [local go_sem ↓] Go.wp_at_zero Go.wp_at_succ
attribute [local go_sem] Pg.run_store_float
theorem pFrom_placed (p q : Addr) (x y k n : Int) (w : World) (hc : ∀ u,Below w.heap.size w u → u.cell? p=some (.int .i64 x)) (hz : ∀ u,Below w.heap.size w u → u.frozen? p=false) (hc2 : ∀ u,Below w.heap.size w u → (u.setCell p (.int .i64 k)).cell? q=some (.int .i64 y)) (hz2 : ∀ u,Below w.heap.size w u → (u.setCell p (.int .i64 k)).frozen? q=false) :
  CallsD Tryz.prog 59 #[.pointer (some p),.pointer (some q)] (.panicking [{ v:=.iface 164 (.agg #[.int .i64 k,.int .i64 n]),recovered:=false }]) w fun e u' w' =>
   e = .returned (.tuple #[])∧u' = .panicking [{ v:=.iface 164 (.agg #[.int .i64 k,.int .i64 n]),recovered:=true }]∧∃ u,Below w.heap.size w u∧w'=(u.setCell p (.int .i64 k)).setCell q (.int .i64 n):=by
 refine callsD_of_wpS Tryz.func59 rfl fun c₀ cs hu=>?_
 apply wpS_region
 simp [wpOpsS,go_sem,recoverD,hu,Tryz.ntmps59]
 refine (raisedAt_placed k n _).mono ?_
 rintro e w' ⟨rfl,hb⟩
 simp [go_sem,hc _ hb,hz _ hb,hc2 _ hb,hz2 _ hb,bodyPostS,results,Tryz.results59]
 exact ⟨w',hb,rfl⟩
theorem pFrom_idle (p q : Addr) (x y : Int) (w : World) (hc : w.cell? p=some (.int .i64 x)) (hz : w.frozen? p=false) (hc2 : (w.setCell p (.int .i64 0)).cell? q=some (.int .i64 y)) (hz2 : (w.setCell p (.int .i64 0)).frozen? q=false) :
  CallsD Tryz.prog 59 #[.pointer (some p),.pointer (some q)] .returning w fun e u' w'=>e = .returned (.tuple #[])∧u' = .returning∧w'=(w.setCell p (.int .i64 0)).setCell q (.int .i64 0):=by
 refine callsD_of_wpS Tryz.func59 rfl fun c₀ cs hu=>?_
 apply wpS_region
 simp [wpOpsS,go_sem,recoverD,hu,Tryz.ntmps59]
 refine (raisedAt_nil _).mono ?_
 rintro e w' ⟨rfl,rfl⟩
 cases c₀
 simp_all [go_sem,bodyPostS,results,Tryz.results59]
def Pg.FromRet (w : World) (X : Int × Int × Pk) (e : Ending) (w' : World) : Prop:=Below w.heap.size w w'∧∃ D dc C cc G gc,e = .returned (.tuple #[.agg (pCells X.2.2 D C G dc cc gc),.int .i64 X.2.1,.int .i64 X.1])∧PRows w.heap.size w' X.2.2 D C G
def Pg.P3 (b : Nat) (u : World) : Prop:=u.heap[b]? = some (.cells zeroC 34 (0,0))∧Sz.P2 (b + 1) u
theorem Pg.p3_of {w W0 W1 W2 u : World} (h0 : w.alloc (.cells zeroC 34)=W0) (h1 : W0.alloc (.cells #[.int .i64 0] 3)=W1) (h2 : W1.alloc (.cells #[.int .i64 0] 36)=W2) (hb : Below W2.heap.size W2 u) : P3 w.heap.size u:=by
 have hs0 : W0.heap.size=w.heap.size + 1:=by rw [← h0];simp
 have hs1 : W1.heap.size=w.heap.size + 2:=by rw [← h1];simp [hs0]
 have hs2 : W2.heap.size=w.heap.size + 3:=by rw [← h2];simp [hs1]
 refine ⟨?_,by rw [← hs0];exact Sz.p2_of h1 h2 hb⟩
 rw [hb.block _ (by omega),(alloc_low h2).block _ (by omega),(alloc_low h1).block _ (by omega),← h0]
 exact heap_alloc_new w _
theorem Pg.p3_far {u : World} {b j k : Nat} {x : Value} (h : u.heap[b]? = some (.cells zeroC 34 (0,0))) (hne : k ≠ b) : (u.setCell ⟨k,j,none⟩ x).heap[b]? = some (.cells zeroC 34 (0,0)) :=
 (Below.heap_setCell u ⟨k,j,none⟩ x b (fun e=>hne e.symm)).trans h
theorem Pg.p2_kept {u v : World} {b : Nat} (h : Sz.P2 b u) (h1 : v.heap[b]? = u.heap[b]?) (h2 : v.heap[b + 1]? = u.heap[b + 1]?) : Sz.P2 b v:=⟨h1.trans h.1,h2.trans h.2⟩
theorem Pg.stP_far (u : World) (b k : Nat) (p : Pk) (D C G : Option Addr) (dc cc gc : Nat) (hk : k < u.heap.size) (hne : k ≠ b) : (stP u b p D C G dc cc gc).heap[k]? = u.heap[k]? :=
 (stP_but u b p D C G dc cc gc).2 k hk (fun e=>hne (Option.some.inj e).symm)
theorem Pg.int_nob {u : World} {b : Nat} {x : Int} {T : TypeId} (h : u.heap[b]? = some (.cells #[.int .i64 x] T (0,0))) : ∀ j y,u.cell? ⟨b,j,none⟩=some y → NoB y:=fun j y hy z e=>by
 subst e
 have:=Sz.cell_of_ints h rfl hy
 cases this
theorem Pg.two_far {u : World} {b c : Nat} {cs : Array Value} {T : TypeId} {x y : Value} (h : u.heap[b]? = some (.cells cs T (0,0))) (h1 : c ≠ b) (h2 : c + 1 ≠ b) : ((u.setCell ⟨c,0,none⟩ x).setCell ⟨c + 1,0,none⟩ y).heap[b]? = some (.cells cs T (0,0)) :=
 (Below.heap_setCell _ ⟨c + 1,0,none⟩ y b (fun e=>h2 e.symm)).trans ((Below.heap_setCell u ⟨c,0,none⟩ x b (fun e=>h1 e.symm)).trans h)
theorem Pg.rows_two {B b : Nat} {u : World} {p : Pk} {D C G : Option Addr} {x y : Int} (h : PRows B u p D C G) (h2 : Sz.P2 b u) (hlt : b + 1 < B) : PRows B ((u.setCell ⟨b,0,none⟩ (.int .i64 x)).setCell ⟨b + 1,0,none⟩ (.int .i64 y)) p D C G:=by
 have r1:=pRows_but h (but_set u ⟨b,0,none⟩ (.int .i64 x)) (Nat.lt_of_succ_lt hlt) (int_nob h2.1)
 have e2 : (u.setCell ⟨b,0,none⟩ (.int .i64 x)).heap[b + 1]? = some (.cells #[.int .i64 0] 36 (0,0)):=(Below.heap_setCell u ⟨b,0,none⟩ _ (b + 1) (by show b + 1 ≠ b;omega)).trans h2.2
 exact pRows_but r1 (but_set _ ⟨b + 1,0,none⟩ (.int .i64 y)) hlt (int_nob e2)
theorem pkgFrom_any (A : Option Addr) (n c : Nat) (l : List Sz.Fld) (w : World) (hk : KOk w) (hn : l.length=n) (hr : Rg.Row Sz.encF 3 w A l) (hl : n≤1000) (hs : Sz.Short l) (hv : ∀ f ∈ l,f.val.length≤1000) :
  Calls Tryz.prog 17 #[.slice A n c] w (Pg.FromRet w (fromP l)):=by
 have hmf : ∀ (fn : Fn) (first cap : Array Value) (w : World),(Instr.makeFunc fn first cap).run Tryz.prog w = .ok (.func fn first cap) w:=fun _ _ _ _=>rfl
 obtain ⟨X,hX⟩ : ∃ X,fromP l=X:=⟨_,rfl⟩
 rw [hX]
 unfold fromP at hX
 obtain ⟨W0,hW0⟩ : ∃ W,w.alloc (.cells zeroC 34)=W:=⟨_,rfl⟩
 obtain ⟨W1,hW1⟩ : ∃ W,W0.alloc (.cells #[.int .i64 0] 3)=W:=⟨_,rfl⟩
 obtain ⟨W2,hW2⟩ : ∃ W,W1.alloc (.cells #[.int .i64 0] 36)=W:=⟨_,rfl⟩
 have HPC : Hid (∀ u,Below W2.heap.size W2 u → P3 w.heap.size u):=fun u hb=>p3_of hW0 hW1 hW2 hb
 have hs0 : W0.heap.size=w.heap.size + 1:=by rw [← hW0];simp
 have hs1 : W1.heap.size=w.heap.size + 1 + 1:=by rw [← hW1];simp [hs0]
 have hs2 : W2.heap.size=w.heap.size + 3:=by rw [← hW2];simp [hs1]
 have HSZ2:=Lib.hid hs2
 have HBW : Hid (Below w.heap.size w W2):=(alloc_low hW0).trans (((alloc_low hW1).trans ((alloc_low hW2).mono (alloc_low hW1).size)).mono (alloc_low hW0).size)
 have HRD:=Lib.hid (pkgRead_any A n c l W2 (kOk_below hk HBW.out) hn (Rg.row_below hr HBW.out) hl hs hv)
 obtain ⟨R,hR⟩ : ∃ R,readP l=R:=⟨_,rfl⟩
 rw [hR] at HRD hX
 clear hk hn hr hl hs hv hR hs2
 go_enter_defers Tryz.func17,Tryz.ntmps17
 go_wp2_with fail
 clear hW0 hW1 hW2
 refine HRD.out.mono ?_
 rintro e z1 ⟨hb,hr⟩
 have HB:=Lib.hid hb
 clear hb HRD
 cases R with
 | ok p =>
  obtain ⟨D,dc,C,cc,G,gc,rfl,hrows⟩ : ∃ D dc C cc G gc,e = .returned (.agg (pCells p D C G dc cc gc))∧PRows W2.heap.size z1 p D C G:=hr
  have HX : Hid (X=(0,0,p)):=hX.symm
  have h3:=HPC.out _ HB.out
  have HSZ : Hid (w.heap.size + 3≤z1.heap.size):=by have:=HB.out.size;rw [HSZ2.out] at this;exact this
  have HP2 : Hid (Sz.P2 (w.heap.size + 1) (stP z1 w.heap.size p D C G dc cc gc)):=p2_kept h3.2 (stP_far _ _ _ _ _ _ _ _ _ _ (by have:=HSZ.out;omega) (by omega)) (stP_far _ _ _ _ _ _ _ _ _ _ (by have:=HSZ.out;omega) (by omega))
  obtain ⟨k0,k1,k2,k3,k4,k5⟩:=six_cells h3.1
  have z0:=six_free h3.1 0
  have z1':=six_free h3.1 1
  have z2:=six_free h3.1 2
  have z3:=six_free h3.1 3
  have z4:=six_free h3.1 4
  have z5:=six_free h3.1 5
  have HZ0:=Lib.hid h3.1
  have HRW:=Lib.hid hrows
  have HS : Hid (PRows w.heap.size (stP z1 w.heap.size p D C G dc cc gc) p D C G):=pRows_mono (pRows_but hrows (stP_but z1 w.heap.size p D C G dc cc gc) (by rw [HSZ2.out];omega) (zero_nob h3.1)) (by rw [HSZ2.out];omega)
  have HSW : Hid (PRows W2.heap.size (stP z1 w.heap.size p D C G dc cc gc) p D C G):=pRows_but hrows (stP_but z1 w.heap.size p D C G dc cc gc) (by rw [HSZ2.out];omega) (zero_nob h3.1)
  have HBS : Hid (Below w.heap.size w (stP z1 w.heap.size p D C G dc cc gc)):=stP_below (HBW.out.trans (HB.out.mono HBW.out.size)) (Nat.le_refl _) p D C G dc cc gc
  have HHS:=Lib.hid (stP_heap h3.1 p D C G dc cc gc)
  obtain ⟨V,hV⟩ : ∃ V,stP z1 w.heap.size p D C G dc cc gc=V:=⟨_,rfl⟩
  rw [hV] at HP2 HS HSW HBS HHS
  obtain ⟨c0,f0,c1,f1⟩:=Sz.p2_cells HP2.out
  obtain ⟨d0,g0,d1,g1⟩:=Sz.p2_after HP2.out (.int .i64 0)
  have HP22:=Lib.hid (Sz.p2_again HP2.out)
  unfold stP at hV
  clear h3 hrows hX
  go_wp2_with fail
  have HV2 : Hid (((V.setCell ⟨w.heap.size + 1,0,none⟩ (.int .i64 0)).setCell ⟨w.heap.size + 1 + 1,0,none⟩ (.int .i64 0)).heap[w.heap.size]? = some (.cells (pCells p D C G dc cc gc) 34 (0,0))):=two_far (c:=w.heap.size + 1) HHS.out (by omega) (by omega)
  have HR2:=Lib.hid (rows_two (x:=0) (y:=0) HSW.out HP2.out (show w.heap.size + 1 + 1 < W2.heap.size by rw [HSZ2.out];omega))
  have HB2 : Hid (Below w.heap.size w ((V.setCell ⟨w.heap.size + 1,0,none⟩ (.int .i64 0)).setCell ⟨w.heap.size + 1 + 1,0,none⟩ (.int .i64 0))):=(HBS.out.setCell (by show w.heap.size≤w.heap.size + 1;omega) _).setCell (by show w.heap.size≤w.heap.size + 1 + 1;omega) _
  generalize (V.setCell ⟨w.heap.size + 1,0,none⟩ (.int .i64 0)).setCell ⟨w.heap.size + 1 + 1,0,none⟩ (.int .i64 0)=V2 at *
  obtain ⟨k0,m0,k1,m1⟩:=Sz.p2_cells HP22.out
  obtain ⟨l0,o0,l1,o1⟩:=Sz.p2_after HP22.out (.int .i64 0)
  obtain ⟨q0,q1⟩:=Sz.p2_both HP22.out (.int .i64 0) (.int .i64 0)
  have HV4:=Lib.hid (two_far (c:=w.heap.size + 1) (x:=.int .i64 0) (y:=.int .i64 0) HV2.out (by omega) (by omega))
  have HR4:=Lib.hid (rows_two (x:=0) (y:=0) HR2.out HP22.out (show w.heap.size + 1 + 1 < W2.heap.size by rw [HSZ2.out];omega))
  obtain ⟨s0,s1,s2,s3,s4,s5⟩:=six_cells HV4.out
  refine leaves_cons (f:=59) (args:=#[.pointer (some ⟨w.heap.size + 1,0,none⟩),.pointer (some ⟨w.heap.size + 1 + 1,0,none⟩)]) (by simp) (by simp [go_sem]) ?_
  refine (pFrom_idle ⟨w.heap.size + 1,0,none⟩ ⟨w.heap.size + 1 + 1,0,none⟩ 0 0 _ k0 m0 l1 o1).mono ?_
  rintro e u' w3 ⟨rfl,rfl,rfl⟩
  simp [Leaves,settle,results,Tryz.results17,go_sem,q0,q1,s0,s1,s2,s3,s4,s5]
  rw [HX.out]
  exact ⟨(HB2.out.setCell (by show w.heap.size≤w.heap.size + 1;omega) _).setCell (by show w.heap.size≤w.heap.size + 1 + 1;omega) _,D,dc,C,cc,G,gc,rfl,pRows_mono HR4.out (by rw [HSZ2.out];omega)⟩
 | error x =>
  obtain ⟨i0,k⟩:=x
  obtain rfl : e=panAt i0 k:=hr
  have HX : Hid (X=(k,i0,zeroP)):=hX.symm
  clear hX
  go_wp2_with fail
  refine leaves_cons (f:=59) (args:=#[.pointer (some ⟨w.heap.size + 1,0,none⟩),.pointer (some ⟨w.heap.size + 1 + 1,0,none⟩)]) (by simp) (by simp [go_sem]) ?_
  refine (pFrom_placed ⟨w.heap.size + 1,0,none⟩ ⟨w.heap.size + 1 + 1,0,none⟩ 0 0 i0 k _ (fun u hb=>(Sz.p2_cells (HPC.out _ (HB.out.trans (hb.mono HB.out.size))).2).1) (fun u hb=>(Sz.p2_cells (HPC.out _ (HB.out.trans (hb.mono HB.out.size))).2).2.1) (fun u hb=>(Sz.p2_after (HPC.out _ (HB.out.trans (hb.mono HB.out.size))).2 _).2.2.1) (fun u hb=>(Sz.p2_after (HPC.out _ (HB.out.trans (hb.mono HB.out.size))).2 _).2.2.2)).mono ?_
  rintro e u' w3 ⟨rfl,rfl,u,hb,rfl⟩
  have HBU:=Lib.hid (HB.out.trans (hb.mono HB.out.size))
  obtain ⟨q0,q1⟩:=Sz.p2_both (HPC.out _ HBU.out).2 (.int .i64 i0) (.int .i64 k)
  obtain ⟨k0,k1,k2,k3,k4,k5⟩:=six_cells (p3_far (j:=0) (x:=.int .i64 k) (p3_far (j:=0) (x:=.int .i64 i0) (HPC.out _ HBU.out).1 (show w.heap.size + 1 ≠ w.heap.size by omega)) (show w.heap.size + 1 + 1 ≠ w.heap.size by omega))
  simp [Leaves,settle,results,Tryz.results17,go_sem,q0,q1,k0,k1,k2,k3,k4,k5]
  rw [HX.out]
  exact ⟨((HBW.out.trans (HBU.out.mono HBW.out.size)).setCell (by show w.heap.size≤w.heap.size + 1;omega) _).setCell (by show w.heap.size≤w.heap.size + 1 + 1;omega) _,none,0,none,0,none,0,rfl,zero_rows _ _⟩
end Go.Proofs.YtkplahkkmmoppaaGreatDoor
