/- Part 31 of what the laws lean on. -/
import Derived.Test.YtkplahkkmmoppaaGreatDoorL30
import Derived.Test.YtkplahkkmmoppaaGreatDoorL28
set_option maxRecDepth 100000
set_option maxHeartbeats 32000000
namespace Go.Proofs.YtkplahkkmmoppaaGreatDoor
open Go.RowKit Rs At
theorem cat2 (a b : List UInt8) : (({ data:=a.toArray } : ByteArray) ++ { data:=b.toArray }) = { data:=(a ++ b).toArray }:=ByteArray.mk_append_mk ..
theorem cat2c (a : Array UInt8) (b : List UInt8) : (({ data:=a } : ByteArray) ++ { data:=b.toArray }) = { data:=(a.toList ++ b).toArray }:=by
 have h:=cat2 a.toList b
 simpa using h
theorem altT_one (c : Cond) : altT [c]=condT c:=by unfold altT;rw [List.map_cons,List.map_nil,Lib.join_one]
theorem altT_two (c d : Cond) : altT [c,d]=condT c ++ [32,38,32] ++ condT d:=by
 unfold altT
 rw [List.map_cons,List.map_cons,List.map_nil,Lib.join_cons]
 simp [Lib.joinTail]
theorem altT_nil : altT [] = []:=by unfold altT;rw [List.map_nil,Lib.join_nil]
def spanB (lo hi : List UInt8) (li hn : Bool) : List UInt8:=altT (conds ⟨lo,hi,li,hn⟩)
theorem spanB_eq {lo hi : List UInt8} (li hn : Bool) (h0 : lo.isEmpty=false) (h : (lo == hi)=true) : spanB lo hi li hn = [61,32] ++ lo:=by
 unfold spanB conds
 rw [if_pos ⟨by simpa using h,by simpa using h0⟩,altT_one];rfl
def loB (lo : List UInt8) (li : Bool) : List UInt8:=(if li then [62,61,32] else [62,32]) ++ lo
def hiB (hi : List UInt8) (hn : Bool) : List UInt8:=(if hn then [60,61,32] else [60,32]) ++ hi
theorem condT_lo (lo : List UInt8) (li : Bool) : condT (if li then [62,61] else [62],lo)=loB lo li:=by cases li <;> rfl
theorem condT_hi (hi : List UInt8) (hn : Bool) : condT (if hn then [60,61] else [60],hi)=hiB hi hn:=by cases hn <;> rfl
theorem spanB_lo {lo hi : List UInt8} (li hn : Bool) (h0 : lo.isEmpty=false) (h1 : hi.isEmpty=true) : spanB lo hi li hn=loB lo li:=by
 have a : lo ≠ []:=by simpa using h0
 have b : hi = []:=by simpa using h1
 unfold spanB conds
 subst b
 rw [if_neg (fun h=>a h.1),if_neg a,if_pos rfl,List.append_nil,altT_one,condT_lo]
theorem spanB_hi {lo hi : List UInt8} (li hn : Bool) (h0 : lo.isEmpty=true) (h1 : hi.isEmpty=false) : spanB lo hi li hn=hiB hi hn:=by
 have a : lo = []:=by simpa using h0
 have b : hi ≠ []:=by simpa using h1
 unfold spanB conds
 subst a
 rw [if_neg (fun h=>h.2 rfl),if_pos rfl,if_neg b,List.nil_append,altT_one,condT_hi]
theorem spanB_none {lo hi : List UInt8} (li hn : Bool) (h0 : lo.isEmpty=true) (h1 : hi.isEmpty=true) : spanB lo hi li hn = []:=by
 have a : lo = []:=by simpa using h0
 have b : hi = []:=by simpa using h1
 unfold spanB conds
 subst a b
 rw [if_neg (fun h=>h.2 rfl),if_pos rfl];exact altT_nil
theorem spanB_both {lo hi : List UInt8} (li hn : Bool) (h0 : lo.isEmpty=false) (h1 : hi.isEmpty=false) (h : (lo == hi)=false) : spanB lo hi li hn=loB lo li ++ [32,38,32] ++ hiB hi hn:=by
 have a : lo ≠ []:=by simpa using h0
 have b : hi ≠ []:=by simpa using h1
 have c : lo ≠ hi:=by simpa using h
 unfold spanB conds
 rw [if_neg (fun h=>c h.1),if_neg a,if_neg b,List.singleton_append,altT_two,condT_lo,condT_hi]
theorem spanText_any (lo hi : List UInt8) (li hn : Bool) (w : World) (h1 : lo.length≤1000) (h2 : hi.length≤1000) :
  Calls Tryz.prog 164 #[.agg #[.string ⟨lo.toArray⟩,.string ⟨hi.toArray⟩,.bool li,.bool hn]] w fun e w'=>e = .returned (.string ⟨(spanB lo hi li hn).toArray⟩)∧Below w.heap.size w w':=by
 obtain ⟨R,hR⟩ : ∃ R,spanB lo hi li hn=R:=⟨_,rfl⟩
 rw [hR]
 obtain ⟨c0,c1,c2,c3,_⟩:=box_new w lo hi li hn 181
 have HB : Hid (Below w.heap.size w (w.alloc (.cells #[.string ⟨lo.toArray⟩,.string ⟨hi.toArray⟩,.bool li,.bool hn] 181))):=(Below.refl _ _).alloc (Nat.le_refl _) _
 cases e1 : lo.isEmpty
 ·cases e3 : lo == hi
  ·have e4 : (hi == lo)=false:=by rw [BEq.comm];exact e3
   cases e2 : hi.isEmpty
   ·have HF:=Lib.hid ((spanB_both li hn e1 e2 e3).symm.trans hR)
    have hcat : ({ data:=(if li then [62,61,32] else [62,32]).toArray } : ByteArray) ++ { data:=lo.toArray } = { data:=(loB lo li).toArray }:=cat2 _ _
    obtain ⟨q,hq⟩ : ∃ q,loB lo li=q:=⟨_,rfl⟩
    have hqe : q.isEmpty=false:=by rw [← hq];unfold loB;cases li <;> rfl
    have hql : q.length≤1003:=by rw [← hq];unfold loB;cases li <;> simp <;> omega
    rw [hq] at hcat HF
    clear hR hq
    cases li <;> cases hn
    ·have hc1 : ({ data:=#[62,32] } : ByteArray) ++ { data:=lo.toArray } = { data:=q.toArray }:=hcat
     have hc2 : ({ data:=q.toArray } : ByteArray) ++ { data:=#[32,38,32] } = { data:=(q ++ [32,38,32]).toArray }:=cat2 q [32,38,32]
     have hc3 : ({ data:=(q ++ [32,38,32]).toArray } : ByteArray) ++ { data:=#[60,32] } = { data:=(q ++ [32,38,32] ++ [60,32]).toArray }:=cat2 _ [60,32]
     have HQ3 : Hid (q ++ [32,38,32] ++ [60,32] ++ hi=R):=by rw [List.append_assoc];exact HF.out
     obtain ⟨q2,hq2⟩ : ∃ x,q ++ [32,38,32]=x:=⟨_,rfl⟩
     have l2 : q2.length≤1006:=by rw [← hq2,List.length_append];simp;omega
     have e5 : q2.isEmpty=false:=by rw [← hq2];cases q <;> rfl
     rw [hq2] at hc2 hc3 HQ3
     obtain ⟨q3,hq3⟩ : ∃ x,q2 ++ [60,32]=x:=⟨_,rfl⟩
     have l3 : q3.length≤1009:=by rw [← hq3,List.length_append];simp;omega
     rw [hq3] at hc3 HQ3
     clear hcat hq2 hq3
     go_enter Tryz.func164,Tryz.ntmps164
     go_wp2_with fail
     go_ret
     exact ⟨by rw [← HQ3.out];exact congrArg (fun x=>Ending.returned (Value.string x)) (cat2 _ _),HB.out⟩
    ·have hc1 : ({ data:=#[62,32] } : ByteArray) ++ { data:=lo.toArray } = { data:=q.toArray }:=hcat
     have hc2 : ({ data:=q.toArray } : ByteArray) ++ { data:=#[32,38,32] } = { data:=(q ++ [32,38,32]).toArray }:=cat2 q [32,38,32]
     have hc3 : ({ data:=(q ++ [32,38,32]).toArray } : ByteArray) ++ { data:=#[60,61,32] } = { data:=(q ++ [32,38,32] ++ [60,61,32]).toArray }:=cat2 _ [60,61,32]
     have HQ3 : Hid (q ++ [32,38,32] ++ [60,61,32] ++ hi=R):=by rw [List.append_assoc];exact HF.out
     obtain ⟨q2,hq2⟩ : ∃ x,q ++ [32,38,32]=x:=⟨_,rfl⟩
     have l2 : q2.length≤1006:=by rw [← hq2,List.length_append];simp;omega
     have e5 : q2.isEmpty=false:=by rw [← hq2];cases q <;> rfl
     rw [hq2] at hc2 hc3 HQ3
     obtain ⟨q3,hq3⟩ : ∃ x,q2 ++ [60,61,32]=x:=⟨_,rfl⟩
     have l3 : q3.length≤1009:=by rw [← hq3,List.length_append];simp;omega
     rw [hq3] at hc3 HQ3
     clear hcat hq2 hq3
     go_enter Tryz.func164,Tryz.ntmps164
     go_wp2_with fail
     go_ret
     exact ⟨by rw [← HQ3.out];exact congrArg (fun x=>Ending.returned (Value.string x)) (cat2 _ _),HB.out⟩
    ·have hc1 : ({ data:=#[62,61,32] } : ByteArray) ++ { data:=lo.toArray } = { data:=q.toArray }:=hcat
     have hc0 : ({ data:=#[62,32] } : ByteArray) ++ { data:=lo.toArray } = { data:=(62 :: 32 :: lo).toArray }:=cat2 [62,32] lo
     have l0 : (62 :: 32 :: lo).length≤1002:=by simp;omega
     have hc2 : ({ data:=q.toArray } : ByteArray) ++ { data:=#[32,38,32] } = { data:=(q ++ [32,38,32]).toArray }:=cat2 q [32,38,32]
     have hc3 : ({ data:=(q ++ [32,38,32]).toArray } : ByteArray) ++ { data:=#[60,32] } = { data:=(q ++ [32,38,32] ++ [60,32]).toArray }:=cat2 _ [60,32]
     have HQ3 : Hid (q ++ [32,38,32] ++ [60,32] ++ hi=R):=by rw [List.append_assoc];exact HF.out
     obtain ⟨q2,hq2⟩ : ∃ x,q ++ [32,38,32]=x:=⟨_,rfl⟩
     have l2 : q2.length≤1006:=by rw [← hq2,List.length_append];simp;omega
     have e5 : q2.isEmpty=false:=by rw [← hq2];cases q <;> rfl
     rw [hq2] at hc2 hc3 HQ3
     obtain ⟨q3,hq3⟩ : ∃ x,q2 ++ [60,32]=x:=⟨_,rfl⟩
     have l3 : q3.length≤1009:=by rw [← hq3,List.length_append];simp;omega
     rw [hq3] at hc3 HQ3
     clear hcat hq2 hq3
     go_enter Tryz.func164,Tryz.ntmps164
     go_wp2_with fail
     go_ret
     exact ⟨by rw [← HQ3.out];exact congrArg (fun x=>Ending.returned (Value.string x)) (cat2 _ _),HB.out⟩
    ·have hc1 : ({ data:=#[62,61,32] } : ByteArray) ++ { data:=lo.toArray } = { data:=q.toArray }:=hcat
     have hc0 : ({ data:=#[62,32] } : ByteArray) ++ { data:=lo.toArray } = { data:=(62 :: 32 :: lo).toArray }:=cat2 [62,32] lo
     have l0 : (62 :: 32 :: lo).length≤1002:=by simp;omega
     have hc2 : ({ data:=q.toArray } : ByteArray) ++ { data:=#[32,38,32] } = { data:=(q ++ [32,38,32]).toArray }:=cat2 q [32,38,32]
     have hc3 : ({ data:=(q ++ [32,38,32]).toArray } : ByteArray) ++ { data:=#[60,61,32] } = { data:=(q ++ [32,38,32] ++ [60,61,32]).toArray }:=cat2 _ [60,61,32]
     have HQ3 : Hid (q ++ [32,38,32] ++ [60,61,32] ++ hi=R):=by rw [List.append_assoc];exact HF.out
     obtain ⟨q2,hq2⟩ : ∃ x,q ++ [32,38,32]=x:=⟨_,rfl⟩
     have l2 : q2.length≤1006:=by rw [← hq2,List.length_append];simp;omega
     have e5 : q2.isEmpty=false:=by rw [← hq2];cases q <;> rfl
     rw [hq2] at hc2 hc3 HQ3
     obtain ⟨q3,hq3⟩ : ∃ x,q2 ++ [60,61,32]=x:=⟨_,rfl⟩
     have l3 : q3.length≤1009:=by rw [← hq3,List.length_append];simp;omega
     rw [hq3] at hc3 HQ3
     clear hcat hq2 hq3
     go_enter Tryz.func164,Tryz.ntmps164
     go_wp2_with fail
     go_ret
     exact ⟨by rw [← HQ3.out];exact congrArg (fun x=>Ending.returned (Value.string x)) (cat2 _ _),HB.out⟩
   ·have HF:=Lib.hid ((spanB_lo (hi:=hi) li hn e1 e2).symm.trans hR)
    clear hR
    cases li
    all_goals
     go_enter Tryz.func164,Tryz.ntmps164
     go_wp2_with fail
     go_ret
     exact ⟨by rw [← HF.out];exact congrArg (fun x=>Ending.returned (Value.string x)) (cat2c _ _),HB.out⟩
  ·have HF:=Lib.hid ((spanB_eq li hn e1 e3).symm.trans hR)
   clear hR
   go_enter Tryz.func164,Tryz.ntmps164
   go_wp2_with fail
   go_ret
   exact ⟨by rw [← HF.out];exact congrArg (fun x=>Ending.returned (Value.string x)) (cat2c _ _),HB.out⟩
 ·cases e2 : hi.isEmpty
  ·have HF:=Lib.hid ((spanB_hi li hn e1 e2).symm.trans hR)
   clear hR
   cases hn
   all_goals
    go_enter Tryz.func164,Tryz.ntmps164
    go_wp2_with fail
    go_ret
    exact ⟨by rw [← HF.out];exact congrArg (fun x=>Ending.returned (Value.string x)) (cat2c _ _),HB.out⟩
  ·have HF:=Lib.hid ((spanB_none li hn e1 e2).symm.trans hR)
   clear hR
   go_enter Tryz.func164,Tryz.ntmps164
   go_wp2_with fail
   go_ret
   exact ⟨by rw [← HF.out];rfl,HB.out⟩
end Go.Proofs.YtkplahkkmmoppaaGreatDoor
namespace Go.Proofs.YtkplahkkmmoppaaGreatDoor
open Go.RowKit Rs At
attribute [local go_sem ↓] Go.wp_at_zero Go.wp_at_succ
theorem join_snoc (m x : List UInt8) : ∀ l : List (List UInt8),Lib.join (l ++ [x]) m=if l.isEmpty then x else Lib.join l m ++ m ++ x
 | []=>Lib.join_one ..
 | [a]=>by
  show Lib.join [a,x] m=Lib.join [a] m ++ m ++ x
  rw [Lib.join_cons,Lib.join_one];simp [Lib.joinTail]
 | a :: b :: r=>by
  have ih:=join_snoc m x (b :: r)
  have e : ∀ t : List (List UInt8),Lib.join (a :: b :: t) m=a ++ m ++ Lib.join (b :: t) m:=fun t=>by
   rw [Lib.join_cons,Lib.join_cons];simp [Lib.joinTail]
  show Lib.join (a :: b :: (r ++ [x])) m=Lib.join (a :: b :: r) m ++ m ++ x
  rw [e,e]
  have ih2 : Lib.join (b :: (r ++ [x])) m=Lib.join (b :: r) m ++ m ++ x:=ih
  rw [ih2];simp
theorem join_take (l : List Sp) (k : Nat) (hk : k < l.length) : Lib.join ((l.take (k + 1)).map fun s=>altT (conds s)) [32,124,32]=(if k=0 then [] else Lib.join ((l.take k).map fun s=>altT (conds s)) [32,124,32] ++ [32,124,32]) ++ altT (conds l[k]):=by
 rw [List.take_succ_eq_append_getElem hk,List.map_append]
 show Lib.join (_ ++ [altT (conds l[k])]) _=_
 rw [join_snoc]
 by_cases h0 : k=0
 ·subst h0;simp
 ·rw [if_neg h0,if_neg (by cases l with
   | nil=>simp at hk
   | cons a l=>cases k with
    | zero=>exact absurd rfl h0
    | succ k=>simp)]
theorem span_len {s : Sp} (h : s.err=0) : s.lo.length≤40∧s.hi.length≤40:=by
 obtain ⟨b1,b2,_,_⟩:=span_bounds (show span s.lo s.hi s.li s.hn=0 from h)
 constructor
 ·cases e : s.lo.isEmpty
  ·exact own_len (bound_own b1 e)
  ·have : s.lo = []:=by simpa using e
   rw [this];simp
 ·cases e : s.hi.isEmpty
  ·exact own_len (bound_own b2 e)
  ·have : s.hi = []:=by simpa using e
   rw [this];simp
theorem spanB_le {lo hi : List UInt8} (li hn : Bool) (h1 : lo.length≤40) (h2 : hi.length≤40) : (spanB lo hi li hn).length≤100:=by
 have hL : (loB lo li).length≤43:=by unfold loB;cases li <;> simp <;> omega
 have hH : (hiB hi hn).length≤43:=by unfold hiB;cases hn <;> simp <;> omega
 cases e1 : lo.isEmpty <;> cases e2 : hi.isEmpty
 ·cases e3 : lo == hi
  ·rw [spanB_both li hn e1 e2 e3];simp;omega
  ·rw [spanB_eq li hn e1 e3];simp;omega
 ·rw [spanB_lo li hn e1 e2];omega
 ·rw [spanB_hi li hn e1 e2];omega
 ·rw [spanB_none li hn e1 e2];simp
theorem refAtomText_any (name : List UInt8) (A : Option Addr) (n c : Nat) (l : List Sp) (w : World) (hw : MaxOk w) (hm : name.length≤100) (hn : l.length=n) (hr : SRow w A l) (hl : n≤64) (hk : checkR l=0) :
  Calls Tryz.prog 112 #[.agg #[.string ⟨name.toArray⟩,.slice A n c]] w fun e w'=>e = .returned (.string ⟨(textA ⟨name,l⟩).toArray⟩)∧Below w.heap.size w w':=by
 obtain ⟨R,hR⟩ : ∃ R,textA ⟨name,l⟩=R:=⟨_,rfl⟩
 rw [hR]
 obtain ⟨b,hb⟩ : ∃ b,w.heap.size=b:=⟨_,rfl⟩
 obtain ⟨W1,hW1⟩ : ∃ W,w.alloc (.cells #[.string ⟨name.toArray⟩,.slice A n c] 59)=W:=⟨_,rfl⟩
 have HX1 : Hid (Bx2 b name A n c W1):=by rw [← hW1,← hb];exact bx2_new w name A n c _
 have HW1 : Hid (Below w.heap.size w W1):=by rw [← hW1];exact (Below.refl _ _).alloc (Nat.le_refl _) _
 have hb1 : b < W1.heap.size:=by rw [← hW1,← hb];simp
 have HR1 : Hid (SRow W1 A l):=srow_below hr HW1.out
 have HN:=Lib.hid hn
 obtain ⟨sm,hsm⟩ : ∃ x,decide (l=allR.map spOf)=x:=⟨_,rfl⟩
 have HSM:=Lib.hid hsm
 have HT1 : Hid (sm=true → R=name):=fun h=>by rw [← hR];unfold textA;rw [if_pos (by rw [h] at hsm;exact of_decide_eq_true hsm)]
 have HT0 : Hid (sm=false → R=name ++ 32 :: 40 :: (termT (termOf l) ++ [41])):=fun h=>by rw [← hR];unfold textA;rw [if_neg (by rw [h] at hsm;exact of_decide_eq_false hsm)]
 have HSL : Hid (∀ s ∈ l,s.lo.length≤40∧s.hi.length≤40):=fun s hs=>span_len ((check_spans hk).2.2 s hs)
 obtain ⟨k0,k1⟩:=HX1.out
 have HMX : Hid (MaxOk W1):=maxOk_below hw HW1.out
 have HB1:=Lib.hid hb1
 clear hr hn hR hk hsm hw
 go_enter Tryz.func112,Tryz.ntmps112
 go_wp2_with fail
 clear hb hW1
 have HS1 : Hid (St W1 W1.drew [⟨A,n,l⟩]):=⟨HMX.out,(Below.refl _ _).drew,fun x hx=>by rw [List.mem_singleton.1 hx];exact ⟨srow_below HR1.out (Below.refl _ _).drew,HN.out⟩⟩
 go_region_held3 (fun w'=>w'.cell? ⟨b,0,none⟩=some (.string ⟨name.toArray⟩)∧w'.cell? ⟨b,1,none⟩=some (.slice A n c))
  (first
   | exact bx2_below HX1.out hb1 HS1.out.2.1
   | exact bx2_below HX1.out hb1 HS2.out.2.1
   | exact bx2_below HX1.out hb1 HS3.out.2.1)
  (first
   | (go_at_call 78;refine (s_refAll HS1.out).mono ?_;rintro _ u2 ⟨C,m2,d,rfl,hs⟩;have HS2:=Lib.hid hs;have hm2 : m2=1:=(st_row hs 0 rfl).2.symm;have HM2:=Lib.hid hm2;clear hs hm2)
   | (go_at_call 77;refine (s_sameRange HS2.out 1 0 rfl rfl (by omega) (by rw [HM2.out];decide) _ _ sm HSM.out).mono ?_;rintro _ u3 ⟨rfl,hs⟩;have HS3:=Lib.hid hs;clear hs))
 have HS4 : Hid (St W1 u3 [⟨A,n,l⟩]):=st_front HS3.out
 have HX4:=Lib.hid (bx2_below HX1.out hb1 HS4.out.2.1)
 clear k0 k1 HS2 HS3 HM2
 obtain ⟨k0,k1⟩:=HX4.out
 cases sm
 ·have HT:=Lib.hid (HT0.out rfl)
  clear HT0 HT1
  by_cases h0 : n=0
  ·have HTE : Hid (name ++ [32,40,110,111,110,101,41]=R):=by
    show _=_
    rw [HT.out]
    have : l = []:=List.length_eq_zero_iff.1 (by rw [HN.out];exact h0)
    rw [this];rfl
   subst h0
   go_wp2_with fail
   go_ret
   exact ⟨by rw [← HTE.out];exact congrArg (fun x=>Ending.returned (Value.string x)) (cat2 name [32,40,110,111,110,101,41]),HW1.out.trans (HS4.out.2.1.mono HW1.out.size)⟩
  ·have hn0 : ((n : Int) == 0)=false:=by simpa using h0
   have HTJ : Hid (name ++ [32,40] ++ Lib.join (l.map fun s=>altT (conds s)) [32,124,32] ++ [41]=R):=by
    show _=_
    rw [HT.out]
    unfold termT At.termOf
    rw [if_neg (by rw [List.map_eq_nil_iff];intro e;exact h0 (by rw [← HN.out,e];rfl)),List.map_map]
    simp;rfl
   clear h0 HT
   go_wp2_with fail
   go_loopw [3,4] (fun v i wr=>∃ (k : Nat) (q : List UInt8),k≤n∧i = .int .i64 k∧v = .string ⟨q.toArray⟩∧q.length≤k * 200∧Hid (Lib.join ((l.take k).map fun s=>altT (conds s)) [32,124,32]=q)∧Hid (Below u3.heap.size u3 wr)) (fun _ i _=>n - (intOf i).toNat)
   case atStart=>exact ⟨0,[],Nat.zero_le _,rfl,rfl,Nat.zero_le _,rfl,Below.refl _ _⟩
   case round =>
    obtain ⟨k,q,hk,rfl,rfl,hq,HQ,HB⟩:=hrel
    have hbu : b < u3.heap.size:=Nat.lt_of_lt_of_le hb1 HS4.out.2.1.size
    obtain ⟨j0,j1⟩:=bx2_below HX4.out hbu HB.out
    clear k0 k1
    by_cases hlt : k < n
    ·have hlr : k < l.length:=by rw [HN.out];exact hlt
     obtain ⟨ad,lo,hi,li,hh,rfl,hs,_,c0,c1,c2,c3⟩:=srow_at (srow_below (st_row HS4.out 0 rfl).1 HB.out) k hlr
     obtain ⟨l1,l2⟩:=HSL.out _ (List.getElem_mem hlr)
     have hjt:=join_take l k hlr
     rw [hs] at l1 l2 hjt
     dsimp only at l1 l2
     have hsl : (spanB lo hi li hh).length≤100:=spanB_le li hh l1 l2
     have hjt2 : Lib.join ((l.take (k + 1)).map fun s=>altT (conds s)) [32,124,32]=(if k=0 then [] else Lib.join ((l.take k).map fun s=>altT (conds s)) [32,124,32] ++ [32,124,32]) ++ spanB lo hi li hh:=hjt
     rw [HQ.out] at hjt2
     have HJ:=Lib.hid hjt2
     have HST:=Lib.hid (spanText_any lo hi li hh)
     obtain ⟨x,hx⟩ : ∃ x,spanB lo hi li hh=x:=⟨_,rfl⟩
     rw [hx] at hsl HJ HST
     have HLL : Hid (lo.length≤1000∧hi.length≤1000):=⟨by omega,by omega⟩
     clear hs hjt hjt2 hx l1 l2
     by_cases h0 : k=0
     ·have hk0 : ¬ 0 < k:=by omega
      have hq0 : q = []:=List.length_eq_zero_iff.1 (by rw [h0] at hq;omega)
      subst hq0
      have HJ2 : Hid (Lib.join ((l.take (k + 1)).map fun s=>altT (conds s)) [32,124,32]=x):=by have h:=HJ.out;rw [if_pos h0] at h;exact h
      have hc1 : ({ data:=#[] } : ByteArray) ++ { data:=x.toArray } = { data:=x.toArray }:=cat2 [] x
      clear h0 HJ
      go_wp2_with fail
      refine (HST.out _ HLL.out.1 HLL.out.2).mono ?_
      rintro _ u5 ⟨rfl,hb5⟩
      have HB5:=Lib.hid (HB.out.trans (hb5.mono HB.out.size))
      clear hb5 c0 c1 c2 c3
      go_wp2_with fail
      go_roundw
      case rel=>exact ⟨k + 1,x,by omega,by go_num,by simp,by omega,HJ2,HB5⟩
      case measure=>simp [intOf];omega
     ·have hk0 : (0 : Int) < (k : Int):=by omega
      have HJ2 : Hid (Lib.join ((l.take (k + 1)).map fun s=>altT (conds s)) [32,124,32]=q ++ [32,124,32] ++ x):=by have h:=HJ.out;rw [if_neg h0] at h;exact h
      have hc2 : ({ data:=q.toArray } : ByteArray) ++ { data:=#[32,124,32] } = { data:=(q ++ [32,124,32]).toArray }:=cat2 q [32,124,32]
      have hc3 : ({ data:=(q ++ [32,124,32]).toArray } : ByteArray) ++ { data:=x.toArray } = { data:=(q ++ [32,124,32] ++ x).toArray }:=cat2 _ x
      obtain ⟨q2,hq2⟩ : ∃ x,q ++ [32,124,32]=x:=⟨_,rfl⟩
      have hl2 : q2.length≤k * 200 + 3:=by rw [← hq2,List.length_append];simp;omega
      rw [hq2] at hc2 hc3 HJ2
      clear hq2 h0 HJ
      go_wp2_with fail
      refine (HST.out _ HLL.out.1 HLL.out.2).mono ?_
      rintro _ u5 ⟨rfl,hb5⟩
      have HB5:=Lib.hid (HB.out.trans (hb5.mono HB.out.size))
      clear hb5 c0 c1 c2 c3
      go_wp2_with fail
      go_roundw
      case rel=>exact ⟨k + 1,q2 ++ x,by omega,by go_num,rfl,by rw [List.length_append];omega,HJ2,HB5⟩
      case measure=>simp [intOf];omega
    ·obtain rfl : k=n:=by omega
     have HTF : Hid (name ++ [32,40] ++ q ++ [41]=R):=by
      show _=_
      rw [← HTJ.out,← HQ.out,List.take_of_length_le (by rw [HN.out];exact Nat.le_refl _)]
     have hc2 : ({ data:=name.toArray } : ByteArray) ++ { data:=#[32,40] } = { data:=(name ++ [32,40]).toArray }:=cat2 name [32,40]
     have hc3 : ({ data:=(name ++ [32,40]).toArray } : ByteArray) ++ { data:=q.toArray } = { data:=(name ++ [32,40] ++ q).toArray }:=cat2 _ q
     obtain ⟨q2,hq2⟩ : ∃ x,name ++ [32,40]=x:=⟨_,rfl⟩
     have hl2 : q2.length≤102:=by rw [← hq2,List.length_append];simp;omega
     rw [hq2] at hc2 hc3 HTF
     obtain ⟨q3,hq3⟩ : ∃ x,q2 ++ q=x:=⟨_,rfl⟩
     have hl3 : q3.length≤102 + k * 200:=by rw [← hq3,List.length_append];omega
     rw [hq3] at hc3 HTF
     clear hq2 hq3
     go_wp2_with fail
     go_ret
     exact ⟨by rw [← HTF.out];exact congrArg (fun x=>Ending.returned (Value.string x)) (cat2 q3 [41]),HW1.out.trans ((HS4.out.2.1.trans (HB.out.mono HS4.out.2.1.size)).mono HW1.out.size)⟩
 ·have HT:=Lib.hid (HT1.out rfl)
  clear HT0 HT1
  go_wp2_with fail
  go_ret
  rw [HT.out]
  exact ⟨rfl,HW1.out.trans (HS4.out.2.1.mono HW1.out.size)⟩
end Go.Proofs.YtkplahkkmmoppaaGreatDoor
namespace Go.Proofs.YtkplahkkmmoppaaGreatDoor
open Go.RowKit Rs At Pg
namespace Pg
theorem join_snoc (sep x : List UInt8) : ∀ l : List (List UInt8),l ≠ [] → Lib.join (l ++ [x]) sep=Lib.join l sep ++ sep ++ x
 | [],h=>absurd rfl h
 | y :: r,_=>by
  show Lib.join (y :: (r ++ [x])) sep=_
  rw [Lib.join_cons,Lib.join_cons]
  simp [Lib.joinTail]
theorem join_take {α : Type} (f : α → List UInt8) (l : List α) (sep : List UInt8) (k : Nat) (hk : k < l.length) : Lib.join ((l.take (k + 1)).map f) sep=(if k=0 then [] else Lib.join ((l.take k).map f) sep ++ sep) ++ f l[k]:=by
 rw [List.take_succ_eq_append_getElem hk,List.map_append]
 by_cases h0 : k=0
 ·subst h0
  rw [if_pos rfl]
  show Lib.join ([] ++ [f l[0]]) sep = [] ++ f l[0]
  rw [List.nil_append,Lib.join_one,List.nil_append]
 ·rw [if_neg h0]
  refine join_snoc sep _ _ fun e=>h0 ?_
  have:=congrArg List.length e
  rw [List.length_map,List.length_take,List.length_nil] at this
  omega
end Pg
attribute [local go_sem ↓] Go.wp_at_zero Go.wp_at_succ
theorem refList_any (sep : List UInt8) (hsep : sep.length≤10) (A : Option Addr) (n c : Nat) (l : List Atm) (w : World) (hw : MaxOk w) (hn : l.length=n) (hr : ARow w A l) (hl : n≤1000) (hg : ∀ a ∈ l,checkA a=0) :
  Calls Tryz.prog 62 #[.slice A n c,.string ⟨sep.toArray⟩] w fun e w'=>e = .returned (.string ⟨(Lib.join (l.map textA) sep).toArray⟩)∧Below w.heap.size w w':=by
 obtain ⟨R,hR⟩ : ∃ R,Lib.join (l.map textA) sep=R:=⟨_,rfl⟩
 rw [hR]
 have HX:=Lib.hid hR
 have HR:=Lib.hid hr
 have HN:=Lib.hid hn
 have HG:=Lib.hid hg
 have HM:=Lib.hid hw
 clear hr hn hg hw hR
 go_enter Tryz.func62,Tryz.ntmps62
 go_wp2_with fail
 go_loopw [5,6] (fun v i wr=>∃ (k : Nat) (q : List UInt8),k≤n∧i = .int .i64 k∧v = .string ⟨q.toArray⟩∧q.length≤k * 1010∧Hid (Lib.join ((l.take k).map textA) sep=q)∧Hid (Below w.heap.size w wr)) (fun _ i _=>n - (intOf i).toNat)
 case atStart=>exact ⟨0,[],Nat.zero_le _,rfl,rfl,Nat.zero_le _,rfl,Below.refl _ _⟩
 case round =>
  obtain ⟨k,q,hk,rfl,rfl,hq,HQ,HB⟩:=hrel
  by_cases hlt : k < n
  ·have hlr : k < l.length:=by rw [HN.out];exact hlt
   obtain ⟨ad,C,m,d,rfl,hm,hs,hc⟩:=arow_at HR.out k hlr
   obtain ⟨c0,c1⟩:=hc _ HB.out
   have hjt:=Pg.join_take textA l sep k hlr
   have hca:=HG.out _ (List.getElem_mem hlr)
   obtain ⟨a,ha⟩ : ∃ a,l[k]=a:=⟨_,rfl⟩
   rw [ha] at hm hs c0 hjt hca
   rw [HQ.out] at hjt
   have hlen:=text_le hca
   obtain ⟨p1,p2,p3⟩:=check_parts hca
   obtain ⟨nm,r⟩:=a
   dsimp only at hm hs c0 p1 p2
   have HT:=Lib.hid (refAtomText_any nm C m d r wr (maxOk_below HM.out HB.out) (Nat.le_trans (name_len p1) (by decide)) hm (srow_below hs HB.out) (by rw [← hm];exact good_n p2) p2)
   obtain ⟨x,hx⟩ : ∃ x,textA ⟨nm,r⟩=x:=⟨_,rfl⟩
   rw [hx] at HT hjt hlen
   have HJ:=Lib.hid hjt
   clear hc ha hm hs hca p1 p2 p3 hx hjt
   by_cases h0 : k=0
   ·have hk0 : ¬ 0 < k:=by omega
    have hq0 : q = []:=List.length_eq_zero_iff.1 (by rw [h0] at hq;omega)
    subst hq0
    have HJ2 : Hid (Lib.join ((l.take (k + 1)).map textA) sep=x):=by have h:=HJ.out;rw [if_pos h0] at h;exact h
    have hc1 : ({ data:=#[] } : ByteArray) ++ { data:=x.toArray } = { data:=x.toArray }:=cat2 [] x
    clear h0 HJ
    go_wp2_with fail
    refine HT.out.mono ?_
    rintro _ u5 ⟨rfl,hb5⟩
    have HB5:=Lib.hid (HB.out.trans (hb5.mono HB.out.size))
    clear hb5 c0 c1
    go_wp2_with fail
    go_roundw
    case rel=>exact ⟨k + 1,x,by omega,by go_num,rfl,by omega,HJ2,HB5⟩
    case measure=>simp [intOf];omega
   ·have hk0 : (0 : Int) < (k : Int):=by omega
    have HJ2 : Hid (Lib.join ((l.take (k + 1)).map textA) sep=q ++ sep ++ x):=by have h:=HJ.out;rw [if_neg h0] at h;exact h
    have hc2 : ({ data:=q.toArray } : ByteArray) ++ { data:=sep.toArray } = { data:=(q ++ sep).toArray }:=cat2 q sep
    have hc3 : ({ data:=(q ++ sep).toArray } : ByteArray) ++ { data:=x.toArray } = { data:=(q ++ sep ++ x).toArray }:=cat2 _ x
    obtain ⟨q2,hq2⟩ : ∃ x,q ++ sep=x:=⟨_,rfl⟩
    have hl2 : q2.length≤k * 1010 + 10:=by rw [← hq2,List.length_append];omega
    rw [hq2] at hc2 hc3 HJ2
    clear hq2 h0 HJ
    go_wp2_with fail
    refine HT.out.mono ?_
    rintro _ u5 ⟨rfl,hb5⟩
    have HB5:=Lib.hid (HB.out.trans (hb5.mono HB.out.size))
    clear hb5 c0 c1
    go_wp2_with fail
    go_roundw
    case rel=>exact ⟨k + 1,q2 ++ x,by omega,by go_num,rfl,by rw [List.length_append];omega,HJ2,HB5⟩
    case measure=>simp [intOf];omega
  ·obtain rfl : k=n:=by omega
   have HTF : Hid (q=R):=by
    show _=_
    rw [← HX.out,← HQ.out,List.take_of_length_le (by rw [HN.out];exact Nat.le_refl _)]
   go_wp2_with fail
   go_ret
   exact ⟨by rw [HTF.out];rfl,HB.out⟩
theorem refDepText_any (A : Option Addr) (n c : Nat) (l : List Atm) (w : World) (hw : MaxOk w) (hn : l.length=n) (hr : ARow w A l) (hl : n≤1000) (hg : ∀ a ∈ l,checkA a=0) :
  Calls Tryz.prog 33 #[.slice A n c] w fun e w'=>e = .returned (.string ⟨(depT l).toArray⟩)∧Below w.heap.size w w':=by
 have HT : Hid (Calls Tryz.prog 62 #[.slice A n c,.string ⟨#[32,111,114,32]⟩] w fun e w'=>e = .returned (.string ⟨(depT l).toArray⟩)∧Below w.heap.size w w'):=refList_any [32,111,114,32] (by decide) A n c l w hw hn hr hl hg
 clear hw hn hr hl hg
 go_enter Tryz.func33,Tryz.ntmps33
 go_wp2_with fail
 refine HT.out.mono ?_
 rintro _ u ⟨rfl,hb⟩
 have HU:=Lib.hid hb
 clear hb
 go_wp2_with fail
 go_ret
 exact ⟨rfl,HU.out⟩
end Go.Proofs.YtkplahkkmmoppaaGreatDoor
namespace Go.Proofs.YtkplahkkmmoppaaGreatDoor
open Go.RowKit Rs At Pg
attribute [local go_sem ↓] Go.wp_at_zero Go.wp_at_succ
attribute [local go_sem] Pg.run_store_float
theorem lawPkgDeps_any (p : Pk) (D C G : Option Addr) (dn dc cn cc gn gc : Nat) (w : World) (hk : KOk w) (hd : Pg.DRow w D p.deps) (hdn : p.deps.length=dn) (hc : ARow w C p.confl) (hcn : p.confl.length=cn) (hg : GRow w G p.prov) (hgn : p.prov.length=gn) (hf : PWide p) :
  Calls Tryz.prog 8 #[.agg #[.string ⟨p.name.toArray⟩,.string ⟨p.ver.toArray⟩,.slice D dn dc,.slice C cn cc,.slice G gn gc,.float .f64 p.wt]] w fun e w'=>e = .returned (.bool true)∧Below w.heap.size w w':=by
 obtain ⟨W2,hW2⟩ : ∃ W,w.alloc (.cells #[.string ⟨p.name.toArray⟩,.string ⟨p.ver.toArray⟩,.slice D dn dc,.slice C cn cc,.slice G gn gc,.float .f64 p.wt] 27)=W:=⟨_,rfl⟩
 have HB : Hid (Below w.heap.size w W2):=alloc_low hW2
 have HTR : Hid (∀ u,Below W2.heap.size W2 u → Below w.heap.size w u):=fun u h=>HB.out.trans (h.mono HB.out.size)
 have HK : Hid (∀ u,Below W2.heap.size W2 u → KOk u):=fun u h=>kOk_below hk (HTR.out u h)
 have HDR : Hid (∀ u,Below W2.heap.size W2 u → Pg.DRow u D p.deps∧ARow u C p.confl∧GRow u G p.prov):=fun u h=>⟨drowD_below hd (HTR.out u h),arow_below hc (HTR.out u h),Rg.row_below hg (HTR.out u h)⟩
 obtain ⟨b,hb⟩ : ∃ b,w.heap.size=b:=⟨_,rfl⟩
 obtain ⟨nm,hnm⟩ : ∃ x,p.name=x:=⟨_,rfl⟩
 obtain ⟨vr,hvr⟩ : ∃ x,p.ver=x:=⟨_,rfl⟩
 obtain ⟨wt,hwt⟩ : ∃ x,p.wt=x:=⟨_,rfl⟩
 have HC6 : Hid (∀ u,Below W2.heap.size W2 u → u.cell? ⟨b,0,none⟩=some (.string ⟨nm.toArray⟩)∧u.cell? ⟨b,1,none⟩=some (.string ⟨vr.toArray⟩)∧u.cell? ⟨b,2,none⟩=some (.slice D dn dc)∧u.cell? ⟨b,3,none⟩=some (.slice C cn cc)∧u.cell? ⟨b,4,none⟩=some (.slice G gn gc)∧u.cell? ⟨b,5,none⟩=some (.float .f64 wt)):=fun u h=>by
  rw [← hb,← hnm,← hvr,← hwt]
  exact cell_six hW2 h
 have HFW:=Lib.hid hf
 have HNM:=Lib.hid hnm
 have HVR:=Lib.hid hvr
 have HWT:=Lib.hid hwt
 have HDN:=Lib.hid hdn
 have HCN:=Lib.hid hcn
 have HGN:=Lib.hid hgn
 have HFP : Hid (∀ u,Below W2.heap.size W2 u → Calls Tryz.prog 10 #[.agg #[.string ⟨nm.toArray⟩,.string ⟨vr.toArray⟩,.slice D dn dc,.slice C cn cc,.slice G gn gc,.float .f64 wt]] u fun e w'=>e = .returned (.bool (fewP p))∧Below u.heap.size u w'):=fun u h=>by
  rw [← hnm,← hvr,← hwt]
  exact few6_any p D C G dn dc cn cc gn gc u (HK.out u h).1 (HDR.out u h).1 hdn (HDR.out u h).2.1 hcn (HDR.out u h).2.2 hgn hf
 have HCK : Hid (PFew p → ∀ u,Below W2.heap.size W2 u → Calls Tryz.prog 13 #[.agg #[.string ⟨nm.toArray⟩,.string ⟨vr.toArray⟩,.slice D dn dc,.slice C cn cc,.slice G gn gc,.float .f64 wt]] u fun e w'=>e = .returned (.int .i64 (checkP p))∧Below u.heap.size u w'):=fun hp u h=>by
  rw [← hnm,← hvr,← hwt]
  exact refCheckPkg_any p D C G dn dc cn cc gn gc u (HK.out u h).1 (HDR.out u h).1 hdn (HDR.out u h).2.1 hcn (HDR.out u h).2.2 hgn hp
 have HTO : Hid (PSmall p → ∀ u,Below W2.heap.size W2 u → Calls Tryz.prog 11 #[.agg #[.string ⟨nm.toArray⟩,.string ⟨vr.toArray⟩,.slice D dn dc,.slice C cn cc,.slice G gn gc,.float .f64 wt]] u fun e w'=>∃ D' dc' C' cc' G' gc',e = .returned (.agg #[.string ⟨nm.toArray⟩,.string ⟨vr.toArray⟩,.slice D' dn dc',.slice C' cn cc',.slice G' gn gc',.float .f64 wt])∧Pg.DRow w' D' p.deps∧ARow w' C' p.confl∧GRow w' G' p.prov∧Below u.heap.size u w'):=fun hp u h=>by
  rw [← hnm,← hvr,← hwt]
  exact to6_any p D C G dn dc cn cc gn gc u (HDR.out u h).1 hdn (HDR.out u h).2.1 hcn (HDR.out u h).2.2 hgn hp
 obtain ⟨fp,hfp⟩ : ∃ x,fewP p=x:=⟨_,rfl⟩
 obtain ⟨K,hK⟩ : ∃ x,checkP p=x:=⟨_,rfl⟩
 rw [hfp] at HFP
 rw [hK] at HCK
 have HFP0:=Lib.hid hfp
 have HK0:=Lib.hid hK
 rw [hnm,hvr,hwt] at hW2 ⊢
 clear hk hd hdn hc hcn hg hgn hf hfp hK hnm hvr hwt
 obtain ⟨c0,c1,c2,c3,c4,c5⟩:=HC6.out _ (Below.refl _ _)
 go_enter Tryz.func8,Tryz.ntmps8
 go_wp2_with fail
 clear hW2 hb c0 c1 c2 c3 c4 c5
 refine (known6_any _ (HK.out _ (Below.refl _ _))).mono ?_
 rintro _ u1 ⟨rfl,hb⟩
 have HU1:=Lib.hid hb
 clear hb
 obtain ⟨c0,c1,c2,c3,c4,c5⟩:=HC6.out _ HU1.out
 go_wp2_with fail
 refine (HFP.out _ HU1.out).mono ?_
 rintro _ u2 ⟨rfl,hb⟩
 have HU2:=Lib.hid (HU1.out.trans (hb.mono HU1.out.size))
 clear hb c0 c1 c2 c3 c4 c5
 obtain ⟨c0,c1,c2,c3,c4,c5⟩:=HC6.out _ HU2.out
 cases fp
 ·go_wp2_with fail
  go_ret
  exact ⟨rfl,HTR.out _ HU2.out⟩
 have HPF:=Lib.hid (fewP_all HFP0.out HFW.out.2.2.2.2.2.2.2.2)
 go_wp2_with fail
 refine (HCK.out HPF.out.1 _ HU2.out).mono ?_
 rintro _ u3 ⟨rfl,hb⟩
 have HU3:=Lib.hid (HU2.out.trans (hb.mono HU2.out.size))
 clear hb c0 c1 c2 c3 c4 c5
 obtain ⟨c0,c1,c2,c3,c4,c5⟩:=HC6.out _ HU3.out
 by_cases k0 : K=0
 case neg =>
  go_wp2_with fail
  go_ret
  exact ⟨rfl,HTR.out _ HU3.out⟩
 subst k0
 have HDE : Hid (∀ d ∈ p.deps,d.length≤8∧atomsE d=0):=fun d hd=>⟨(depsE_all (checkP_all HK0.out).2.2.2.1 d hd).2.1,(depsE_all (checkP_all HK0.out).2.2.2.1 d hd).2.2⟩
 go_wp2_with fail
 refine (HTO.out HPF.out.2 _ HU3.out).mono ?_
 rintro _ u5 ⟨D',dc',C',cc',G',gc',rfl,hd,hc,hg,hb⟩
 have HU5:=Lib.hid (HU3.out.trans (hb.mono HU3.out.size))
 have HD5:=Lib.hid hd
 clear hd hc hg hb c0 c1 c2 c3 c4 c5
 obtain ⟨bx,hbx⟩ : ∃ b,u5.heap.size=b:=⟨_,rfl⟩
 obtain ⟨V5,hV5⟩ : ∃ W,u5.alloc (.cells #[.string ⟨nm.toArray⟩,.string ⟨vr.toArray⟩,.slice D' dn dc',.slice C' cn cc',.slice G' gn gc',.float .f64 wt] 34)=W:=⟨_,rfl⟩
 have hbl5 : Below u5.heap.size u5 V5:=alloc_low hV5
 have HV5 : Hid (Below W2.heap.size W2 V5):=HU5.out.trans (hbl5.mono HU5.out.size)
 have HD6 : Hid (Pg.DRow V5 D' p.deps):=drowD_below HD5.out hbl5
 have HX5 : Hid (∀ u,Below V5.heap.size V5 u → u.cell? ⟨bx,2,none⟩=some (.slice D' dn dc')):=fun u h=>by
  rw [← hbx]
  exact (cell_six hV5 h).2.2.1
 have HW5 : Hid (∀ u,Below V5.heap.size V5 u → Below W2.heap.size W2 u):=fun u h=>HV5.out.trans (h.mono HV5.out.size)
 clear hbl5 HD5
 have hd16 : dn≤16:=by rw [← HDN.out];exact (checkP_all HK0.out).2.2.1
 have hx2:=HX5.out _ (Below.refl _ _)
 go_wp2_with fail
 clear hV5 hbx hx2
 go_loopw [4] (fun i wr=>∃ k : Nat,k≤dn∧i = .int .i64 k∧Hid (Below V5.heap.size V5 wr)) (fun i _=>dn - (intOf i).toNat)
 case atStart=>exact ⟨0,Nat.zero_le _,rfl,Below.refl _ _⟩
 case round =>
  obtain ⟨k,hk,rfl,HW⟩:=hrel
  have hx2:=HX5.out _ HW.out
  by_cases hlt : k < dn
  ·have hkr : k < p.deps.length:=by rw [HDN.out];exact hlt
   obtain ⟨ad,C1,m,d1,rfl,hm,hs,hc⟩:=drowD_at HD6.out k hkr
   obtain ⟨ae,C2,m2,d2,rfl,hm2,hs2,hc2⟩:=drowD_at (HDR.out _ (Below.refl _ _)).1 k hkr
   obtain ⟨hd8,hde⟩:=HDE.out _ (List.getElem_mem hkr)
   obtain ⟨l,hl⟩ : ∃ l,p.deps[k]=l:=⟨_,rfl⟩
   rw [hl] at hm hs hm2 hs2 hd8 hde
   obtain rfl : m=m2:=by omega
   have HCA : Hid (∀ u,Below V5.heap.size V5 u → u.cell? (ad.add k)=some (.slice C1 m d1)):=hc
   have HCE : Hid (∀ u,Below V5.heap.size V5 u → u.cell? (ae.add k)=some (.slice C2 m d2)):=fun u h=>hc2 _ (HW5.out u h)
   have HC : Hid (∀ u,Below V5.heap.size V5 u → u.cell? ⟨b,2,none⟩=some (.slice (some ae) dn dc)):=fun u h=>(HC6.out _ (HW5.out u h)).2.2.1
   have HLM:=Lib.hid hm
   have HS1 : Hid (∀ u,Below V5.heap.size V5 u → ARow u C1 l):=fun u h=>arow_below hs h
   have HS2 : Hid (∀ u,Below V5.heap.size V5 u → ARow u C2 l):=fun u h=>arow_below hs2 (HW5.out u h)
   have HA:=Lib.hid (atomsE_all hde)
   have HTX:=Lib.hid (atxt_of hde)
   have HTL:=Lib.hid (depT_le hde hd8)
   have hm8 : m≤8:=by omega
   have HMX : Hid (∀ u,Below V5.heap.size V5 u → MaxOk u):=fun u h=>(HK.out _ (HW5.out u h)).1
   clear hc hc2 hm hs hm2 hs2 hd8 hde hl
   have ha1:=HCA.out _ HW.out
   go_wp2_with fail
   clear hx2 ha1
   go_loopw [5,6] (fun v i ws=>∃ (j : Nat) (q : List UInt8),j≤m∧i = .int .i64 j∧v = .string ⟨q.toArray⟩∧q.length≤j * 1010∧Hid (Lib.join ((l.take j).map textA) [32,111,114,32]=q)∧Hid (Below V5.heap.size V5 ws)) (fun _ i _=>m - (intOf i).toNat)
   case atStart=>exact ⟨0,[],Nat.zero_le _,rfl,rfl,Nat.zero_le _,rfl,HW.out⟩
   case round =>
    obtain ⟨j,q,hj,rfl,rfl,hq,HQ,HZ⟩:=hrel
    have hx2:=HX5.out _ HZ.out
    have ha1:=HCA.out _ HZ.out
    by_cases hjt : j < m
    ·have hlr : j < l.length:=by rw [HLM.out];exact hjt
     obtain ⟨aa,C3,m3,d3,rfl,hm,hs,hc⟩:=arow_at (HS1.out _ (Below.refl _ _)) j hlr
     obtain ⟨q0,q1⟩:=hc _ HZ.out
     have hjn:=Pg.join_take textA l [32,111,114,32] j hlr
     have hca:=HA.out _ (List.getElem_mem hlr)
     obtain ⟨a,ha⟩ : ∃ a,l[j]=a:=⟨_,rfl⟩
     rw [ha] at hm hs q0 hjn hca
     rw [HQ.out] at hjn
     have hlen:=text_le hca
     obtain ⟨p1,p2,p3⟩:=check_parts hca
     obtain ⟨an,r⟩:=a
     dsimp only at hm hs q0 p1 p2
     have HT:=Lib.hid (atomText_any an C3 m3 d3 r wr (HMX.out _ HZ.out) (Nat.le_trans (name_len p1) (by decide)) hm (srow_below hs HZ.out) (by rw [← hm];exact good_n p2) p2)
     obtain ⟨x,hx⟩ : ∃ x,textA ⟨an,r⟩=x:=⟨_,rfl⟩
     rw [hx] at HT hjn hlen
     have HJ:=Lib.hid hjn
     clear hc ha hm hs hca p1 p2 p3 hx hjn
     by_cases h0 : j=0
     ·have hk0 : ¬ 0 < j:=by omega
      have hq0 : q = []:=List.length_eq_zero_iff.1 (by rw [h0] at hq;omega)
      subst hq0
      have HJ2 : Hid (Lib.join ((l.take (j + 1)).map textA) [32,111,114,32]=x):=by have h:=HJ.out;rw [if_pos h0] at h;exact h
      have hc1 : ({ data:=#[] } : ByteArray) ++ { data:=x.toArray } = { data:=x.toArray }:=cat2 [] x
      clear h0 HJ
      go_wp2_with fail
      refine HT.out.mono ?_
      rintro _ u6 ⟨rfl,hb5⟩
      have HB5:=Lib.hid (HZ.out.trans (hb5.mono HZ.out.size))
      clear hb5 q0 q1 hx2 ha1
      go_wp2_with fail
      go_roundw
      case rel=>exact ⟨j + 1,x,by omega,by go_num,rfl,by omega,HJ2,HB5⟩
      case measure=>simp [intOf];omega
     ·have hk0 : (0 : Int) < (j : Int):=by omega
      have HJ2 : Hid (Lib.join ((l.take (j + 1)).map textA) [32,111,114,32]=q ++ [32,111,114,32] ++ x):=by have h:=HJ.out;rw [if_neg h0] at h;exact h
      have hc2 : ({ data:=q.toArray } : ByteArray) ++ { data:=#[32,111,114,32] } = { data:=(q ++ [32,111,114,32]).toArray }:=cat2 q [32,111,114,32]
      have hc3 : ({ data:=(q ++ [32,111,114,32]).toArray } : ByteArray) ++ { data:=x.toArray } = { data:=(q ++ [32,111,114,32] ++ x).toArray }:=cat2 _ x
      obtain ⟨q2,hq2⟩ : ∃ x,q ++ [32,111,114,32]=x:=⟨_,rfl⟩
      have hl2 : q2.length≤j * 1010 + 4:=by rw [← hq2,List.length_append];simp;omega
      rw [hq2] at hc2 hc3 HJ2
      clear hq2 h0 HJ
      go_wp2_with fail
      refine HT.out.mono ?_
      rintro _ u6 ⟨rfl,hb5⟩
      have HB5:=Lib.hid (HZ.out.trans (hb5.mono HZ.out.size))
      clear hb5 q0 q1 hx2 ha1
      go_wp2_with fail
      go_roundw
      case rel=>exact ⟨j + 1,q2 ++ x,by omega,by go_num,rfl,by rw [List.length_append];omega,HJ2,HB5⟩
      case measure=>simp [intOf];omega
    ·obtain rfl : j=m:=by omega
     have HTF : Hid (depT l=q):=by
      show _=_
      rw [← HQ.out,List.take_of_length_le (by rw [HLM.out];exact Nat.le_refl _)];rfl
     have HD1:=Lib.hid (depText_any C1 j d1 l wr (HMX.out _ HZ.out) HLM.out (HS1.out _ HZ.out) (by omega) HTX.out (Nat.le_trans HTL.out (by decide)))
     rw [HTF.out] at HD1
     have e1 : (q != q)=false:=by simp
     go_wp2_with fail
     refine HD1.out.mono ?_
     rintro _ u7 ⟨rfl,hb5⟩
     have HB7:=Lib.hid (HZ.out.trans (hb5.mono HZ.out.size))
     clear hb5 hx2 ha1 HD1
     have HD2:=Lib.hid (refDepText_any C2 j d2 l u7 (HMX.out _ HB7.out) HLM.out (HS2.out _ HB7.out) (by omega) HA.out)
     rw [HTF.out] at HD2
     have hp2:=HC.out _ HB7.out
     have he1:=HCE.out _ HB7.out
     go_wp2_with fail
     refine HD2.out.mono ?_
     rintro _ u8 ⟨rfl,hb5⟩
     have HB8:=Lib.hid (HB7.out.trans (hb5.mono HB7.out.size))
     clear hb5 hp2 he1 HD2
     go_wp2_with fail
     go_roundw
     case rel=>exact ⟨k + 1,by omega,by go_num,HB8⟩
     case measure=>simp [intOf];omega
  ·obtain rfl : k=dn:=by omega
   go_wp2_with fail
   go_ret
   exact ⟨rfl,HTR.out _ (HW5.out _ HW.out)⟩
end Go.Proofs.YtkplahkkmmoppaaGreatDoor
