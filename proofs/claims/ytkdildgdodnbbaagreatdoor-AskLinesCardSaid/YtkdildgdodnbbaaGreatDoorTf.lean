/- The reference's text of a span, walked. The reference's text of an atom, walked. The reference's Cut and signs, walked. What the reference's ParseAtom reads, plain: its ways through one text. The reference's ParseAtom, walked. -/
import Derived.Test.YtkdildgdodnbbaaGreatDoorTe
import Derived.Deep.DeepCutAuto
import Derived.Laws.ResultCell
namespace Go.Proofs.YtkdildgdodnbbaaGreatDoor
open Go.RowKit Rs At
theorem cat2 (a b : List UInt8) : (({ data := a.toArray } : ByteArray) ++ { data := b.toArray }) = { data := (a ++ b).toArray } := ByteArray.mk_append_mk ..
theorem cat2c (a : Array UInt8) (b : List UInt8) : (({ data := a } : ByteArray) ++ { data := b.toArray }) = { data := (a.toList ++ b).toArray } := by
  have h := cat2 a.toList b
  simpa using h
theorem cat3b (a : List UInt8) (b c d : Array UInt8) : (({ data := a.toArray } : ByteArray) ++ { data := b } ++ { data := c } ++ { data := d }) = { data := (a ++ b.toList ++ c.toList ++ d.toList).toArray } := by
  have h := cat3 (a ++ b.toList) c.toList d.toList
  rw [← cat2] at h
  simpa using h
theorem altT_one (c : Cond) : altT [c] = condT c := by unfold altT; rw [List.map_cons, List.map_nil, Lib.join_one]
theorem altT_two (c d : Cond) : altT [c, d] = condT c ++ [32, 38, 32] ++ condT d := by
  unfold altT
  rw [List.map_cons, List.map_cons, List.map_nil, Lib.join_cons]
  simp [Lib.joinTail]
theorem altT_nil : altT [] = [] := by unfold altT; rw [List.map_nil, Lib.join_nil]
/-- The text of one span. -/
def spanB (lo hi : List UInt8) (li hn : Bool) : List UInt8 := altT (conds ⟨lo, hi, li, hn⟩)
theorem spanB_eq {lo hi : List UInt8} (li hn : Bool) (h0 : lo.isEmpty = false) (h : (lo == hi) = true) : spanB lo hi li hn = [61, 32] ++ lo := by
  unfold spanB conds
  rw [if_pos ⟨by simpa using h, by simpa using h0⟩, altT_one]; rfl
def loB (lo : List UInt8) (li : Bool) : List UInt8 := (if li then [62, 61, 32] else [62, 32]) ++ lo
def hiB (hi : List UInt8) (hn : Bool) : List UInt8 := (if hn then [60, 61, 32] else [60, 32]) ++ hi
theorem condT_lo (lo : List UInt8) (li : Bool) : condT (if li then [62, 61] else [62], lo) = loB lo li := by cases li <;> rfl
theorem condT_hi (hi : List UInt8) (hn : Bool) : condT (if hn then [60, 61] else [60], hi) = hiB hi hn := by cases hn <;> rfl
theorem spanB_lo {lo hi : List UInt8} (li hn : Bool) (h0 : lo.isEmpty = false) (h1 : hi.isEmpty = true) : spanB lo hi li hn = loB lo li := by
  have a : lo ≠ [] := by simpa using h0
  have b : hi = [] := by simpa using h1
  unfold spanB conds
  subst b
  rw [if_neg (fun h => a h.1), if_neg a, if_pos rfl, List.append_nil, altT_one, condT_lo]
theorem spanB_hi {lo hi : List UInt8} (li hn : Bool) (h0 : lo.isEmpty = true) (h1 : hi.isEmpty = false) : spanB lo hi li hn = hiB hi hn := by
  have a : lo = [] := by simpa using h0
  have b : hi ≠ [] := by simpa using h1
  unfold spanB conds
  subst a
  rw [if_neg (fun h => h.2 rfl), if_pos rfl, if_neg b, List.nil_append, altT_one, condT_hi]
theorem spanB_none {lo hi : List UInt8} (li hn : Bool) (h0 : lo.isEmpty = true) (h1 : hi.isEmpty = true) : spanB lo hi li hn = [] := by
  have a : lo = [] := by simpa using h0
  have b : hi = [] := by simpa using h1
  unfold spanB conds
  subst a b
  rw [if_neg (fun h => h.2 rfl), if_pos rfl]; exact altT_nil
theorem spanB_both {lo hi : List UInt8} (li hn : Bool) (h0 : lo.isEmpty = false) (h1 : hi.isEmpty = false) (h : (lo == hi) = false) : spanB lo hi li hn = loB lo li ++ [32, 38, 32] ++ hiB hi hn := by
  have a : lo ≠ [] := by simpa using h0
  have b : hi ≠ [] := by simpa using h1
  have c : lo ≠ hi := by simpa using h
  unfold spanB conds
  rw [if_neg (fun h => c h.1), if_neg a, if_neg b, List.singleton_append, altT_two, condT_lo, condT_hi]
theorem add_run (a b : List UInt8) (h : a.length + b.length ≤ 1000000) : ∀ W : World, (Op.stringOp .add ⟨a.toArray⟩ ⟨b.toArray⟩).run Tryz.prog W = .ok (.string ⟨(a ++ b).toArray⟩) W := fun W => by
  rw [← cat2]
  exact run_string_add_sum W _ _ (by show a.toArray.size + b.toArray.size ≤ _; rw [List.size_toArray, List.size_toArray]; omega)
set_option maxRecDepth 100000 in
set_option maxHeartbeats 1600000 in
theorem spanText_any (lo hi : List UInt8) (li hn : Bool) (w : World) (h1 : lo.length ≤ 1000) (h2 : hi.length ≤ 1000) :
    Calls Tryz.prog 82 #[.agg #[.string ⟨lo.toArray⟩, .string ⟨hi.toArray⟩, .bool li, .bool hn]] w fun e w' => e = .returned (.string ⟨(spanB lo hi li hn).toArray⟩) ∧ Below w.heap.size w w' := by
  obtain ⟨R, hR⟩ : ∃ R, spanB lo hi li hn = R := ⟨_, rfl⟩
  rw [hR]
  obtain ⟨c0, c1, c2, c3, _⟩ := box_new w lo hi li hn 90
  have HB : Hid (Below w.heap.size w (w.alloc (.cells #[.string ⟨lo.toArray⟩, .string ⟨hi.toArray⟩, .bool li, .bool hn] 90))) := (Below.refl _ _).alloc (Nat.le_refl _) _
  cases e1 : lo.isEmpty
  · cases e3 : lo == hi
    · have e4 : (hi == lo) = false := by rw [BEq.comm]; exact e3
      cases e2 : hi.isEmpty
      · have HF := Lib.hid ((spanB_both li hn e1 e2 e3).symm.trans hR)
        have hcat : ({ data := (if li then [62, 61, 32] else [62, 32]).toArray } : ByteArray) ++ { data := lo.toArray } = { data := (loB lo li).toArray } := cat2 _ _
        obtain ⟨q, hq⟩ : ∃ q, loB lo li = q := ⟨_, rfl⟩
        have hqe : q.isEmpty = false := by rw [← hq]; unfold loB; cases li <;> rfl
        have hql : q.length ≤ 1003 := by rw [← hq]; unfold loB; cases li <;> simp <;> omega
        rw [hq] at hcat HF
        clear hR hq
        cases li <;> cases hn
        · have hc1 : ({ data := #[62, 32] } : ByteArray) ++ { data := lo.toArray } = { data := q.toArray } := hcat
          have hc2 : ({ data := q.toArray } : ByteArray) ++ { data := #[32, 38, 32] } = { data := (q ++ [32, 38, 32]).toArray } := cat2 q [32, 38, 32]
          have hc3 : ({ data := (q ++ [32, 38, 32]).toArray } : ByteArray) ++ { data := #[60, 32] } = { data := (q ++ [32, 38, 32] ++ [60, 32]).toArray } := cat2 _ [60, 32]
          have HQ3 : Hid (q ++ [32, 38, 32] ++ [60, 32] ++ hi = R) := by rw [List.append_assoc]; exact HF.out
          obtain ⟨q2, hq2⟩ : ∃ x, q ++ [32, 38, 32] = x := ⟨_, rfl⟩
          have l2 : q2.length ≤ 1006 := by rw [← hq2, List.length_append]; simp; omega
          have e5 : q2.isEmpty = false := by rw [← hq2]; cases q <;> rfl
          rw [hq2] at hc2 hc3 HQ3
          obtain ⟨q3, hq3⟩ : ∃ x, q2 ++ [60, 32] = x := ⟨_, rfl⟩
          have l3 : q3.length ≤ 1009 := by rw [← hq3, List.length_append]; simp; omega
          rw [hq3] at hc3 HQ3
          clear hcat hq2 hq3
          go_enter Tryz.func82, Tryz.ntmps82
          go_wp2_with fail
          go_ret
          exact ⟨by rw [← HQ3.out]; exact congrArg (fun x => Ending.returned (Value.string x)) (cat2 _ _), HB.out⟩
        · have hc1 : ({ data := #[62, 32] } : ByteArray) ++ { data := lo.toArray } = { data := q.toArray } := hcat
          have hc2 : ({ data := q.toArray } : ByteArray) ++ { data := #[32, 38, 32] } = { data := (q ++ [32, 38, 32]).toArray } := cat2 q [32, 38, 32]
          have hc3 : ({ data := (q ++ [32, 38, 32]).toArray } : ByteArray) ++ { data := #[60, 61, 32] } = { data := (q ++ [32, 38, 32] ++ [60, 61, 32]).toArray } := cat2 _ [60, 61, 32]
          have HQ3 : Hid (q ++ [32, 38, 32] ++ [60, 61, 32] ++ hi = R) := by rw [List.append_assoc]; exact HF.out
          obtain ⟨q2, hq2⟩ : ∃ x, q ++ [32, 38, 32] = x := ⟨_, rfl⟩
          have l2 : q2.length ≤ 1006 := by rw [← hq2, List.length_append]; simp; omega
          have e5 : q2.isEmpty = false := by rw [← hq2]; cases q <;> rfl
          rw [hq2] at hc2 hc3 HQ3
          obtain ⟨q3, hq3⟩ : ∃ x, q2 ++ [60, 61, 32] = x := ⟨_, rfl⟩
          have l3 : q3.length ≤ 1009 := by rw [← hq3, List.length_append]; simp; omega
          rw [hq3] at hc3 HQ3
          clear hcat hq2 hq3
          go_enter Tryz.func82, Tryz.ntmps82
          go_wp2_with fail
          go_ret
          exact ⟨by rw [← HQ3.out]; exact congrArg (fun x => Ending.returned (Value.string x)) (cat2 _ _), HB.out⟩
        · have hc1 : ({ data := #[62, 61, 32] } : ByteArray) ++ { data := lo.toArray } = { data := q.toArray } := hcat
          have hc0 : ({ data := #[62, 32] } : ByteArray) ++ { data := lo.toArray } = { data := (62 :: 32 :: lo).toArray } := cat2 [62, 32] lo
          have l0 : (62 :: 32 :: lo).length ≤ 1002 := by simp; omega
          have hc2 : ({ data := q.toArray } : ByteArray) ++ { data := #[32, 38, 32] } = { data := (q ++ [32, 38, 32]).toArray } := cat2 q [32, 38, 32]
          have hc3 : ({ data := (q ++ [32, 38, 32]).toArray } : ByteArray) ++ { data := #[60, 32] } = { data := (q ++ [32, 38, 32] ++ [60, 32]).toArray } := cat2 _ [60, 32]
          have HQ3 : Hid (q ++ [32, 38, 32] ++ [60, 32] ++ hi = R) := by rw [List.append_assoc]; exact HF.out
          obtain ⟨q2, hq2⟩ : ∃ x, q ++ [32, 38, 32] = x := ⟨_, rfl⟩
          have l2 : q2.length ≤ 1006 := by rw [← hq2, List.length_append]; simp; omega
          have e5 : q2.isEmpty = false := by rw [← hq2]; cases q <;> rfl
          rw [hq2] at hc2 hc3 HQ3
          obtain ⟨q3, hq3⟩ : ∃ x, q2 ++ [60, 32] = x := ⟨_, rfl⟩
          have l3 : q3.length ≤ 1009 := by rw [← hq3, List.length_append]; simp; omega
          rw [hq3] at hc3 HQ3
          clear hcat hq2 hq3
          go_enter Tryz.func82, Tryz.ntmps82
          go_wp2_with fail
          go_ret
          exact ⟨by rw [← HQ3.out]; exact congrArg (fun x => Ending.returned (Value.string x)) (cat2 _ _), HB.out⟩
        · have hc1 : ({ data := #[62, 61, 32] } : ByteArray) ++ { data := lo.toArray } = { data := q.toArray } := hcat
          have hc0 : ({ data := #[62, 32] } : ByteArray) ++ { data := lo.toArray } = { data := (62 :: 32 :: lo).toArray } := cat2 [62, 32] lo
          have l0 : (62 :: 32 :: lo).length ≤ 1002 := by simp; omega
          have hc2 : ({ data := q.toArray } : ByteArray) ++ { data := #[32, 38, 32] } = { data := (q ++ [32, 38, 32]).toArray } := cat2 q [32, 38, 32]
          have hc3 : ({ data := (q ++ [32, 38, 32]).toArray } : ByteArray) ++ { data := #[60, 61, 32] } = { data := (q ++ [32, 38, 32] ++ [60, 61, 32]).toArray } := cat2 _ [60, 61, 32]
          have HQ3 : Hid (q ++ [32, 38, 32] ++ [60, 61, 32] ++ hi = R) := by rw [List.append_assoc]; exact HF.out
          obtain ⟨q2, hq2⟩ : ∃ x, q ++ [32, 38, 32] = x := ⟨_, rfl⟩
          have l2 : q2.length ≤ 1006 := by rw [← hq2, List.length_append]; simp; omega
          have e5 : q2.isEmpty = false := by rw [← hq2]; cases q <;> rfl
          rw [hq2] at hc2 hc3 HQ3
          obtain ⟨q3, hq3⟩ : ∃ x, q2 ++ [60, 61, 32] = x := ⟨_, rfl⟩
          have l3 : q3.length ≤ 1009 := by rw [← hq3, List.length_append]; simp; omega
          rw [hq3] at hc3 HQ3
          clear hcat hq2 hq3
          go_enter Tryz.func82, Tryz.ntmps82
          go_wp2_with fail
          go_ret
          exact ⟨by rw [← HQ3.out]; exact congrArg (fun x => Ending.returned (Value.string x)) (cat2 _ _), HB.out⟩
      · have HF := Lib.hid ((spanB_lo (hi := hi) li hn e1 e2).symm.trans hR)
        clear hR
        cases li
        all_goals
          go_enter Tryz.func82, Tryz.ntmps82
          go_wp2_with fail
          go_ret
          exact ⟨by rw [← HF.out]; exact congrArg (fun x => Ending.returned (Value.string x)) (cat2c _ _), HB.out⟩
    · have HF := Lib.hid ((spanB_eq li hn e1 e3).symm.trans hR)
      clear hR
      go_enter Tryz.func82, Tryz.ntmps82
      go_wp2_with fail
      go_ret
      exact ⟨by rw [← HF.out]; exact congrArg (fun x => Ending.returned (Value.string x)) (cat2c _ _), HB.out⟩
  · cases e2 : hi.isEmpty
    · have HF := Lib.hid ((spanB_hi li hn e1 e2).symm.trans hR)
      clear hR
      cases hn
      all_goals
        go_enter Tryz.func82, Tryz.ntmps82
        go_wp2_with fail
        go_ret
        exact ⟨by rw [← HF.out]; exact congrArg (fun x => Ending.returned (Value.string x)) (cat2c _ _), HB.out⟩
    · have HF := Lib.hid ((spanB_none li hn e1 e2).symm.trans hR)
      clear hR
      go_enter Tryz.func82, Tryz.ntmps82
      go_wp2_with fail
      go_ret
      exact ⟨by rw [← HF.out]; rfl, HB.out⟩
end Go.Proofs.YtkdildgdodnbbaaGreatDoor
namespace Go.Proofs.YtkdildgdodnbbaaGreatDoor
open Go.RowKit Rs At
attribute [local go_sem ↓] Go.wp_at_zero Go.wp_at_succ
theorem join_snoc (m x : List UInt8) : ∀ l : List (List UInt8), Lib.join (l ++ [x]) m = if l.isEmpty then x else Lib.join l m ++ m ++ x
  | [] => Lib.join_one ..
  | [a] => by
    show Lib.join [a, x] m = Lib.join [a] m ++ m ++ x
    rw [Lib.join_cons, Lib.join_one]; simp [Lib.joinTail]
  | a :: b :: r => by
    have ih := join_snoc m x (b :: r)
    have e : ∀ t : List (List UInt8), Lib.join (a :: b :: t) m = a ++ m ++ Lib.join (b :: t) m := fun t => by
      rw [Lib.join_cons, Lib.join_cons]; simp [Lib.joinTail]
    show Lib.join (a :: b :: (r ++ [x])) m = Lib.join (a :: b :: r) m ++ m ++ x
    rw [e, e]
    have ih2 : Lib.join (b :: (r ++ [x])) m = Lib.join (b :: r) m ++ m ++ x := ih
    rw [ih2]; simp
theorem join_take (l : List Sp) (k : Nat) (hk : k < l.length) : Lib.join ((l.take (k + 1)).map fun s => altT (conds s)) [32, 124, 32] = (if k = 0 then [] else Lib.join ((l.take k).map fun s => altT (conds s)) [32, 124, 32] ++ [32, 124, 32]) ++ altT (conds l[k]) := by
  rw [List.take_succ_eq_append_getElem hk, List.map_append]
  show Lib.join (_ ++ [altT (conds l[k])]) _ = _
  rw [join_snoc]
  by_cases h0 : k = 0
  · subst h0; simp
  · rw [if_neg h0, if_neg (by cases l with
      | nil => simp at hk
      | cons a l => cases k with
        | zero => exact absurd rfl h0
        | succ k => simp)]
theorem span_len {s : Sp} (h : s.err = 0) : s.lo.length ≤ 40 ∧ s.hi.length ≤ 40 := by
  obtain ⟨b1, b2, _, _⟩ := span_bounds (show span s.lo s.hi s.li s.hn = 0 from h)
  constructor
  · cases e : s.lo.isEmpty
    · exact own_len (bound_own b1 e)
    · have : s.lo = [] := by simpa using e
      rw [this]; simp
  · cases e : s.hi.isEmpty
    · exact own_len (bound_own b2 e)
    · have : s.hi = [] := by simpa using e
      rw [this]; simp
theorem spanB_le {lo hi : List UInt8} (li hn : Bool) (h1 : lo.length ≤ 40) (h2 : hi.length ≤ 40) : (spanB lo hi li hn).length ≤ 100 := by
  have hL : (loB lo li).length ≤ 43 := by unfold loB; cases li <;> simp <;> omega
  have hH : (hiB hi hn).length ≤ 43 := by unfold hiB; cases hn <;> simp <;> omega
  cases e1 : lo.isEmpty <;> cases e2 : hi.isEmpty
  · cases e3 : lo == hi
    · rw [spanB_both li hn e1 e2 e3]; simp; omega
    · rw [spanB_eq li hn e1 e3]; simp; omega
  · rw [spanB_lo li hn e1 e2]; omega
  · rw [spanB_hi li hn e1 e2]; omega
  · rw [spanB_none li hn e1 e2]; simp
theorem s_refAll {w0 u : World} {L : List Ent} (h : St w0 u L) : Calls Tryz.prog 25 #[] u (RowRet w0 L (allR.map spOf)) := (refAll_any u).mono fun _ _ hr => ret_row h hr
set_option maxRecDepth 100000 in
set_option maxHeartbeats 3200000 in
theorem refAtomText_any (name : List UInt8) (A : Option Addr) (n c : Nat) (l : List Sp) (w : World) (hw : MaxOk w) (hm : name.length ≤ 100) (hn : l.length = n) (hr : SRow w A l) (hl : n ≤ 64) (hk : checkR l = 0) :
    Calls Tryz.prog 59 #[.agg #[.string ⟨name.toArray⟩, .slice A n c]] w fun e w' => e = .returned (.string ⟨(textA ⟨name, l⟩).toArray⟩) ∧ Below w.heap.size w w' := by
  obtain ⟨R, hR⟩ : ∃ R, textA ⟨name, l⟩ = R := ⟨_, rfl⟩
  rw [hR]
  obtain ⟨b, hb⟩ : ∃ b, w.heap.size = b := ⟨_, rfl⟩
  obtain ⟨W1, hW1⟩ : ∃ W, w.alloc (.cells #[.string ⟨name.toArray⟩, .slice A n c] 38) = W := ⟨_, rfl⟩
  have HX1 : Hid (Bx2 b name A n c W1) := by rw [← hW1, ← hb]; exact bx2_new w name A n c _
  have HW1 : Hid (Below w.heap.size w W1) := by rw [← hW1]; exact (Below.refl _ _).alloc (Nat.le_refl _) _
  have hb1 : b < W1.heap.size := by rw [← hW1, ← hb]; simp
  have HR1 : Hid (SRow W1 A l) := srow_below hr HW1.out
  have HN := Lib.hid hn
  obtain ⟨sm, hsm⟩ : ∃ x, decide (l = allR.map spOf) = x := ⟨_, rfl⟩
  have HSM := Lib.hid hsm
  have HT1 : Hid (sm = true → R = name) := fun h => by rw [← hR]; unfold textA; rw [if_pos (by rw [h] at hsm; exact of_decide_eq_true hsm)]
  have HT0 : Hid (sm = false → R = name ++ 32 :: 40 :: (termT (termOf l) ++ [41])) := fun h => by rw [← hR]; unfold textA; rw [if_neg (by rw [h] at hsm; exact of_decide_eq_false hsm)]
  have HSL : Hid (∀ s ∈ l, s.lo.length ≤ 40 ∧ s.hi.length ≤ 40) := fun s hs => span_len ((check_spans hk).2.2 s hs)
  obtain ⟨k0, k1⟩ := HX1.out
  have HMX : Hid (MaxOk W1) := maxOk_below hw HW1.out
  have HB1 := Lib.hid hb1
  clear hr hn hR hk hsm hw
  go_enter Tryz.func59, Tryz.ntmps59
  go_wp2_with fail
  clear hb hW1
  have HS1 : Hid (St W1 W1.drew [⟨A, n, l⟩]) := ⟨HMX.out, (Below.refl _ _).drew, fun x hx => by rw [List.mem_singleton.1 hx]; exact ⟨srow_below HR1.out (Below.refl _ _).drew, HN.out⟩⟩
  go_region_held3 (fun w' => w'.cell? ⟨b, 0, none⟩ = some (.string ⟨name.toArray⟩) ∧ w'.cell? ⟨b, 1, none⟩ = some (.slice A n c))
    (first
      | exact bx2_below HX1.out hb1 HS1.out.2.1
      | exact bx2_below HX1.out hb1 HS2.out.2.1
      | exact bx2_below HX1.out hb1 HS3.out.2.1)
    (first
      | (go_at_call 25; refine (s_refAll HS1.out).mono ?_; rintro _ u2 ⟨C, m2, d, rfl, hs⟩; have HS2 := Lib.hid hs; have hm2 : m2 = 1 := (st_row hs 0 rfl).2.symm; have HM2 := Lib.hid hm2; clear hs hm2)
      | (go_at_call 24; refine (s_sameRange HS2.out 1 0 rfl rfl (by omega) (by rw [HM2.out]; decide) _ _ sm HSM.out).mono ?_; rintro _ u3 ⟨rfl, hs⟩; have HS3 := Lib.hid hs; clear hs))
  have HS4 : Hid (St W1 u3 [⟨A, n, l⟩]) := st_front HS3.out
  have HX4 := Lib.hid (bx2_below HX1.out hb1 HS4.out.2.1)
  clear k0 k1 HS2 HS3 HM2
  obtain ⟨k0, k1⟩ := HX4.out
  cases sm
  · have HT := Lib.hid (HT0.out rfl)
    clear HT0 HT1
    by_cases h0 : n = 0
    · have HTE : Hid (name ++ [32, 40, 110, 111, 110, 101, 41] = R) := by
        show _ = _
        rw [HT.out]
        have : l = [] := List.length_eq_zero_iff.1 (by rw [HN.out]; exact h0)
        rw [this]; rfl
      subst h0
      go_wp2_with fail
      go_ret
      exact ⟨by rw [← HTE.out]; exact congrArg (fun x => Ending.returned (Value.string x)) (cat2 name [32, 40, 110, 111, 110, 101, 41]), HW1.out.trans (HS4.out.2.1.mono HW1.out.size)⟩
    · have hn0 : ((n : Int) == 0) = false := by simpa using h0
      have HTJ : Hid (name ++ [32, 40] ++ Lib.join (l.map fun s => altT (conds s)) [32, 124, 32] ++ [41] = R) := by
        show _ = _
        rw [HT.out]
        unfold termT At.termOf
        rw [if_neg (by rw [List.map_eq_nil_iff]; intro e; exact h0 (by rw [← HN.out, e]; rfl)), List.map_map]
        simp; rfl
      clear h0 HT
      go_wp2_with fail
      go_loopw [3, 4] (fun v i wr => ∃ (k : Nat) (q : List UInt8), k ≤ n ∧ i = .int .i64 k ∧ v = .string ⟨q.toArray⟩ ∧ q.length ≤ k * 200 ∧ Hid (Lib.join ((l.take k).map fun s => altT (conds s)) [32, 124, 32] = q) ∧ Hid (Below u3.heap.size u3 wr)) (fun _ i _ => n - (intOf i).toNat)
      case atStart => exact ⟨0, [], Nat.zero_le _, rfl, rfl, Nat.zero_le _, rfl, Below.refl _ _⟩
      case round =>
        obtain ⟨k, q, hk, rfl, rfl, hq, HQ, HB⟩ := hrel
        have hbu : b < u3.heap.size := Nat.lt_of_lt_of_le hb1 HS4.out.2.1.size
        obtain ⟨j0, j1⟩ := bx2_below HX4.out hbu HB.out
        clear k0 k1
        by_cases hlt : k < n
        · have hlr : k < l.length := by rw [HN.out]; exact hlt
          obtain ⟨ad, lo, hi, li, hh, rfl, hs, _, c0, c1, c2, c3⟩ := srow_at (srow_below (st_row HS4.out 0 rfl).1 HB.out) k hlr
          obtain ⟨l1, l2⟩ := HSL.out _ (List.getElem_mem hlr)
          have hjt := join_take l k hlr
          rw [hs] at l1 l2 hjt
          dsimp only at l1 l2
          have hsl : (spanB lo hi li hh).length ≤ 100 := spanB_le li hh l1 l2
          have hjt2 : Lib.join ((l.take (k + 1)).map fun s => altT (conds s)) [32, 124, 32] = (if k = 0 then [] else Lib.join ((l.take k).map fun s => altT (conds s)) [32, 124, 32] ++ [32, 124, 32]) ++ spanB lo hi li hh := hjt
          rw [HQ.out] at hjt2
          have HJ := Lib.hid hjt2
          have HST := Lib.hid (spanText_any lo hi li hh)
          obtain ⟨x, hx⟩ : ∃ x, spanB lo hi li hh = x := ⟨_, rfl⟩
          rw [hx] at hsl HJ HST
          have HLL : Hid (lo.length ≤ 1000 ∧ hi.length ≤ 1000) := ⟨by omega, by omega⟩
          clear hs hjt hjt2 hx l1 l2
          by_cases h0 : k = 0
          · have hk0 : ¬ 0 < k := by omega
            have hq0 : q = [] := List.length_eq_zero_iff.1 (by rw [h0] at hq; omega)
            subst hq0
            have HJ2 : Hid (Lib.join ((l.take (k + 1)).map fun s => altT (conds s)) [32, 124, 32] = x) := by have h := HJ.out; rw [if_pos h0] at h; exact h
            have hc1 : ({ data := #[] } : ByteArray) ++ { data := x.toArray } = { data := x.toArray } := cat2 [] x
            clear h0 HJ
            go_wp2_with fail
            refine (HST.out _ HLL.out.1 HLL.out.2).mono ?_
            rintro _ u5 ⟨rfl, hb5⟩
            have HB5 := Lib.hid (HB.out.trans (hb5.mono HB.out.size))
            clear hb5 c0 c1 c2 c3
            go_wp2_with fail
            go_roundw
            case rel => exact ⟨k + 1, x, by omega, by go_num, by simp, by omega, HJ2, HB5⟩
            case measure => simp [intOf]; omega
          · have hk0 : (0 : Int) < (k : Int) := by omega
            have HJ2 : Hid (Lib.join ((l.take (k + 1)).map fun s => altT (conds s)) [32, 124, 32] = q ++ [32, 124, 32] ++ x) := by have h := HJ.out; rw [if_neg h0] at h; exact h
            have hc2 : ({ data := q.toArray } : ByteArray) ++ { data := #[32, 124, 32] } = { data := (q ++ [32, 124, 32]).toArray } := cat2 q [32, 124, 32]
            have hc3 : ({ data := (q ++ [32, 124, 32]).toArray } : ByteArray) ++ { data := x.toArray } = { data := (q ++ [32, 124, 32] ++ x).toArray } := cat2 _ x
            obtain ⟨q2, hq2⟩ : ∃ x, q ++ [32, 124, 32] = x := ⟨_, rfl⟩
            have hl2 : q2.length ≤ k * 200 + 3 := by rw [← hq2, List.length_append]; simp; omega
            rw [hq2] at hc2 hc3 HJ2
            clear hq2 h0 HJ
            go_wp2_with fail
            refine (HST.out _ HLL.out.1 HLL.out.2).mono ?_
            rintro _ u5 ⟨rfl, hb5⟩
            have HB5 := Lib.hid (HB.out.trans (hb5.mono HB.out.size))
            clear hb5 c0 c1 c2 c3
            go_wp2_with fail
            go_roundw
            case rel => exact ⟨k + 1, q2 ++ x, by omega, by go_num, rfl, by rw [List.length_append]; omega, HJ2, HB5⟩
            case measure => simp [intOf]; omega
        · obtain rfl : k = n := by omega
          have HTF : Hid (name ++ [32, 40] ++ q ++ [41] = R) := by
            show _ = _
            rw [← HTJ.out, ← HQ.out, List.take_of_length_le (by rw [HN.out]; exact Nat.le_refl _)]
          have hc2 : ({ data := name.toArray } : ByteArray) ++ { data := #[32, 40] } = { data := (name ++ [32, 40]).toArray } := cat2 name [32, 40]
          have hc3 : ({ data := (name ++ [32, 40]).toArray } : ByteArray) ++ { data := q.toArray } = { data := (name ++ [32, 40] ++ q).toArray } := cat2 _ q
          obtain ⟨q2, hq2⟩ : ∃ x, name ++ [32, 40] = x := ⟨_, rfl⟩
          have hl2 : q2.length ≤ 102 := by rw [← hq2, List.length_append]; simp; omega
          rw [hq2] at hc2 hc3 HTF
          obtain ⟨q3, hq3⟩ : ∃ x, q2 ++ q = x := ⟨_, rfl⟩
          have hl3 : q3.length ≤ 102 + k * 200 := by rw [← hq3, List.length_append]; omega
          rw [hq3] at hc3 HTF
          clear hq2 hq3
          go_wp2_with fail
          go_ret
          exact ⟨by rw [← HTF.out]; exact congrArg (fun x => Ending.returned (Value.string x)) (cat2 q3 [41]), HW1.out.trans ((HS4.out.2.1.trans (HB.out.mono HS4.out.2.1.size)).mono HW1.out.size)⟩
  · have HT := Lib.hid (HT1.out rfl)
    clear HT0 HT1
    go_wp2_with fail
    go_ret
    rw [HT.out]
    exact ⟨rfl, HW1.out.trans (HS4.out.2.1.mono HW1.out.size)⟩
end Go.Proofs.YtkdildgdodnbbaaGreatDoor
namespace Go.Proofs.YtkdildgdodnbbaaGreatDoor
open Go.RowKit Rs At
theorem occ_drop (s m : List UInt8) (f j : Nat) : Lib.occAt (s.drop f) m j = Lib.occAt s m (f + j) := by unfold Lib.occAt; rw [List.drop_drop]
/-- How far a text is cut: what is behind, from where on the piece goes, where one looks. -/
def CutSt (s m : List UInt8) (acc : List (List UInt8)) (f i : Nat) : Prop := f ≤ i ∧ i ≤ s.length ∧ Lib.split s m = acc ++ Lib.split (s.drop f) m ∧ ∀ j, f ≤ j → j < i → Lib.occAt s m j = false
theorem cut_start (s m : List UInt8) : CutSt s m [] 0 0 := ⟨Nat.le_refl _, Nat.zero_le _, rfl, fun _j _ h => absurd h (Nat.not_lt_zero _)⟩
theorem cut_hit {s m : List UInt8} {acc : List (List UInt8)} {f i : Nat} (hm : m ≠ []) (h : CutSt s m acc f i) (ho : Lib.occAt s m i = true) (hr : i + m.length ≤ s.length) : CutSt s m (acc ++ [(s.drop f).take (i - f)]) (i + m.length) (i + m.length) := by
  obtain ⟨h1, h2, h3, h4⟩ := h
  have hx : Lib.index (s.drop f) m = ((i - f : Nat) : Int) := Lib.index_first (by rw [List.length_drop]; omega) (by rw [occ_drop, show f + (i - f) = i by omega]; exact ho) (fun j hj => by rw [occ_drop]; exact h4 _ (by omega) (by omega))
  refine ⟨Nat.le_refl _, hr, ?_, fun j a b => by omega⟩
  rw [h3, split_hit hm hx, List.drop_drop, show f + (i - f + m.length) = i + m.length by omega]
  simp
theorem cut_miss {s m : List UInt8} {acc : List (List UInt8)} {f i : Nat} (h : CutSt s m acc f i) (hi : i < s.length) (ho : Lib.occAt s m i = false) : CutSt s m acc f (i + 1) :=
  ⟨Nat.le_succ_of_le h.1, hi, h.2.2.1, fun j a b => by
    rcases Nat.lt_or_ge j i with hj | hj
    · exact h.2.2.2 j a hj
    · have : j = i := by omega
      rw [this]; exact ho⟩
theorem cut_end {s m : List UInt8} {acc : List (List UInt8)} {f i : Nat} (hm : m ≠ []) (h : CutSt s m acc f i) (he : s.length < i + m.length) : Lib.split s m = acc ++ [s.drop f] := by
  obtain ⟨h1, h2, h3, h4⟩ := h
  have hx : Lib.index (s.drop f) m = -1 := Lib.index_none fun j hj => by
    rw [occ_drop]
    by_cases hji : f + j < i
    · exact h4 _ (by omega) hji
    · cases ho : Lib.occAt s m (f + j) with
      | false => rfl
      | true =>
        rcases Lib.occAt_room ho with h | h
        · omega
        · exact absurd h hm
  rw [h3, split_miss hx]
set_option maxRecDepth 100000 in
set_option maxHeartbeats 1600000 in
theorem refSigns_any (s : List UInt8) (w : World) :
    Calls Tryz.prog 67 #[.string ⟨s.toArray⟩] w fun e w' => e = .returned (.bool (signB s)) ∧ w = w' := by
  cases h : sgnOf s with
  | some i =>
    have hb : Hid (signB s = true) := by show _ = _; unfold signB; rw [h]; rfl
    obtain ⟨hi, rfl⟩ := sgnOf_some h
    rw [hb.out]
    clear h hb
    match i, hi with
    | 0, _ | 1, _ | 2, _ | 3, _ | 4, _ | 5, _ =>
      go_enter Tryz.func67, Tryz.ntmps67
      go_wp2_with fail
      go_ret
      exact ⟨rfl, rfl⟩
  | none =>
    have hb : Hid (signB s = false) := by show _ = _; unfold signB; rw [h]; rfl
    have hn := sgnOf_none h
    have n0 : (s == [61]) = false := beq_eq_false_iff_ne.2 (hn 0 (by decide))
    have n1 : (s == [33, 61]) = false := beq_eq_false_iff_ne.2 (hn 1 (by decide))
    have n2 : (s == [60]) = false := beq_eq_false_iff_ne.2 (hn 2 (by decide))
    have n3 : (s == [60, 61]) = false := beq_eq_false_iff_ne.2 (hn 3 (by decide))
    have n4 : (s == [62]) = false := beq_eq_false_iff_ne.2 (hn 4 (by decide))
    have n5 : (s == [62, 61]) = false := beq_eq_false_iff_ne.2 (hn 5 (by decide))
    rw [hb.out]
    clear h hb hn
    go_enter Tryz.func67, Tryz.ntmps67
    go_wp2_with fail
    go_ret
    exact ⟨rfl, rfl⟩
theorem piece_of (s : List UInt8) (f i : Nat) : (⟨s.toArray⟩ : ByteArray).extract f i = ⟨((s.drop f).take (i - f)).toArray⟩ := ByteArray.extract_mk ..
set_option maxRecDepth 100000 in
set_option maxHeartbeats 1600000 in
theorem refCut_any (s m : List UInt8) (w : World) (hs : s.length ≤ 4000) (hm : 1 ≤ m.length) (hm2 : m.length ≤ 10) :
    Calls Tryz.prog 66 #[.string ⟨s.toArray⟩, .string ⟨m.toArray⟩] w fun e w' => ∃ A n c, e = .returned (.slice A n c) ∧ (Lib.split s m).length = n ∧ n ≤ 4001 ∧ Rg.Row encT 1 w' A (Lib.split s m) ∧ (∀ a, A = some a → w.heap.size ≤ a.block) ∧ Below w.heap.size w w' := by
  have hm0 : m ≠ [] := fun e => by rw [e] at hm; simp at hm
  have HSL : Hid ((Lib.split s m).length ≤ 4001) := Nat.le_trans (split_len s m hm) (by omega)
  have HM0 := Lib.hid hm0
  clear hm0
  go_enter Tryz.func66, Tryz.ntmps66
  go_wp2_with fail
  go_loopw [5, 6, 7] (fun v f i wr => ∃ (a b : Nat) (acc : List (List UInt8)), f = .int .i64 a ∧ i = .int .i64 b ∧ a ≤ b ∧ b ≤ s.length ∧ Hid (acc.length ≤ a) ∧ Hid (CutSt s m acc a b) ∧ Hid (Rg.Own encT 1 wr w.heap.size 9 v acc) ∧ Hid (Below w.heap.size w wr ∧ w.heap.size ≤ wr.heap.size)) (fun _ _ i _ => s.length - (intOf i).toNat)
  case atStart => exact ⟨0, 0, [], rfl, rfl, Nat.le_refl _, Nat.zero_le _, Nat.zero_le _, cut_start s m, Rg.own_nil _ _ _, Below.refl _ _, Nat.le_refl _⟩
  case round =>
    obtain ⟨a, b, acc, rfl, rfl, hab, hbl, HAL, HST, HO, HB⟩ := hrel
    by_cases hlt : b + m.length ≤ s.length
    · have hx := piece_of s b (b + m.length)
      rw [Nat.add_sub_cancel_left] at hx
      have hocc := Lib.occAt_iff_take s m b hlt
      obtain ⟨q, hq⟩ : ∃ q, (s.drop b).take m.length = q := ⟨_, rfl⟩
      rw [hq] at hx hocc
      have hlti : (b : Int) + (m.length : Int) ≤ (s.length : Int) := by omega
      cases ho : q == m
      · have HS2 : Hid (CutSt s m acc a (b + 1)) := cut_miss HST.out (by omega) (hocc.trans ho)
        clear hq hocc
        go_wp2_with fail
        go_roundw
        case rel => exact ⟨a, b + 1, acc, rfl, by go_num, by omega, by omega, HAL, HS2, HO, HB⟩
        case measure => simp [intOf]; omega
      · have HS2 := Lib.hid (cut_hit HM0.out HST.out (hocc.trans ho) hlt)
        have hy := piece_of s a b
        obtain ⟨r, hr⟩ : ∃ r, (s.drop a).take (b - a) = r := ⟨_, rfl⟩
        rw [hr] at hy HS2
        have HAL2 : Hid ((acc ++ [r]).length ≤ b + m.length) := by have := HAL.out; show _ ≤ _; rw [List.length_append]; simp; omega
        have HSZ : Hid (acc.length + 1 ≤ 1000000) := by have := HAL.out; show _ ≤ _; omega
        clear hq hocc hr
        go_wp2_with (at_builtin; refine Rg.wpList_app sliceTx rfl (.tmp 24) (.tmp 29) rfl w.heap.size _ acc [r] rfl (Rg.own_below HO.out ((Below.refl _ _).alloc (Nat.le_refl _) _)) _ _ rfl (Rg.news_new wr _ _ _ (by rfl)) (Nat.zero_lt_succ _) HSZ.out ?b2 ?_)
        case b2 => have := HB.out.2; simp; omega
        intro v5 W5 ho5 hg5 hz5
        have HB5 := app_done4 HB (Below.refl _ _) HO hg5
        have HO5 := Lib.hid ho5
        clear ho5 hg5 hz5 HO HB hx hy
        go_wp2_with fail
        go_roundw
        case rel => exact ⟨b + m.length, b + m.length, acc ++ [r], by go_num, by go_num, Nat.le_refl _, hlt, HAL2, HS2, HO5, HB5⟩
        case measure => simp [intOf]; omega
    · have hce := cut_end HM0.out HST.out (by omega)
      have hlti : ¬ (b : Int) + (m.length : Int) ≤ (s.length : Int) := by omega
      have hy := piece_of s a s.length
      obtain ⟨r, hr⟩ : ∃ r, s.drop a = r := ⟨_, rfl⟩
      rw [hr, List.take_of_length_le (by rw [← hr, List.length_drop]; exact Nat.le_refl _)] at hy
      rw [hr] at hce
      have HCE : Hid (acc ++ [r] = Lib.split s m) := hce.symm
      have HSZ : Hid (acc.length + 1 ≤ 1000000) := by have := HAL.out; show _ ≤ _; omega
      clear hr hce
      go_wp2_with (at_builtin; refine Rg.wpList_app sliceTx rfl (.tmp 38) (.tmp 42) rfl w.heap.size _ acc [r] rfl (Rg.own_below HO.out ((Below.refl _ _).alloc (Nat.le_refl _) _)) _ _ rfl (Rg.news_new wr _ _ _ (by rfl)) (Nat.zero_lt_succ _) HSZ.out ?b2 ?_)
      case b2 => have := HB.out.2; simp; omega
      intro v5 W5 ho5 hg5 hz5
      have HB5 := app_done4 HB (Below.refl _ _) HO hg5
      rw [HCE.out] at ho5
      obtain ⟨C, d, rfl, hrow, _, _⟩ := Rg.row_own fitsT ho5
      have HROW := Lib.hid hrow
      have HOO := Lib.hid ho5
      clear ho5 hg5 hz5 HO HB hy hrow
      go_wp2_with fail
      go_ret
      exact ⟨C, _, d, rfl, rfl, HSL.out, HROW.out, fun a ha => by subst ha; exact (Rg.own_lt HOO.out a.block rfl).1, HB5.out.1⟩
end Go.Proofs.YtkdildgdodnbbaaGreatDoor
namespace Go.Proofs.YtkdildgdodnbbaaGreatDoor
open Go.RowKit Rs At
/-- The pieces of the ways are these conditions. -/
def Ways (ps : List (List (List UInt8))) (T : List (List Cond)) : Prop := ps.length = T.length ∧ ∀ (i : Nat) (p : List (List UInt8)) (l : List Cond), ps[i]? = some p → T[i]? = some l → p.mapM condP = some l
theorem ways_nil : Ways [] [] := ⟨rfl, fun i p l h => by simp at h⟩
theorem ways_snoc {ps : List (List (List UInt8))} {T : List (List Cond)} {p : List (List UInt8)} {l : List Cond} (h : Ways ps T) (hp : p.mapM condP = some l) : Ways (ps ++ [p]) (T ++ [l]) := by
  refine ⟨by rw [List.length_append, List.length_append, h.1]; rfl, fun i q m h1 h2 => ?_⟩
  rcases get_snoc h1 with ⟨a1, b1⟩ | ⟨a1, b1⟩
  · rcases get_snoc h2 with ⟨_, b2⟩ | ⟨a2, _⟩
    · exact h.2 i q m b1 b2
    · have := h.1; omega
  · rcases get_snoc h2 with ⟨a2, _⟩ | ⟨_, b2⟩
    · have := h.1; omega
    · rw [b1, b2]; exact hp
theorem condP_cases (s : List UInt8) : (condP s = none ∧ Vm.has 32 s = false) ∨ (condP s = none ∧ Vm.has 32 s = true ∧ signB (Vm.fst 32 s) = false) ∨ (condP s = none ∧ Vm.has 32 s = true ∧ signB (Vm.fst 32 s) = true ∧ wordB (Vm.snd 32 s) = false) ∨
    (condP s = some (Vm.fst 32 s, Vm.snd 32 s) ∧ Vm.has 32 s = true ∧ signB (Vm.fst 32 s) = true ∧ wordB (Vm.snd 32 s) = true) := by
  unfold condP
  cases h1 : Vm.has 32 s <;> cases h2 : signB (Vm.fst 32 s) <;> cases h3 : wordB (Vm.snd 32 s) <;> simp
theorem condP_some {s : List UInt8} {c : Cond} (h : condP s = some c) : Vm.has 32 s = true ∧ c = (Vm.fst 32 s, Vm.snd 32 s) := by
  rcases condP_cases s with ⟨e, _⟩ | ⟨e, _⟩ | ⟨e, _⟩ | ⟨e, h2, _⟩
  · rw [e] at h; cases h
  · rw [e] at h; cases h
  · rw [e] at h; cases h
  · rw [e] at h; cases h; exact ⟨h2, rfl⟩
theorem mapM_get {α β : Type} {f : α → Option β} : ∀ {l : List α} {r : List β}, l.mapM f = some r → ∀ (i : Nat) (h1 : i < l.length) (h2 : i < r.length), f l[i] = some r[i]
  | [], _, _, i, h1, _ => by simp at h1
  | a :: l, r, h, i, h1, h2 => by
    rw [List.mapM_cons] at h
    cases hf : f a with
    | none => rw [hf] at h; cases h
    | some b =>
      rw [hf] at h
      cases hl : l.mapM f with
      | none => rw [hl] at h; cases h
      | some r' =>
        rw [hl] at h
        cases h
        cases i with
        | zero => exact hf
        | succ i => exact mapM_get hl i (by simpa using h1) (by simpa using h2)
instance pDecA : DecidableEq (Rm.P Cut) := fun a b => decidable_of_iff (a.lo = b.lo ∧ a.hi = b.hi) ⟨fun h => by cases a; cases b; simp_all, fun h => by rw [h]; exact ⟨rfl, rfl⟩⟩
theorem readA_one (s : List UInt8) : readA s [[]] = if nameB s then (0, ⟨s, allS⟩) else (3, zeroA) := by
  unfold readA
  cases h : nameB s
  · rfl
  · have e1 : (hTerm [] [[]]) = (0, allR) := by decide +kernel
    have e2 : checkA ⟨s, allS⟩ = 0 := by
      unfold checkA
      rw [if_pos h, if_pos (show checkR allS = 0 by decide +kernel), if_neg (show ¬ 16 < vers (At.termOf allS) by decide +kernel)]
    have e3 : allR.map spOf = allS := rfl
    rw [if_pos rfl, if_pos rfl, if_pos (by decide), e1, if_pos rfl, e3, if_pos e2]
theorem parse_one {s : List UInt8} (h : Vm.has 32 s = false) : parseA s = if wordB s then (if nameB s then (0, ⟨s, allS⟩) else (3, zeroA)) else (2, zeroA) := by
  have hf := (At.fst_none (c := 32) (p := s) (fun hm => by unfold Vm.has at h; rw [List.contains_iff_mem.2 hm] at h; cases h)).1
  unfold parseA
  rw [hf, h, readA_one]
  cases wordB s <;> rfl
theorem parse_more {s : List UInt8} (h : Vm.has 32 s = true) : parseA s = if wordB (Vm.fst 32 s) then (match (bodyP (Vm.snd 32 s)).bind termP with | none => (2, zeroA) | some t => readA (Vm.fst 32 s) t) else (2, zeroA) := by
  unfold parseA
  rw [h]
  cases wordB (Vm.fst 32 s) <;> rfl
theorem body_short {t : List UInt8} (h : t.length < 3) : (bodyP t).bind termP = none := by
  match t, h with
  | [], _ => rfl
  | [a], _ => unfold bodyP; rw [if_neg (by simp)]; rfl
  | [a, b], _ =>
    unfold bodyP
    split
    · show termP [] = none; decide +kernel
    · rfl
theorem body_left {t : List UInt8} (h : 3 ≤ t.length) {c : UInt8} (hc : t[0]'(by omega) = c) (hn : c ≠ 40) : bodyP t = none := by
  unfold bodyP
  refine if_neg fun hh => hn ?_
  have := hh.2.1
  rw [List.getD_eq_getElem?_getD, List.getElem?_eq_getElem (by omega)] at this
  rw [← hc]; exact this
theorem body_right {t : List UInt8} (h : 3 ≤ t.length) {c : UInt8} (hc : t[t.length - 1]'(by omega) = c) (hn : c ≠ 41) : bodyP t = none := by
  unfold bodyP
  refine if_neg fun hh => hn ?_
  have := hh.2.2
  rw [List.getD_eq_getElem?_getD, List.getElem?_eq_getElem (by omega)] at this
  rw [← hc]; exact this
theorem body_yes {t : List UInt8} (h : 3 ≤ t.length) (h0 : t[0]'(by omega) = 40) (h1 : t[t.length - 1]'(by omega) = 41) : bodyP t = some ((t.drop 1).take (t.length - 2)) := by
  unfold bodyP
  refine if_pos ⟨by omega, ?_, ?_⟩
  · rw [List.getD_eq_getElem?_getD, List.getElem?_eq_getElem (by omega)]; exact h0
  · rw [List.getD_eq_getElem?_getD, List.getElem?_eq_getElem (by omega)]; exact h1
end Go.Proofs.YtkdildgdodnbbaaGreatDoor
namespace Go.Proofs.YtkdildgdodnbbaaGreatDoor
open Go.RowKit Rs At
attribute [local go_sem ↓] Go.wp_at_zero Go.wp_at_succ

theorem sliceSS : Rg.SliceT Tryz.prog encO 1 112 58 := ⟨fitsO, by decide, by kernel_rfl, Rg.info_of (z := .slice none 0 0) (b := 24) (by kernel_rfl) (by rfl) (by decide)⟩
/-- The result's cells. -/
def RC (b : Nat) (u : World) : Prop := u.cell? ⟨b, 0, none⟩ = some (.string ⟨#[]⟩) ∧ u.cell? ⟨b, 1, none⟩ = some (.slice none 0 0) ∧ u.frozen? ⟨b, 0, none⟩ = false ∧ u.frozen? ⟨b, 1, none⟩ = false
theorem rn_of {w W1 u : World} (h1 : w.alloc (.cells #[.string ⟨#[]⟩, .slice none 0 0] 38) = W1) (hb : Below W1.heap.size W1 u) : ∀ j, 2 ≤ j → u.cell? ⟨w.heap.size, j, none⟩ = none := fun j hj => by
  have e1 : u.heap[w.heap.size]? = some (.cells #[.string ⟨#[]⟩, .slice none 0 0] 38 (0, 0)) := (hb.block _ (by rw [← h1]; simp)).trans (by rw [← h1]; exact heap_alloc_new w _)
  simp [World.cell?, e1]; omega
/-- The result stored. -/
abbrev stA (u : World) (b : Nat) (name : List UInt8) (C : Option Addr) (m d : Nat) : World := (u.setCell ⟨b, 0, none⟩ (.string ⟨name.toArray⟩)).setCell ⟨b, 1, none⟩ (.slice C m d)
theorem stA_get {u : World} {b : Nat} {name : List UInt8} {C : Option Addr} {m d : Nat} (h : RC b u) : (stA u b name C m d).cell? ⟨b, 0, none⟩ = some (.string ⟨name.toArray⟩) ∧ (stA u b name C m d).cell? ⟨b, 1, none⟩ = some (.slice C m d) := by
  obtain ⟨a, b, _, _⟩ := h
  constructor <;> simp [stA, go_sem, a, b]
theorem pr_done {w W1 u : World} (h1 : w.alloc (.cells #[.string ⟨#[]⟩, .slice none 0 0] 38) = W1) (hb : Below W1.heap.size W1 u) {X : Int × Atm} {name : List UInt8} {C : Option Addr} {m d : Nat} {k : Int} {l : List Sp} (hX : X = (k, ⟨name, l⟩)) (hm : l.length = m) (hr : SRow u C l) :
    ParseRet w X (.returned (.tuple #[.agg #[.string ⟨name.toArray⟩, .slice C m d], .int .i64 k])) (stA u w.heap.size name C m d) := by
  subst hX
  have a1 := row_apart hr (rn_of h1 hb)
  exact ⟨C, m, d, rfl, hm, srow_far (srow_far hr a1) a1, (((alloc_low h1).trans (hb.mono (alloc_low h1).size)).setCell (Nat.le_refl _) _).setCell (Nat.le_refl _) _⟩
theorem res_atom {u : World} {b : Nat} {name : List UInt8} {C : Option Addr} {m d : Nat} {k : Int} {tmps : Array Value} (h : RC b u) (ht2 : tmps.getD 2 undef = .pointer (some ⟨b, 0, none⟩)) (ht3 : tmps.getD 3 undef = .int .i64 k) :
    (results Tryz.f41 tmps).run Tryz.prog (stA u b name C m d) = .ok (.tuple #[.agg #[.string ⟨name.toArray⟩, .slice C m d], .int .i64 k]) (stA u b name C m d) := by
  obtain ⟨g0, g1⟩ := stA_get (name := name) (C := C) (m := m) (d := d) h
  rw [results_cell_tmp Tryz.results41, ht2, ht3]
  generalize stA u b name C m d = V at *
  simp [go_sem, g0, g1]
theorem srow_zero (w : World) : SRow w none [] := fun h => absurd h (by simp)
set_option maxRecDepth 100000 in
set_option maxHeartbeats 3200000 in
theorem refParse_one (s : List UInt8) (w : World) (hs : s.length ≤ 4000) (hsp : Vm.has 32 s = false) :
    Calls Tryz.prog 41 #[.string ⟨s.toArray⟩] w (ParseRet w (parseA s)) := by
  obtain ⟨X, hX⟩ : ∃ X, parseA s = X := ⟨_, rfl⟩
  rw [hX]
  obtain ⟨W1, hW1⟩ : ∃ W, w.alloc (.cells #[.string ⟨#[]⟩, .slice none 0 0] 38) = W := ⟨_, rfl⟩
  have HRC : Hid (∀ u, Below W1.heap.size W1 u → RC w.heap.size u) := fun u hb => cell_two hW1 hb
  have HPD : Hid (∀ u, Below W1.heap.size W1 u → ∀ (name : List UInt8) (C : Option Addr) (m d : Nat) (k : Int) (l : List Sp), X = (k, ⟨name, l⟩) → l.length = m → SRow u C l → ParseRet w X (.returned (.tuple #[.agg #[.string ⟨name.toArray⟩, .slice C m d], .int .i64 k])) (stA u w.heap.size name C m d)) := fun u hb _ _ _ _ _ _ h1 h2 h3 => pr_done hW1 hb h1 h2 h3
  have HR0 : Hid (Below W1.heap.size W1 W1) := Below.refl _ _
  rw [parse_one hsp] at hX
  have HPL := Lib.hid (place_no s 32 W1 hs hsp)
  obtain ⟨r0, r1, f0, f1⟩ := HRC.out _ HR0.out
  clear hsp
  go_enter Tryz.func41, Tryz.ntmps41
  go_wp2_with fail
  clear hW1
  refine HPL.out.mono ?_
  rintro _ z ⟨rfl, rfl⟩
  go_wp2_with fail
  refine (refBytes_any s _ hs).mono ?_
  rintro _ z ⟨rfl, rfl⟩
  cases hwb : wordB s
  · have HX : Hid (X = (2, zeroA)) := by rw [hwb] at hX; exact hX.symm
    clear hX hwb
    go_wp2_with fail
    exact bodyPost_ret (res_atom (HRC.out _ HR0.out) rfl rfl) rfl (HPD.out _ HR0.out [] none 0 0 2 [] HX.out rfl (srow_zero _))
  · rw [hwb] at hX
    clear hwb
    go_wp2_with fail
    refine (refName_any s _ (by unfold maxLen; omega)).mono ?_
    rintro _ z ⟨rfl, rfl⟩
    cases hnb : nameB s
    · have HX : Hid (X = (3, zeroA)) := by rw [hnb] at hX; exact hX.symm
      clear hX hnb
      go_wp2_with fail
      exact bodyPost_ret (res_atom (HRC.out _ HR0.out) rfl rfl) rfl (HPD.out _ HR0.out [] none 0 0 3 [] HX.out rfl (srow_zero _))
    · have HX : Hid (X = (0, ⟨s, allR.map spOf⟩)) := by rw [hnb] at hX; exact hX.symm
      clear hX hnb
      go_wp2_with fail
      refine (refAll_any _).mono ?_
      rintro _ z ⟨⟨C, d, rfl, hr, _, _⟩, hb⟩
      have HB := Lib.hid hb
      have HR := Lib.hid hr
      clear r0 r1 f0 f1 hr hb
      obtain ⟨r0, r1, f0, f1⟩ := HRC.out _ HB.out
      go_wp2_with fail
      exact bodyPost_ret (res_atom (HRC.out _ HB.out) rfl rfl) rfl (HPD.out _ HB.out s C _ d 0 _ HX.out rfl HR.out)
end Go.Proofs.YtkdildgdodnbbaaGreatDoor
