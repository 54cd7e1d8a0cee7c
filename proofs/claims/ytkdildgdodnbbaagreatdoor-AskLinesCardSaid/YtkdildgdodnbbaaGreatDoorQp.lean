/- The reference's looks at Spans: bound, span, lower, beyond, touch, in; walked. The reference's looks at two Spans, at a Span and a version; walked. The reference's span and in, walked. The reference's Has, CheckRange, walked. -/
import Derived.Test.YtkdildgdodnbbaaGreatDoorQi
import Derived.Test.YtkdildgdodnbbaaGreatDoorQf
import Derived.Test.YtkdildgdodnbbaaGreatDoorQj
import Derived.Test.YtkdildgdodnbbaaGreatDoorQk
import Derived.Test.YtkdildgdodnbbaaGreatDoorQm
import Derived.Test.YtkdildgdodnbbaaGreatDoorQo
namespace Go.Proofs.YtkdildgdodnbbaaGreatDoor
open Go.RowKit

theorem bound_any (v : List UInt8) (w : World) :
    Calls Tryz.prog 92 #[.string ⟨v.toArray⟩] w fun e w' => e = .returned (.int .i64 (Rs.bound v)) ∧ Below w.heap.size w w' := by
  cases hv : v.isEmpty
  · by_cases hc : Vm.check v = 0
    · have HK := Lib.hid hc
      have HX : Hid (canonOf v = Vm.canon v) := by show _ = _; rw [canonOf, if_pos hc]
      cases he : Vm.canon v == v
      · have HB : Hid (Rs.bound v = 5) := by show _ = _; unfold Rs.bound; rw [hv, if_neg Bool.false_ne_true, if_pos hc, he]; rfl
        obtain ⟨x, hx⟩ : ∃ x, Vm.canon v = x := ⟨_, rfl⟩
        rw [hx] at he HX
        clear hx hc
        go_enter Tryz.func92, Tryz.ntmps92
        go_wp2_with fail
        refine (refCanon_any v _).mono ?_
        rintro _ w1 ⟨rfl, hb⟩
        rw [HX.out, HK.out]
        have HBL := Lib.hid hb
        clear hb
        go_wp2_with fail
        go_ret
        exact ⟨by rw [HB.out]; rfl, HBL.out⟩
      · have HB : Hid (Rs.bound v = 0) := by show _ = _; unfold Rs.bound; rw [hv, if_neg Bool.false_ne_true, if_pos hc, he]; rfl
        obtain ⟨x, hx⟩ : ∃ x, Vm.canon v = x := ⟨_, rfl⟩
        rw [hx] at he HX
        clear hx hc
        go_enter Tryz.func92, Tryz.ntmps92
        go_wp2_with fail
        refine (refCanon_any v _).mono ?_
        rintro _ w1 ⟨rfl, hb⟩
        rw [HX.out, HK.out]
        have HBL := Lib.hid hb
        clear hb
        go_wp2_with fail
        go_ret
        exact ⟨by rw [HB.out]; rfl, HBL.out⟩
    · have HB : Hid (Rs.bound v = Vm.check v) := by show _ = _; unfold Rs.bound; rw [hv, if_neg Bool.false_ne_true, if_neg hc]
      obtain ⟨k, hk⟩ : ∃ k, Vm.check v = k := ⟨_, rfl⟩
      rw [hk] at HB hc
      have HK := Lib.hid hk
      clear hk
      go_enter Tryz.func92, Tryz.ntmps92
      go_wp2_with fail
      refine (refCanon_any v _).mono ?_
      rintro _ w1 ⟨rfl, hb⟩
      rw [HK.out]
      have HBL := Lib.hid hb
      clear hb
      go_wp2_with fail
      go_ret
      exact ⟨by rw [HB.out]; rfl, HBL.out⟩
  · have HB : Hid (Rs.bound v = 0) := by show _ = _; unfold Rs.bound; rw [hv]; rfl
    go_enter Tryz.func92, Tryz.ntmps92
    go_wp2_with fail
    go_ret
    exact ⟨by rw [HB.out]; rfl, Below.refl _ _⟩
/-- A Span as a value. -/
def spV (s : Rs.Sp) : Value := .agg #[.string ⟨s.lo.toArray⟩, .string ⟨s.hi.toArray⟩, .bool s.li, .bool s.hn]
def lowerS (a b : Rs.Sp) : Bool := if a.lo.isEmpty || b.lo.isEmpty then a.lo.isEmpty && !b.lo.isEmpty else decide (Vm.cmpV a.lo b.lo < 0) || (decide (Vm.cmpV a.lo b.lo = 0) && (a.li && !b.li))
def beyondS (a b : Rs.Sp) : Bool := if a.hi.isEmpty || b.hi.isEmpty then a.hi.isEmpty && !b.hi.isEmpty else decide (0 < Vm.cmpV a.hi b.hi) || (decide (Vm.cmpV a.hi b.hi = 0) && (a.hn && !b.hn))
def touchS (a b : Rs.Sp) : Bool := if a.hi.isEmpty || b.lo.isEmpty then true else decide (Vm.cmpV b.lo a.hi < 0) || (decide (Vm.cmpV b.lo a.hi = 0) && (b.li || a.hn))
theorem lowerS_lt {p q : Rm.P Rs.Cut} (hp : Rs.Ok2 p) (hq : Rs.Ok2 q) : lowerS (Rs.spOf p) (Rs.spOf q) = Rm.lt Rs.Ln p.lo q.lo := by
  obtain ⟨pl, ph⟩ := p
  obtain ⟨ql, qh⟩ := q
  have h1 : Rs.LoOk pl := hp.1
  have h2 : Rs.LoOk ql := hq.1
  show (if (Rs.txt pl).isEmpty || (Rs.txt ql).isEmpty then (Rs.txt pl).isEmpty && !(Rs.txt ql).isEmpty else decide (Vm.cmpV (Rs.txt pl) (Rs.txt ql) < 0) || (decide (Vm.cmpV (Rs.txt pl) (Rs.txt ql) = 0) && (Rs.loI pl && !Rs.loI ql))) = Rm.lt Rs.Ln pl ql
  cases pl with
  | top => exact h1.elim
  | bot =>
    cases ql with
    | top => exact h2.elim
    | bot => rfl
    | pos w b => show (if true || w.isEmpty then true && !w.isEmpty else _) = _; rw [Rs.own_ne h2]; rfl
  | pos v a =>
    cases ql with
    | top => exact h2.elim
    | bot => show (if v.isEmpty || true then v.isEmpty && !true else _) = _; rw [Rs.own_ne h1]; rfl
    | pos w b =>
      show (if v.isEmpty || w.isEmpty then _ else decide (Vm.cmpV v w < 0) || (decide (Vm.cmpV v w = 0) && (!a && !!b))) = _
      rw [Rs.own_ne h1, Rs.own_ne h2, Rs.at_lt h1 h2, Bool.not_not]; rfl
theorem beyondS_lt {p q : Rm.P Rs.Cut} (hp : Rs.Ok2 p) (hq : Rs.Ok2 q) : beyondS (Rs.spOf p) (Rs.spOf q) = Rm.lt Rs.Ln q.hi p.hi := by
  obtain ⟨pl, ph⟩ := p
  obtain ⟨ql, qh⟩ := q
  have h1 : Rs.HiOk ph := hp.2
  have h2 : Rs.HiOk qh := hq.2
  show (if (Rs.txt ph).isEmpty || (Rs.txt qh).isEmpty then (Rs.txt ph).isEmpty && !(Rs.txt qh).isEmpty else decide (0 < Vm.cmpV (Rs.txt ph) (Rs.txt qh)) || (decide (Vm.cmpV (Rs.txt ph) (Rs.txt qh) = 0) && (Rs.aft ph && !Rs.aft qh))) = Rm.lt Rs.Ln qh ph
  cases ph with
  | bot => exact h1.elim
  | top =>
    cases qh with
    | bot => exact h2.elim
    | top => rfl
    | pos w b => show (if true || w.isEmpty then true && !w.isEmpty else _) = _; rw [Rs.own_ne h2]; rfl
  | pos v a =>
    cases qh with
    | bot => exact h2.elim
    | top => show (if v.isEmpty || true then v.isEmpty && !true else _) = _; rw [Rs.own_ne h1]; rfl
    | pos w b =>
      show (if v.isEmpty || w.isEmpty then _ else decide (0 < Vm.cmpV v w) || (decide (Vm.cmpV v w = 0) && (a && !b))) = _
      rw [Rs.own_ne h1, Rs.own_ne h2, Rs.at_lt h2 h1, Vm.cmpV_cmp.1 v w, Bool.eq_iff_iff]
      cases a <;> cases b <;> simp <;> omega
theorem touchS_le {p q : Rm.P Rs.Cut} (hp : Rs.Ok2 p) (hq : Rs.Ok2 q) : touchS (Rs.spOf p) (Rs.spOf q) = Rs.Ln.le q.lo p.hi := by
  obtain ⟨pl, ph⟩ := p
  obtain ⟨ql, qh⟩ := q
  have h1 : Rs.HiOk ph := hp.2
  have h2 : Rs.LoOk ql := hq.1
  show (if (Rs.txt ph).isEmpty || (Rs.txt ql).isEmpty then true else decide (Vm.cmpV (Rs.txt ql) (Rs.txt ph) < 0) || (decide (Vm.cmpV (Rs.txt ql) (Rs.txt ph) = 0) && (Rs.loI ql || Rs.aft ph))) = Rs.Ln.le ql ph
  cases ph with
  | bot => exact h1.elim
  | top => cases ql <;> rfl
  | pos v a =>
    cases ql with
    | top => exact h2.elim
    | bot => show (if v.isEmpty || true then true else _) = _; rw [Bool.or_true]; rfl
    | pos w b =>
      show (if v.isEmpty || w.isEmpty then true else decide (Vm.cmpV w v < 0) || (decide (Vm.cmpV w v = 0) && (!b || a))) = _
      rw [Rs.own_ne h1, Rs.own_ne h2, Rs.at_le h2 h1]; rfl
end Go.Proofs.YtkdildgdodnbbaaGreatDoor
namespace Go.Proofs.YtkdildgdodnbbaaGreatDoor
open Go.RowKit Rs
attribute [local go_sem ↓] Go.wp_at_zero Go.wp_at_succ

theorem refCompare_at (l m : List UInt8) (c : Int) (w : World) (h1 : Vm.check l = 0) (h2 : Vm.check m = 0) (hc : Vm.cmpV l m = c) :
    Calls Tryz.prog 73 #[.string ⟨l.toArray⟩, .string ⟨m.toArray⟩] w fun e w' => e = .returned (.int .i64 c) ∧ Below w.heap.size w w' := by
  have := refCompare_any l m w h1 h2; rw [hc] at this; exact this
set_option maxRecDepth 100000 in
set_option maxHeartbeats 3200000 in
theorem lower_any (lo hi : List UInt8) (li hn : Bool) (lo' hi' : List UInt8) (li' hn' : Bool) (w : World) (h1 : lo.isEmpty = false → Vm.check lo = 0) (h2 : lo'.isEmpty = false → Vm.check lo' = 0) :
    Calls Tryz.prog 89 #[.agg #[.string ⟨lo.toArray⟩, .string ⟨hi.toArray⟩, .bool li, .bool hn], .agg #[.string ⟨lo'.toArray⟩, .string ⟨hi'.toArray⟩, .bool li', .bool hn']] w fun e w' => e = .returned (.bool (lowerS (Sp.mk lo hi li hn) (Sp.mk lo' hi' li' hn'))) ∧ Below w.heap.size w w' := by
  have H1 := Lib.hid h1
  have H2 := Lib.hid h2
  obtain ⟨R, hR⟩ : ∃ R, lowerS (Sp.mk lo hi li hn) (Sp.mk lo' hi' li' hn') = R := ⟨_, rfl⟩
  rw [hR]
  have HR := Lib.hid hR
  have HST : Stable (fun u => Box2 w u lo hi li hn lo' hi' li' hn') := box2_stable w _ _ _ _ _ _ _ _
  have HI := box2_new w 90 lo hi li hn lo' hi' li' hn'
  clear h1 h2 hR
  cases e1 : lo.isEmpty
  · cases e2 : lo'.isEmpty
    · have K1 := Lib.hid (H1.out e1)
      have K2 := Lib.hid (H2.out e2)
      obtain ⟨c, hc⟩ : ∃ c, Vm.cmpV lo lo' = c := ⟨_, rfl⟩
      have rg := Vm.cmpV_range lo lo'
      have HC := Lib.hid hc
      rw [hc] at rg
      have HF : Hid (∀ b, b = lowerS (Sp.mk lo hi li hn) (Sp.mk lo' hi' li' hn') → b = R) := fun b hb => hb.trans HR.out
      clear H1 H2 hc HR
      go_enter Tryz.func89, Tryz.ntmps89
      go_wp2_with fail
      refine (refCompare_at lo lo' c _ K1.out K2.out HC.out).mono ?_
      rintro _ w1 ⟨rfl, hb⟩
      have HI1 := kp_step HST hb HI
      clear hb HI HST
      obtain ⟨⟨⟨c0, c1, c2, c3, _⟩, ⟨d0, d1, d2, d3, _⟩⟩, _⟩ := HI1.out
      rcases (show c = -1 ∨ c = 0 ∨ c = 1 by omega) with rfl | rfl | rfl
      all_goals
        cases li <;> cases li'
      all_goals
        go_wp2_with fail
        go_ret
        refine ⟨?_, kp_below HI1⟩
        rw [← HF.out _ rfl]
        unfold lowerS
        rw [e1, e2, HC.out]
        rfl
    · have HF : Hid (∀ b, b = lowerS (Sp.mk lo hi li hn) (Sp.mk lo' hi' li' hn') → b = R) := fun b hb => hb.trans HR.out
      clear H1 H2 HR HST
      go_enter Tryz.func89, Tryz.ntmps89
      go_wp2_with fail
      go_ret
      refine ⟨?_, kp_below HI⟩
      rw [← HF.out _ rfl]
      unfold lowerS
      rw [e1, e2]
      rfl
  · cases e2 : lo'.isEmpty
    all_goals
      have HF : Hid (∀ b, b = lowerS (Sp.mk lo hi li hn) (Sp.mk lo' hi' li' hn') → b = R) := fun b hb => hb.trans HR.out
      clear H1 H2 HR HST
      go_enter Tryz.func89, Tryz.ntmps89
      go_wp2_with fail
      go_ret
      refine ⟨?_, kp_below HI⟩
      rw [← HF.out _ rfl]
      unfold lowerS
      rw [e1, e2]
      rfl
set_option maxRecDepth 100000 in
set_option maxHeartbeats 3200000 in
theorem beyond_any (lo hi : List UInt8) (li hn : Bool) (lo' hi' : List UInt8) (li' hn' : Bool) (w : World) (h1 : hi.isEmpty = false → Vm.check hi = 0) (h2 : hi'.isEmpty = false → Vm.check hi' = 0) :
    Calls Tryz.prog 90 #[.agg #[.string ⟨lo.toArray⟩, .string ⟨hi.toArray⟩, .bool li, .bool hn], .agg #[.string ⟨lo'.toArray⟩, .string ⟨hi'.toArray⟩, .bool li', .bool hn']] w fun e w' => e = .returned (.bool (beyondS (Sp.mk lo hi li hn) (Sp.mk lo' hi' li' hn'))) ∧ Below w.heap.size w w' := by
  have H1 := Lib.hid h1
  have H2 := Lib.hid h2
  obtain ⟨R, hR⟩ : ∃ R, beyondS (Sp.mk lo hi li hn) (Sp.mk lo' hi' li' hn') = R := ⟨_, rfl⟩
  rw [hR]
  have HR := Lib.hid hR
  have HST : Stable (fun u => Box2 w u lo hi li hn lo' hi' li' hn') := box2_stable w _ _ _ _ _ _ _ _
  have HI := box2_new w 90 lo hi li hn lo' hi' li' hn'
  clear h1 h2 hR
  cases e1 : hi.isEmpty
  · cases e2 : hi'.isEmpty
    · have K1 := Lib.hid (H1.out e1)
      have K2 := Lib.hid (H2.out e2)
      obtain ⟨c, hc⟩ : ∃ c, Vm.cmpV hi hi' = c := ⟨_, rfl⟩
      have rg := Vm.cmpV_range hi hi'
      have HC := Lib.hid hc
      rw [hc] at rg
      have HF : Hid (∀ b, b = beyondS (Sp.mk lo hi li hn) (Sp.mk lo' hi' li' hn') → b = R) := fun b hb => hb.trans HR.out
      clear H1 H2 hc HR
      go_enter Tryz.func90, Tryz.ntmps90
      go_wp2_with fail
      refine (refCompare_at hi hi' c _ K1.out K2.out HC.out).mono ?_
      rintro _ w1 ⟨rfl, hb⟩
      have HI1 := kp_step HST hb HI
      clear hb HI HST
      obtain ⟨⟨⟨c0, c1, c2, c3, _⟩, ⟨d0, d1, d2, d3, _⟩⟩, _⟩ := HI1.out
      rcases (show c = -1 ∨ c = 0 ∨ c = 1 by omega) with rfl | rfl | rfl
      all_goals
        cases hn <;> cases hn'
      all_goals
        go_wp2_with fail
        go_ret
        refine ⟨?_, kp_below HI1⟩
        rw [← HF.out _ rfl]
        unfold beyondS
        rw [e1, e2, HC.out]
        rfl
    · have HF : Hid (∀ b, b = beyondS (Sp.mk lo hi li hn) (Sp.mk lo' hi' li' hn') → b = R) := fun b hb => hb.trans HR.out
      clear H1 H2 HR HST
      go_enter Tryz.func90, Tryz.ntmps90
      go_wp2_with fail
      go_ret
      refine ⟨?_, kp_below HI⟩
      rw [← HF.out _ rfl]
      unfold beyondS
      rw [e1, e2]
      rfl
  · cases e2 : hi'.isEmpty
    all_goals
      have HF : Hid (∀ b, b = beyondS (Sp.mk lo hi li hn) (Sp.mk lo' hi' li' hn') → b = R) := fun b hb => hb.trans HR.out
      clear H1 H2 HR HST
      go_enter Tryz.func90, Tryz.ntmps90
      go_wp2_with fail
      go_ret
      refine ⟨?_, kp_below HI⟩
      rw [← HF.out _ rfl]
      unfold beyondS
      rw [e1, e2]
      rfl
set_option maxRecDepth 100000 in
set_option maxHeartbeats 3200000 in
theorem touch_any (lo hi : List UInt8) (li hn : Bool) (lo' hi' : List UInt8) (li' hn' : Bool) (w : World) (h1 : hi.isEmpty = false → Vm.check hi = 0) (h2 : lo'.isEmpty = false → Vm.check lo' = 0) :
    Calls Tryz.prog 111 #[.agg #[.string ⟨lo.toArray⟩, .string ⟨hi.toArray⟩, .bool li, .bool hn], .agg #[.string ⟨lo'.toArray⟩, .string ⟨hi'.toArray⟩, .bool li', .bool hn']] w fun e w' => e = .returned (.bool (touchS (Sp.mk lo hi li hn) (Sp.mk lo' hi' li' hn'))) ∧ Below w.heap.size w w' := by
  have H1 := Lib.hid h1
  have H2 := Lib.hid h2
  obtain ⟨R, hR⟩ : ∃ R, touchS (Sp.mk lo hi li hn) (Sp.mk lo' hi' li' hn') = R := ⟨_, rfl⟩
  rw [hR]
  have HR := Lib.hid hR
  have HST : Stable (fun u => Box2 w u lo hi li hn lo' hi' li' hn') := box2_stable w _ _ _ _ _ _ _ _
  have HI := box2_new w 90 lo hi li hn lo' hi' li' hn'
  clear h1 h2 hR
  cases e1 : hi.isEmpty
  · cases e2 : lo'.isEmpty
    · have K1 := Lib.hid (H1.out e1)
      have K2 := Lib.hid (H2.out e2)
      obtain ⟨c, hc⟩ : ∃ c, Vm.cmpV lo' hi = c := ⟨_, rfl⟩
      have rg := Vm.cmpV_range lo' hi
      have HC := Lib.hid hc
      rw [hc] at rg
      have HF : Hid (∀ b, b = touchS (Sp.mk lo hi li hn) (Sp.mk lo' hi' li' hn') → b = R) := fun b hb => hb.trans HR.out
      clear H1 H2 hc HR
      go_enter Tryz.func111, Tryz.ntmps111
      go_wp2_with fail
      refine (refCompare_at lo' hi c _ K2.out K1.out HC.out).mono ?_
      rintro _ w1 ⟨rfl, hb⟩
      have HI1 := kp_step HST hb HI
      clear hb HI HST
      obtain ⟨⟨⟨c0, c1, c2, c3, _⟩, ⟨d0, d1, d2, d3, _⟩⟩, _⟩ := HI1.out
      rcases (show c = -1 ∨ c = 0 ∨ c = 1 by omega) with rfl | rfl | rfl
      all_goals
        cases li' <;> cases hn
      all_goals
        go_wp2_with fail
        go_ret
        refine ⟨?_, kp_below HI1⟩
        rw [← HF.out _ rfl]
        unfold touchS
        rw [e1, e2, HC.out]
        rfl
    · have HF : Hid (∀ b, b = touchS (Sp.mk lo hi li hn) (Sp.mk lo' hi' li' hn') → b = R) := fun b hb => hb.trans HR.out
      clear H1 H2 HR HST
      go_enter Tryz.func111, Tryz.ntmps111
      go_wp2_with fail
      go_ret
      refine ⟨?_, kp_below HI⟩
      rw [← HF.out _ rfl]
      unfold touchS
      rw [e1, e2]
      rfl
  · cases e2 : lo'.isEmpty
    all_goals
      have HF : Hid (∀ b, b = touchS (Sp.mk lo hi li hn) (Sp.mk lo' hi' li' hn') → b = R) := fun b hb => hb.trans HR.out
      clear H1 H2 HR HST
      go_enter Tryz.func111, Tryz.ntmps111
      go_wp2_with fail
      go_ret
      refine ⟨?_, kp_below HI⟩
      rw [← HF.out _ rfl]
      unfold touchS
      rw [e1, e2]
      rfl
end Go.Proofs.YtkdildgdodnbbaaGreatDoor
namespace Go.Proofs.YtkdildgdodnbbaaGreatDoor
open Go.RowKit Rs
attribute [local go_sem ↓] Go.wp_at_zero Go.wp_at_succ

theorem bound_at (v : List UInt8) (k : Int) (w : World) (hk : Rs.bound v = k) : Calls Tryz.prog 92 #[.string ⟨v.toArray⟩] w fun e w' => e = .returned (.int .i64 k) ∧ Below w.heap.size w w' := by
  have := bound_any v w; rw [hk] at this; exact this
set_option maxRecDepth 100000 in
set_option maxHeartbeats 6400000 in
theorem span_any (lo hi : List UInt8) (li hn : Bool) (w : World) :
    Calls Tryz.prog 72 #[.agg #[.string ⟨lo.toArray⟩, .string ⟨hi.toArray⟩, .bool li, .bool hn]] w fun e w' => e = .returned (.int .i64 (span lo hi li hn)) ∧ Below w.heap.size w w' := by
  obtain ⟨R, hR⟩ : ∃ R, span lo hi li hn = R := ⟨_, rfl⟩
  rw [hR]
  have HF : Hid (∀ b, b = span lo hi li hn → b = R) := fun b hb => hb.trans hR
  clear hR
  have HST : Stable (fun u => Box u w.heap.size lo hi li hn) := box_stable _ _ _ _ _
  have HI : Hid (Kp (fun u => Box u w.heap.size lo hi li hn) w (w.alloc (.cells #[.string ⟨lo.toArray⟩, .string ⟨hi.toArray⟩, .bool li, .bool hn] 90))) := ⟨box_new .., by simp, (Below.refl _ _).alloc (Nat.le_refl _) _⟩
  obtain ⟨k1, hk1⟩ : ∃ k, Rs.bound lo = k := ⟨_, rfl⟩
  obtain ⟨k2, hk2⟩ : ∃ k, Rs.bound hi = k := ⟨_, rfl⟩
  have G1 := Lib.hid hk1
  have G2 := Lib.hid hk2
  clear hk1 hk2
  go_enter Tryz.func72, Tryz.ntmps72
  go_wp2_with fail
  refine (bound_at lo k1 _ G1.out).mono ?_
  rintro _ w1 ⟨rfl, hb⟩
  have HI1 := kp_step HST hb HI
  clear hb HI
  obtain ⟨⟨c0, c1, c2, c3, _⟩, _⟩ := HI1.out
  by_cases n1 : k1 = 0
  · subst n1
    go_wp2_with fail
    refine (bound_at hi k2 _ G2.out).mono ?_
    rintro _ w2 ⟨rfl, hb⟩
    have HI2 := kp_step HST hb HI1
    clear hb HI1 c0 c1 c2 c3
    obtain ⟨⟨c0, c1, c2, c3, _⟩, _⟩ := HI2.out
    by_cases n2 : k2 = 0
    · subst n2
      cases e1 : lo.isEmpty <;> cases e2 : hi.isEmpty
      · have K1 := Lib.hid (Rs.bound_own G1.out e1).1
        have K2 := Lib.hid (Rs.bound_own G2.out e2).1
        obtain ⟨c, hc⟩ : ∃ c, Vm.cmpV lo hi = c := ⟨_, rfl⟩
        have rg := Vm.cmpV_range lo hi
        have HC := Lib.hid hc
        rw [hc] at rg
        clear hc
        go_wp2_with fail
        refine (refCompare_at lo hi c _ K1.out K2.out HC.out).mono ?_
        rintro _ w3 ⟨rfl, hb⟩
        have HI3 := kp_step HST hb HI2
        clear hb HI2 HST c0 c1 c2 c3
        obtain ⟨⟨c0, c1, c2, c3, _⟩, _⟩ := HI3.out
        rcases (show c = -1 ∨ c = 0 ∨ c = 1 by omega) with rfl | rfl | rfl
        all_goals
          cases li <;> cases hn
        all_goals
          go_wp2_with fail
          go_ret
          refine ⟨?_, kp_below HI3⟩
          rw [← HF.out _ rfl]
          unfold span
          rw [if_neg (by simp [G1.out]), if_neg (by simp [G2.out]), e1, e2, HC.out]
          rfl
      all_goals
        clear HST
        cases li <;> cases hn
      all_goals
        go_wp2_with fail
        go_ret
        refine ⟨?_, kp_below HI2⟩
        rw [← HF.out _ rfl]
        unfold span
        rw [if_neg (by simp [G1.out]), if_neg (by simp [G2.out]), e1, e2]
        rfl
    · have hk : (k2 == 0) = false := beq_eq_false_iff_ne.2 n2
      have hk' : (k2 != 0) = true := by simpa using n2
      have HK := Lib.hid n2
      clear n2 HST
      go_wp2_with fail
      go_ret
      refine ⟨?_, kp_below HI2⟩
      rw [← HF.out k2 (by unfold span; rw [if_neg (by simp [G1.out]), if_pos (by rw [G2.out]; exact HK.out)]; exact G2.out.symm)]
      rfl
  · have hk : (k1 == 0) = false := beq_eq_false_iff_ne.2 n1
    have hk' : (k1 != 0) = true := by simpa using n1
    have HK := Lib.hid n1
    clear n1 HST
    go_wp2_with fail
    go_ret
    refine ⟨?_, kp_below HI1⟩
    rw [← HF.out k1 (by unfold span; rw [if_pos (by rw [G1.out]; exact HK.out)]; exact G1.out.symm)]
    rfl


end Go.Proofs.YtkdildgdodnbbaaGreatDoor
namespace Go.Proofs.YtkdildgdodnbbaaGreatDoor
open Go.RowKit Rs
attribute [local go_sem ↓] Go.wp_at_zero Go.wp_at_succ

theorem keepRR {w1 u u' : World} {p q : Addr} {x0 x1 x2 x3 y0 y1 y2 y3 : Value} (hp1 : p.block < w1.heap.size) (hq1 : q.block < w1.heap.size)
    (h : u.cell? p = some x0 ∧ u.cell? ⟨p.block, p.off + 1, none⟩ = some x1 ∧ u.cell? ⟨p.block, p.off + 2, none⟩ = some x2 ∧ u.cell? ⟨p.block, p.off + 3, none⟩ = some x3 ∧ u.cell? q = some y0 ∧ u.cell? ⟨q.block, q.off + 1, none⟩ = some y1 ∧ u.cell? ⟨q.block, q.off + 2, none⟩ = some y2 ∧ u.cell? ⟨q.block, q.off + 3, none⟩ = some y3 ∧ w1.heap.size ≤ u.heap.size ∧ Below w1.heap.size w1 u) (hb : Below u.heap.size u u') :
    u'.cell? p = some x0 ∧ u'.cell? ⟨p.block, p.off + 1, none⟩ = some x1 ∧ u'.cell? ⟨p.block, p.off + 2, none⟩ = some x2 ∧ u'.cell? ⟨p.block, p.off + 3, none⟩ = some x3 ∧ u'.cell? q = some y0 ∧ u'.cell? ⟨q.block, q.off + 1, none⟩ = some y1 ∧ u'.cell? ⟨q.block, q.off + 2, none⟩ = some y2 ∧ u'.cell? ⟨q.block, q.off + 3, none⟩ = some y3 ∧ w1.heap.size ≤ u'.heap.size ∧ Below w1.heap.size w1 u' := by
  obtain ⟨h0, h1, h2, h3, h4, h5, h6, h7, h8, h9⟩ := h
  have e : ∀ a : Addr, a.block < w1.heap.size → u'.cell? a = u.cell? a := fun a ha => hb.cell (by omega)
  refine ⟨?_, ?_, ?_, ?_, ?_, ?_, ?_, ?_, Nat.le_trans h8 hb.size, h9.trans (hb.mono h8)⟩
  · rw [e p hp1]; exact h0
  · rw [e ⟨p.block, p.off + 1, none⟩ hp1]; exact h1
  · rw [e ⟨p.block, p.off + 2, none⟩ hp1]; exact h2
  · rw [e ⟨p.block, p.off + 3, none⟩ hp1]; exact h3
  · rw [e q hq1]; exact h4
  · rw [e ⟨q.block, q.off + 1, none⟩ hq1]; exact h5
  · rw [e ⟨q.block, q.off + 2, none⟩ hq1]; exact h6
  · rw [e ⟨q.block, q.off + 3, none⟩ hq1]; exact h7
theorem spanAt_any (lo hi : List UInt8) (li hn : Bool) (k : Int) (w : World) (hk : span lo hi li hn = k) :
    Calls Tryz.prog 72 #[.agg #[.string ⟨lo.toArray⟩, .string ⟨hi.toArray⟩, .bool li, .bool hn]] w fun e w' => e = .returned (.int .i64 k) ∧ Below w.heap.size w w' := by
  have := span_any lo hi li hn w; rw [hk] at this; exact this
set_option maxRecDepth 100000 in
set_option maxHeartbeats 6400000 in
theorem checkRange_any (A : Option Addr) (n c : Nat) (l : List Sp) (w : World) (hn : l.length = n) (hr : SRow w A l) (hl : n ≤ 1000) :
    Calls Tryz.prog 44 #[.slice A n c] w fun e w' => e = .returned (.int .i64 (checkR l)) ∧ Below w.heap.size w w' := by
  have HR := Lib.hid hr
  have HN := Lib.hid hn
  obtain ⟨E, hE⟩ : ∃ E, checkR l = E := ⟨_, rfl⟩
  rw [hE]
  have HE := Lib.hid hE
  clear hn hr hE
  go_enter Tryz.func44, Tryz.ntmps44
  go_wp2_with fail
  go_loopw [3] (fun i wr => ∃ k : Nat, k ≤ n ∧ i = .int .i64 k ∧ Hid (CkSt l k) ∧ Hid (Below w.heap.size w wr ∧ w.heap.size ≤ wr.heap.size)) (fun i _ => n - (intOf i).toNat)
  case atStart => exact ⟨0, Nat.zero_le _, rfl, ckSt_start l, Below.refl _ _, Nat.le_refl _⟩
  case round =>
    obtain ⟨k, hk, rfl, HS, HB⟩ := hrel
    by_cases hlt : k < n
    · have hlr : k < l.length := by rw [HN.out]; exact hlt
      obtain ⟨ad, lo, hi, li, hh, rfl, hs, hbl, c0, c1, c2, c3⟩ := srow_at (srow_below HR.out HB.out.1) k hlr
      obtain ⟨st1, st2, st3, st4⟩ := ckSt_step HS.out hlr
      have HSS := Lib.hid hs
      rw [hs] at st2 st3 st4
      have ST1 := Lib.hid st1
      have ST2 := Lib.hid st2
      have ST3 := Lib.hid st3
      have ST4 := Lib.hid st4
      clear hs st1 st2 st3 st4
      by_cases h64 : 64 ≤ k
      · have hEk : Hid (E = 4) := by show _ = _; rw [← HE.out]; exact ST1.out h64
        have hd : decide ((64 : Int) ≤ (k : Int)) = true := decide_eq_true (by omega)
        clear h64
        go_wp2_with fail
        go_ret
        exact ⟨by rw [hEk.out]; rfl, HB.out.1⟩
      have hd : decide ((64 : Int) ≤ (k : Int)) = false := decide_eq_false (by omega)
      obtain ⟨e, he⟩ : ∃ e, span lo hi li hh = e := ⟨_, rfl⟩
      have HSP := Lib.hid he
      clear he
      go_wp2_with fail
      refine (spanAt_any lo hi li hh e _ HSP.out).mono ?_
      rintro _ w1 ⟨rfl, hb⟩
      have HB1 : Hid (Below w.heap.size w w1 ∧ w.heap.size ≤ w1.heap.size) := ⟨HB.out.1.trans (hb.mono HB.out.2), Nat.le_trans HB.out.2 hb.size⟩
      have hbw : ad.block < w1.heap.size := Nat.lt_of_lt_of_le hbl hb.size
      clear hb c0 c1 c2 c3 hd
      by_cases hsp : e = 0
      · subst hsp
        have hse : (Sp.mk lo hi li hh).err = 0 := HSP.out
        by_cases hk0 : k = 0
        · have NS : Hid (CkSt l 1) := ST3.out hk0 hse
          subst hk0
          clear hse h64 ST1 ST2 ST3 ST4
          go_wp2_with fail
          go_roundw
          case rel => exact ⟨1, by omega, rfl, NS, HB1⟩
          case measure => simp [intOf]; omega
        · have hkm : k - 1 < l.length := by omega
          have hgk : l[k - 1]? = some l[k - 1] := List.getElem?_eq_getElem hkm
          obtain ⟨pe, sy, sn⟩ := ST4.out h64 _ (by omega) hgk hse
          obtain ⟨ad2, plo, phi, pli, ph, had, hps, _, d0, d1, d2, d3⟩ := srow_at (srow_below HR.out HB1.out.1) (k - 1) hkm
          obtain rfl := Option.some.inj had
          obtain ⟨ad3, lo2, hi2, li2, hh2, had, hs2, _, c0, c1, c2, c3⟩ := srow_at (srow_below HR.out HB1.out.1) k hlr
          obtain rfl := Option.some.inj had
          rw [HSS.out] at hs2
          obtain ⟨rfl, rfl, rfl, rfl⟩ := Sp.mk.inj hs2
          rw [hps] at pe sy sn
          have B1 := Lib.hid (span_bounds HSP.out).1
          have B2 := Lib.hid (span_bounds (lo := plo) (hi := phi) (li := pli) (hn := ph) pe).2.1
          have hbe : behind (Sp.mk plo phi pli ph) ⟨lo, hi, li, hh⟩ = (!(phi.isEmpty || lo.isEmpty) && !(decide (Vm.cmpV lo phi < 0) || (decide (Vm.cmpV lo phi = 0) && (li || ph)))) := rfl
          rw [hbe] at sy sn
          have SY := Lib.hid sy
          have SN := Lib.hid sn
          have g1 : (0 : Int) ≤ (k : Int) - 1 := by omega
          have g6 : (1 : Int) ≤ (k : Int) := by omega
          have g2 : (k : Int) - 1 < (n : Int) := by omega
          have g3 : ((k : Int) - 1).toNat = k - 1 := by omega
          have g5 : IntKind.i64.wrap ((k : Int) - 1) = (k : Int) - 1 := IntWalk.i64_in _ (by omega)
          have g8 : ((k : Int) == 0) = false := beq_eq_false_iff_ne.2 (by omega)
          have hp1 : (ad.add (k * 4)).block < w1.heap.size := by rw [add_block]; exact hbw
          have hq1 : (ad.add ((k - 1) * 4)).block < w1.heap.size := by rw [add_block]; exact hbw
          clear hse h64 ST1 ST2 ST3 ST4 pe sy sn hps hgk had hs2 hbe hbw
          cases e1 : phi.isEmpty
          · cases e2 : lo.isEmpty
            · have K1 := Lib.hid (Rs.bound_own B1.out e2).1
              have K2 := Lib.hid (Rs.bound_own B2.out e1).1
              obtain ⟨x, hx⟩ : ∃ x, Vm.cmpV lo phi = x := ⟨_, rfl⟩
              have rg := Vm.cmpV_range lo phi
              have HC := Lib.hid hx
              rw [hx] at rg
              clear hx
              have HY : Hid ((decide (x < 0) || (decide (x = 0) && (li || ph))) = false → CkSt l (k + 1)) := fun h => SY.out (by rw [e1, e2, HC.out, h]; rfl)
              have HZ : Hid ((decide (x < 0) || (decide (x = 0) && (li || ph))) = true → E = 7) := fun h => by rw [← HE.out]; exact SN.out (by rw [e1, e2, HC.out, h]; rfl)
              clear SY SN
              go_wp2_with fail
              go_region_held3 (fun w' => w'.cell? (ad.add (k * 4)) = some (.string ⟨lo.toArray⟩) ∧ w'.cell? ⟨(ad.add (k * 4)).block, (ad.add (k * 4)).off + 1, none⟩ = some (.string ⟨hi.toArray⟩) ∧ w'.cell? ⟨(ad.add (k * 4)).block, (ad.add (k * 4)).off + 2, none⟩ = some (.bool li) ∧ w'.cell? ⟨(ad.add (k * 4)).block, (ad.add (k * 4)).off + 3, none⟩ = some (.bool hh) ∧
                  w'.cell? (ad.add ((k - 1) * 4)) = some (.string ⟨plo.toArray⟩) ∧ w'.cell? ⟨(ad.add ((k - 1) * 4)).block, (ad.add ((k - 1) * 4)).off + 1, none⟩ = some (.string ⟨phi.toArray⟩) ∧ w'.cell? ⟨(ad.add ((k - 1) * 4)).block, (ad.add ((k - 1) * 4)).off + 2, none⟩ = some (.bool pli) ∧ w'.cell? ⟨(ad.add ((k - 1) * 4)).block, (ad.add ((k - 1) * 4)).off + 3, none⟩ = some (.bool ph) ∧ w1.heap.size ≤ w'.heap.size ∧ Below w1.heap.size w1 w')
                (first
                  | exact ⟨c0, c1, c2, c3, d0, d1, d2, d3, Nat.le_refl _, (Below.refl _ _).drew⟩
                  | assumption
                  | (refine keepRR hp1 hq1 ?_ hb; assumption))
                (first
                  | (go_at_call 73; refine (refCompare_at lo phi x _ K1.out K2.out HC.out).mono ?_; rintro _ w4 ⟨rfl, hb⟩))
              rename_i HCC
              obtain ⟨c0, c1, c2, c3, d0, d1, d2, d3, z1, z2⟩ := HCC
              have HB4 : Hid (Below w.heap.size w w4 ∧ w.heap.size ≤ w4.heap.size) := ⟨HB1.out.1.trans (z2.mono HB1.out.2), Nat.le_trans HB1.out.2 z1⟩
              clear z1 z2
              rcases (show x = -1 ∨ x = 0 ∨ x = 1 by omega) with rfl | rfl | rfl
              · have hE7 : Hid (E = 7) := HZ.out rfl
                go_wp2_with fail
                go_ret
                exact ⟨by rw [hE7.out]; rfl, HB4.out.1⟩
              · cases li
                · cases ph
                  · have NS : Hid (CkSt l (k + 1)) := HY.out rfl
                    go_wp2_with fail
                    go_roundw
                    case rel => exact ⟨k + 1, by omega, by go_num, NS, HB4⟩
                    case measure => simp [intOf]; omega
                  · have hE7 : Hid (E = 7) := HZ.out rfl
                    go_wp2_with fail
                    go_ret
                    exact ⟨by rw [hE7.out]; rfl, HB4.out.1⟩
                · have hE7 : Hid (E = 7) := HZ.out (by simp)
                  go_wp2_with fail
                  go_ret
                  exact ⟨by rw [hE7.out]; rfl, HB4.out.1⟩
              · have NS : Hid (CkSt l (k + 1)) := HY.out (by simp)
                go_wp2_with fail
                go_roundw
                case rel => exact ⟨k + 1, by omega, by go_num, NS, HB4⟩
                case measure => simp [intOf]; omega
            · have hE7 : Hid (E = 7) := by show _ = _; rw [← HE.out]; exact SN.out (by rw [e2]; simp)
              go_wp2_with fail
              go_ret
              exact ⟨by rw [hE7.out]; rfl, HB1.out.1⟩
          · have hE7 : Hid (E = 7) := by show _ = _; rw [← HE.out]; exact SN.out (by rw [e1]; simp)
            go_wp2_with fail
            go_ret
            exact ⟨by rw [hE7.out]; rfl, HB1.out.1⟩
      · have hEk : Hid (E = e) := by show _ = _; rw [← HE.out, ← HSP.out]; exact ST2.out h64 (by show span _ _ _ _ ≠ 0; rw [HSP.out]; exact hsp)
        have hne : (e != 0) = true := by simpa using hsp
        clear h64 hsp
        go_wp2_with fail
        go_ret
        exact ⟨by rw [hEk.out]; rfl, HB1.out.1⟩
    · have hE0 : Hid (E = 0) := by
        show _ = _
        rw [← HE.out, HS.out.1, List.drop_eq_nil_of_le (by rw [HN.out]; omega)]; rfl
      go_wp2_with fail
      go_ret
      exact ⟨by rw [hE0.out]; rfl, HB.out.1⟩
end Go.Proofs.YtkdildgdodnbbaaGreatDoor
