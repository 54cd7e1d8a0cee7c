/- WeightRow and WeightGreatest. -/
import Derived.Test.YtaghhdgiegcimaaDoorWs
namespace Go.Proofs.YtaghhdgiegcimaaDoor
open Go.RowKit

theorem compareC (a b : Nat) (ha : a < Wm.W) (hb : b < Wm.W) (w : World) :
    Calls Tryd.prog 24 #[.float .f64 a, .float .f64 b] w fun e w' => e = .returned (.int .i64 (cmpW a b)) ∧ w = w' := compare_w a b ha hb w
theorem cmpW_trans {a b c : Nat} (h1 : cmpW a b ≤ 0) (h2 : cmpW b c ≤ 0) : cmpW a c ≤ 0 := by
  unfold cmpW at *
  have s1 := sgn_eq (Wm.placeN a) (Wm.placeN b)
  have s2 := sgn_eq (Wm.placeN b) (Wm.placeN c)
  have s3 := sgn_eq (Wm.placeN a) (Wm.placeN c)
  omega
theorem cmpW_sk {a b : Nat} (ha : a < Wm.W) (hb : b < Wm.W) (hna : Wm.nan a = false) (hnb : Wm.nan b = false) (hne : Wm.sk a ≠ Wm.sk b) : (cmpW a b < 0) ↔ (Wm.sk a < Wm.sk b) := by
  have s1 := sgn_eq (Wm.placeN a) (Wm.placeN b)
  have ca := class_of a ha
  have cb := class_of b hb
  unfold cmpW
  rw [hna] at ca
  rw [hnb] at cb
  simp only [Bool.false_eq_true, false_and, false_or, true_and] at ca cb
  generalize Vm.sgn (Wm.placeN a) (Wm.placeN b) = v at *
  generalize Wm.neg a = ga at *
  generalize Wm.neg b = gb at *
  obtain ⟨a1, a2, a3, a4, a5, _⟩ := ca
  obtain ⟨b1, b2, b3, b4, b5, _⟩ := cb
  cases ga <;> cases gb <;> simp only [Bool.false_eq_true, Bool.true_eq_false, if_false, if_true, false_implies, forall_const] at * <;> omega
set_option maxHeartbeats 2000000 in
theorem weightRow_any (a b c : Nat) (ha : a < Wm.W) (hb : b < Wm.W) (hc : c < Wm.W) (w : World) (hk : KOk w) :
    Calls Tryd.prog 10 #[.int .u64 a, .int .u64 b, .int .u64 c] w fun e w' => e = .returned (.bool true) ∧ Below w.heap.size w w' := by
  have hfb := fb_run
  have o1 := Wm.ord_self a ha
  have o2 := Wm.ord_self b hb
  have o3 := Wm.ord_eq a b ha hb
  have o4 := Wm.ord_lt a b ha hb
  have HT := Lib.hid (@cmpW_trans a b c)
  have HC := compareC a b ha hb
  obtain ⟨v1, h1⟩ : ∃ v, cmpW a b = v := ⟨_, rfl⟩
  obtain ⟨v2, h2⟩ : ∃ v, cmpW b c = v := ⟨_, rfl⟩
  obtain ⟨v3, h3⟩ : ∃ v, cmpW a c = v := ⟨_, rfl⟩
  have C1 : Hid (∀ W, Calls Tryd.prog 24 #[.float .f64 a, .float .f64 b] W fun e w' => e = .returned (.int .i64 v1) ∧ W = w') := by show ∀ W, _; rw [← h1]; exact compareC a b ha hb
  have C2 : Hid (∀ W, Calls Tryd.prog 24 #[.float .f64 b, .float .f64 c] W fun e w' => e = .returned (.int .i64 v2) ∧ W = w') := by show ∀ W, _; rw [← h2]; exact compareC b c hb hc
  have C3 : Hid (∀ W, Calls Tryd.prog 24 #[.float .f64 a, .float .f64 c] W fun e w' => e = .returned (.int .i64 v3) ∧ W = w') := by show ∀ W, _; rw [← h3]; exact compareC a c ha hc
  have HT : Hid (v1 ≤ 0 → v2 ≤ 0 → v3 ≤ 0) := by show _ → _ → _; rw [← h1, ← h2, ← h3]; exact cmpW_trans
  clear h1 h2 h3 HC
  go_enter Tryd.func10, Tryd.ntmps10
  go_wp2_with fail
  refine (known_any w hk).mono ?_
  rintro e w1 ⟨rfl, h1⟩
  have HD := Lib.hid h1
  clear h1 hk
  go_wp2_with fail
  refine (C1.out _).mono ?_
  rintro e w2 ⟨g1, g2⟩; subst g2; subst g1
  by_cases c1 : v1 ≤ 0
  · go_wp2_with fail
    refine (C2.out _).mono ?_
    rintro e w3 ⟨g1, g2⟩; subst g2; subst g1
    by_cases c2 : v2 ≤ 0
    · have c3 := HT.out c1 c2
      go_wp2_with fail
      refine (C3.out _).mono ?_
      rintro e w4 ⟨g1, g2⟩; subst g2; subst g1
      clear C1 C2 C3 HT c1 c2
      cases hna : Wm.nan a
      · cases hnb : Wm.nan b
        · rw [hna] at o1
          rw [hnb] at o2
          rw [hna, hnb] at o3 o4
          simp only [Bool.not_false, Bool.true_and] at o3 o4
          by_cases hs : Wm.sk a = Wm.sk b
          · rw [decide_eq_true hs] at o3
            clear o4 hs hna hnb
            go_wp2_with fail
            go_ret
            exact ⟨rfl, HD.out⟩
          · have HI := Lib.hid (cmpW_sk ha hb hna hnb hs)
            rw [decide_eq_false hs] at o3
            clear hs hna hnb
            go_wp2_with fail
            refine (compareC a b ha hb _).mono ?_
            rintro e w5 ⟨g1, g2⟩; subst g2; subst g1
            by_cases hl : Wm.sk a < Wm.sk b
            · have hv := HI.out.2 hl
              rw [decide_eq_true hl] at o4
              generalize cmpW a b = v at *
              clear hl
              go_wp2_with fail
              go_ret
              exact ⟨by first | rfl | (rw [decide_eq_true hv]; rfl), HD.out⟩
            · have hv : ¬ cmpW a b < 0 := fun h => hl (HI.out.1 h)
              rw [decide_eq_false hl] at o4
              generalize cmpW a b = v at *
              clear hl
              go_wp2_with fail
              go_ret
              exact ⟨by first | rfl | (rw [decide_eq_false (show ¬ v < 0 by omega)]; rfl), HD.out⟩
        · rw [hna] at o1
          rw [hnb] at o2
          clear o3 o4 hna hnb
          go_wp2_with fail
          go_ret
          exact ⟨rfl, HD.out⟩
      · rw [hna] at o1
        clear o2 o3 o4 hna
        go_wp2_with fail
        go_ret
        exact ⟨rfl, HD.out⟩
    · clear C1 C2 C3 HT c1
      cases hna : Wm.nan a
      · cases hnb : Wm.nan b
        · rw [hna] at o1
          rw [hnb] at o2
          rw [hna, hnb] at o3 o4
          simp only [Bool.not_false, Bool.true_and] at o3 o4
          by_cases hs : Wm.sk a = Wm.sk b
          · rw [decide_eq_true hs] at o3
            clear o4 hs hna hnb
            go_wp2_with fail
            go_ret
            exact ⟨rfl, HD.out⟩
          · have HI := Lib.hid (cmpW_sk ha hb hna hnb hs)
            rw [decide_eq_false hs] at o3
            clear hs hna hnb
            go_wp2_with fail
            refine (compareC a b ha hb _).mono ?_
            rintro e w5 ⟨g1, g2⟩; subst g2; subst g1
            by_cases hl : Wm.sk a < Wm.sk b
            · have hv := HI.out.2 hl
              rw [decide_eq_true hl] at o4
              generalize cmpW a b = v at *
              clear hl
              go_wp2_with fail
              go_ret
              exact ⟨by first | rfl | (rw [decide_eq_true hv]; rfl), HD.out⟩
            · have hv : ¬ cmpW a b < 0 := fun h => hl (HI.out.1 h)
              rw [decide_eq_false hl] at o4
              generalize cmpW a b = v at *
              clear hl
              go_wp2_with fail
              go_ret
              exact ⟨by first | rfl | (rw [decide_eq_false (show ¬ v < 0 by omega)]; rfl), HD.out⟩
        · rw [hna] at o1
          rw [hnb] at o2
          clear o3 o4 hna hnb
          go_wp2_with fail
          go_ret
          exact ⟨rfl, HD.out⟩
      · rw [hna] at o1
        clear o2 o3 o4 hna
        go_wp2_with fail
        go_ret
        exact ⟨rfl, HD.out⟩
  · clear C1 C2 C3 HT
    cases hna : Wm.nan a
    · cases hnb : Wm.nan b
      · rw [hna] at o1
        rw [hnb] at o2
        rw [hna, hnb] at o3 o4
        simp only [Bool.not_false, Bool.true_and] at o3 o4
        by_cases hs : Wm.sk a = Wm.sk b
        · rw [decide_eq_true hs] at o3
          clear o4 hs hna hnb
          go_wp2_with fail
          go_ret
          exact ⟨rfl, HD.out⟩
        · have HI := Lib.hid (cmpW_sk ha hb hna hnb hs)
          rw [decide_eq_false hs] at o3
          clear hs hna hnb
          go_wp2_with fail
          refine (compareC a b ha hb _).mono ?_
          rintro e w5 ⟨g1, g2⟩; subst g2; subst g1
          by_cases hl : Wm.sk a < Wm.sk b
          · have hv := HI.out.2 hl
            rw [decide_eq_true hl] at o4
            generalize cmpW a b = v at *
            clear hl
            go_wp2_with fail
            go_ret
            exact ⟨by first | rfl | (rw [decide_eq_true hv]; rfl), HD.out⟩
          · have hv : ¬ cmpW a b < 0 := fun h => hl (HI.out.1 h)
            rw [decide_eq_false hl] at o4
            generalize cmpW a b = v at *
            clear hl
            go_wp2_with fail
            go_ret
            exact ⟨by first | rfl | (rw [decide_eq_false (show ¬ v < 0 by omega)]; rfl), HD.out⟩
      · rw [hna] at o1
        rw [hnb] at o2
        clear o3 o4 hna hnb
        go_wp2_with fail
        go_ret
        exact ⟨rfl, HD.out⟩
    · rw [hna] at o1
      clear o2 o3 o4 hna
      go_wp2_with fail
      go_ret
      exact ⟨rfl, HD.out⟩
end Go.Proofs.YtaghhdgiegcimaaDoor
