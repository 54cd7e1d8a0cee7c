/- The reference's order of floats, walked. -/
import Derived.Test.YtaghhdgiegcimaaDoorWd
namespace Go.Proofs.YtaghhdgiegcimaaDoor
open Go.RowKit

theorem sk_zero : Wm.sk 0 = 0 := rfl
theorem nan_zero : Wm.nan 0 = false := rfl
theorem lt_zero (b : Nat) (hb : b < Wm.W) : (FloatKind.f64.format.order b 0 == some .lt) = (!Wm.nan b && decide (Wm.sk b < 0)) := by
  rw [Wm.ord_lt b 0 hb (by decide), nan_zero, sk_zero]; simp
theorem gt_zero (b : Nat) (hb : b < Wm.W) : (FloatKind.f64.format.order b 0 == some .gt) = (!Wm.nan b && decide (0 < Wm.sk b)) := by
  rw [Wm.ord_gt b 0 hb (by decide), nan_zero, sk_zero]; simp
theorem neg_shift (b : Nat) (hb : b < Wm.W) : ((b : Int) / 9223372036854775808 == 1) = Wm.neg b := by
  unfold Wm.neg Wm.W at *
  rw [Bool.eq_iff_iff]; simp; omega
theorem key_cases (b : Nat) : ∃ v : Int, Hid (keyN b = v) ∧ ((Wm.nan b = true ∧ Wm.neg b = true ∧ v = -3) ∨ (Wm.nan b = true ∧ Wm.neg b = false ∧ v = 3) ∨ (Wm.nan b = false ∧ Wm.sk b < 0 ∧ v = -2) ∨ (Wm.nan b = false ∧ 0 < Wm.sk b ∧ v = 2) ∨ (Wm.nan b = false ∧ Wm.sk b = 0 ∧ Wm.neg b = true ∧ v = -1) ∨ (Wm.nan b = false ∧ Wm.sk b = 0 ∧ Wm.neg b = false ∧ v = 1)) := by
  refine ⟨_, Lib.hid rfl, ?_⟩
  unfold keyN
  cases Wm.nan b
  · by_cases c1 : Wm.sk b < 0
    · right; right; left; exact ⟨rfl, c1, by rw [if_neg Bool.false_ne_true, if_pos c1]⟩
    · by_cases c2 : 0 < Wm.sk b
      · right; right; right; left; exact ⟨rfl, c2, by rw [if_neg Bool.false_ne_true, if_neg c1, if_pos c2]⟩
      · cases Wm.neg b
        · right; right; right; right; right; exact ⟨rfl, by omega, rfl, by rw [if_neg Bool.false_ne_true, if_neg c1, if_neg c2]; rfl⟩
        · right; right; right; right; left; exact ⟨rfl, by omega, rfl, by rw [if_neg Bool.false_ne_true, if_neg c1, if_neg c2]; rfl⟩
  · cases Wm.neg b
    · right; left; exact ⟨rfl, rfl, rfl⟩
    · left; exact ⟨rfl, rfl, rfl⟩
set_option maxHeartbeats 800000 in
theorem key_any (b : Nat) (hb : b < Wm.W) (w : World) :
    Calls Tryd.prog 61 #[.float .f64 b] w fun e w' => e = .returned (.int .i64 (keyN b)) ∧ w = w' := by
  have hfb := tb_run
  have o1 := Wm.ord_self b hb
  have o2 := lt_zero b hb
  have o3 := gt_zero b hb
  have o4 := neg_shift b hb
  obtain ⟨v, hv, hc⟩ := key_cases b
  rcases hc with ⟨hn, hg, rfl⟩ | ⟨hn, hg, rfl⟩ | ⟨hn, hs, rfl⟩ | ⟨hn, hs, rfl⟩ | ⟨hn, hs, hg, rfl⟩ | ⟨hn, hs, hg, rfl⟩
  all_goals
    rw [hn] at o1 o2 o3
    try rw [decide_eq_true hs, decide_eq_false (by omega)] at *
    try rw [decide_eq_true hs] at o3
    try rw [decide_eq_false (show ¬ Wm.sk b < 0 by omega)] at o2
    try rw [decide_eq_false (show ¬ 0 < Wm.sk b by omega)] at o3
    simp only [Bool.not_true, Bool.not_false, Bool.true_and, Bool.false_and] at o2 o3
    try rw [hg] at o4
    try clear hs
    go_enter Tryd.func61, Tryd.ntmps61
    go_wp2_with fail
    go_ret
    exact ⟨by rw [hv.out]; rfl, rfl⟩
theorem refSignW_any (x y : Int) (w : World) :
    Calls Tryd.prog 62 #[.int .i64 x, .int .i64 y] w fun e w' => e = .returned (.int .i64 (Vm.sgn x y)) ∧ w = w' := by
  rcases sgn_eq x y with ⟨h, hv⟩ | ⟨h, hv⟩ | ⟨h, hv⟩
  all_goals
    have H := Lib.hid hv
    clear hv
    try subst h
    go_enter Tryd.func62, Tryd.ntmps62
    go_wp2_with fail
    go_ret
    exact ⟨by rw [H.out]; rfl, rfl⟩
set_option maxHeartbeats 800000 in
theorem refCompareW_any (a b : Nat) (ha : a < Wm.W) (hb : b < Wm.W) (w : World) :
    Calls Tryd.prog 27 #[.float .f64 a, .float .f64 b] w fun e w' => e = .returned (.int .i64 (cmpW a b)) ∧ w = w' := by
  rw [← refCmpW_eq a b ha hb]
  have H : Hid (refCmpW a b = if keyN a ≠ keyN b then Vm.sgn (keyN a) (keyN b) else if Wm.nan a || Wm.nan b then 0 else Vm.sgn (Wm.sk a) (Wm.sk b)) := rfl
  have o1 := Wm.ord_lt a b ha hb
  have o2 := Wm.ord_gt a b ha hb
  go_enter Tryd.func27, Tryd.ntmps27
  go_wp2_with fail
  refine (key_any a ha _).mono ?_
  rintro e w' ⟨rfl, rfl⟩
  go_wp2_with fail
  refine (key_any b hb _).mono ?_
  rintro e w' ⟨rfl, rfl⟩
  by_cases hk : keyN a = keyN b
  · have hne : (keyN a != keyN b) = false := by simp [hk]
    have HE : Hid (refCmpW a b = if Wm.nan a || Wm.nan b then 0 else Vm.sgn (Wm.sk a) (Wm.sk b)) := by show _ = _; rw [H.out, if_neg (fun h => h hk)]
    generalize keyN a = ka at *
    subst hk
    clear H
    cases hn : (Wm.nan a || Wm.nan b)
    · have hna : Wm.nan a = false := by revert hn; cases Wm.nan a <;> simp
      have hnb : Wm.nan b = false := by revert hn; cases Wm.nan b <;> simp
      rw [hna, hnb] at o1 o2
      rcases sgn_eq (Wm.sk a) (Wm.sk b) with ⟨h, hv⟩ | ⟨h, hv⟩ | ⟨h, hv⟩
      all_goals
        have HV : Hid (refCmpW a b = Vm.sgn (Wm.sk a) (Wm.sk b)) := by show _ = _; rw [HE.out, hn]; rfl
        rw [hv] at HV
        clear HE hv hn
      · rw [decide_eq_true h] at o1
        rw [decide_eq_false (by omega)] at o2
        simp only [Bool.not_true, Bool.not_false, Bool.true_and, Bool.false_and] at o1 o2
        clear h
        go_wp2_with fail
        go_ret
        exact ⟨by rw [HV.out]; rfl, rfl⟩
      · rw [decide_eq_false (by omega)] at o1
        rw [decide_eq_true h] at o2
        simp only [Bool.not_true, Bool.not_false, Bool.true_and, Bool.false_and] at o1 o2
        clear h
        go_wp2_with fail
        go_ret
        exact ⟨by rw [HV.out]; rfl, rfl⟩
      · rw [decide_eq_false (by omega)] at o1
        rw [decide_eq_false (by omega)] at o2
        simp only [Bool.not_true, Bool.not_false, Bool.true_and, Bool.false_and] at o1 o2
        clear h
        go_wp2_with fail
        go_ret
        exact ⟨by rw [HV.out]; rfl, rfl⟩
    · have HV : Hid (refCmpW a b = 0) := by show _ = _; rw [HE.out, hn]; rfl
      have e1 : (FloatKind.f64.format.order a b == some .lt) = false := by rw [o1]; revert hn; cases Wm.nan a <;> cases Wm.nan b <;> simp
      have e2 : (FloatKind.f64.format.order a b == some .gt) = false := by rw [o2]; revert hn; cases Wm.nan a <;> cases Wm.nan b <;> simp
      clear o1 o2 HE hn
      go_wp2_with fail
      go_ret
      exact ⟨by rw [HV.out]; rfl, rfl⟩
  · have hne : (keyN a != keyN b) = true := by simp [hk]
    have HE : Hid (refCmpW a b = Vm.sgn (keyN a) (keyN b)) := by show _ = _; rw [H.out, if_pos hk]
    clear H o1 o2 hk
    go_wp2_with fail
    refine (refSignW_any _ _ _).mono ?_
    rintro e w' ⟨rfl, rfl⟩
    go_wp2_with fail
    go_ret
    exact ⟨by rw [HE.out]; rfl, rfl⟩
end Go.Proofs.YtaghhdgiegcimaaDoor
