/- The looks at floats: their places, their signs. -/
import Derived.Test.YtaghhdgiegcimaaDoorWa
import Derived.Test.YtaghhdgiegcimaaDoorWc
namespace Go.Proofs.YtaghhdgiegcimaaDoor
open Go.RowKit

set_option maxHeartbeats 400000 in
theorem signbit_any (b : Nat) (hb : b < Wm.W) (w : World) :
    Calls Tryd.prog 32 #[.float .f64 b] w fun e w' => e = .returned (.bool (Wm.neg b)) ∧ w = w' := by
  have hfb := tb_run
  go_enter Tryd.func32, Tryd.ntmps32
  go_wp2_with fail
  go_ret
  have e : decide (wrap64 (b : Int) < 0) = Wm.neg b := by
    unfold Wm.neg Wm.W wrap64 at *
    rw [Bool.eq_iff_iff]; simp; omega
  exact ⟨congrArg (fun x => Ending.returned (.bool x)) e, rfl⟩
set_option maxHeartbeats 400000 in
theorem abs_any (b : Nat) (hb : b < Wm.W) (w : World) :
    Calls Tryd.prog 118 #[.float .f64 b] w fun e w' => e = .returned (.float .f64 (Wm.rung b)) ∧ w = w' := by
  have hfb := tb_run
  have hfb2 := fb_run
  have e := Wm.absB b hb
  go_enter Tryd.func118, Tryd.ntmps118
  go_wp2_with fail
  go_ret
  exact ⟨rfl, rfl⟩
set_option maxHeartbeats 400000 in
theorem place_w (b : Nat) (hb : b < Wm.W) (w : World) :
    Calls Tryd.prog 59 #[.float .f64 b] w fun e w' => e = .returned (.int .u64 (Wm.placeN b)) ∧ w = w' := by
  have hfb := tb_run
  have hs : IntKind.u64.signed = false := rfl
  have hm : IntKind.u64.max = 18446744073709551615 := rfl
  have e1 := Wm.sgnB b hb
  have e2 := Wm.maxB b hb
  have e3 := Wm.xorB b hb
  go_enter Tryd.func59, Tryd.ntmps59
  go_wp2_with fail
  refine (isNaN_any b hb _).mono ?_
  rintro e w' ⟨rfl, rfl⟩
  cases hn : Wm.nan b
  · cases hg : Wm.neg b
    · have e4 := Wm.signB b (Wm.neg_rung hb hg).2
      rw [hg] at e1
      clear e2 e3
      go_wp2_with fail
      go_ret
      exact ⟨by rw [Wm.placeN, hn, hg]; rfl, rfl⟩
    · rw [hg] at e1
      clear e2
      go_wp2_with fail
      go_ret
      exact ⟨by rw [Wm.placeN, hn, hg]; rfl, rfl⟩
  · cases hg : Wm.neg b
    · have e2' : bits .or .u64 (b : Int) 9223372036854775807 = 9223372036854775807 := by rw [e2, hg]; rfl
      have e5 : bits .and .u64 9223372036854775807 9223372036854775808 = 0 := by kernel_rfl
      have e6 : bits .or .u64 9223372036854775807 9223372036854775808 = 18446744073709551615 := by kernel_rfl
      clear e1 e2 e3
      go_wp2_with fail
      go_ret
      exact ⟨by rw [Wm.placeN, hn, hg]; rfl, rfl⟩
    · have e2' : bits .or .u64 (b : Int) 9223372036854775807 = 18446744073709551615 := by rw [e2, hg]; rfl
      have e5 : bits .and .u64 18446744073709551615 9223372036854775808 = 9223372036854775808 := by kernel_rfl
      have e6 : bits .xor .u64 18446744073709551615 18446744073709551615 = 0 := by kernel_rfl
      clear e1 e2 e3
      go_wp2_with fail
      go_ret
      exact ⟨by rw [Wm.placeN, hn, hg]; rfl, rfl⟩
theorem placeN_lt (b : Nat) (hb : b < Wm.W) : Wm.placeN b < Wm.W := by
  unfold Wm.placeN Wm.W at *
  have h1 := @Wm.neg_rung b hb
  cases hn : Wm.nan b <;> cases hg : Wm.neg b <;> simp only [Bool.false_eq_true, if_false, if_true]
  · have := (h1 hg).2; omega
  · omega
  · omega
  · omega
set_option maxHeartbeats 400000 in
theorem isNaNU_any (x : Nat) (w : World) :
    Calls Tryd.prog 86 #[.int .u64 x] w fun e w' => e = .returned (.bool false) ∧ w = w' := by
  go_enter Tryd.func86, Tryd.ntmps86
  go_wp2_with fail
  go_ret
  exact ⟨by first | rfl | simp, rfl⟩
set_option maxHeartbeats 400000 in
theorem cmpU_any (x y : Nat) (w : World) :
    Calls Tryd.prog 58 #[.int .u64 x, .int .u64 y] w fun e w' => e = .returned (.int .i64 (Vm.sgn x y)) ∧ w = w' := by
  obtain ⟨v, hv, hc⟩ : ∃ v : Int, Hid (Vm.sgn x y = v) ∧ ((x < y ∧ v = -1) ∨ (y < x ∧ v = 1) ∨ (x = y ∧ v = 0)) := by
    refine ⟨_, Lib.hid rfl, ?_⟩
    unfold Vm.sgn
    by_cases h1 : (x : Int) < y
    · left; exact ⟨by omega, by rw [if_pos h1]⟩
    · by_cases h2 : (y : Int) < x
      · right; left; exact ⟨by omega, by rw [if_neg h1, if_pos h2]⟩
      · right; right; exact ⟨by omega, by rw [if_neg h1, if_neg h2]⟩
  rcases hc with ⟨h1, rfl⟩ | ⟨h1, rfl⟩ | ⟨rfl, rfl⟩
  all_goals
    go_enter Tryd.func58, Tryd.ntmps58
    go_wp2_with fail
    refine (isNaNU_any _ _).mono ?_
    rintro e w' ⟨rfl, rfl⟩
    go_wp2_with fail
    refine (isNaNU_any _ _).mono ?_
    rintro e w' ⟨rfl, rfl⟩
    go_wp2_with fail
    go_ret
    exact ⟨by rw [hv.out]; rfl, rfl⟩
set_option maxHeartbeats 400000 in
theorem compare_w (a b : Nat) (ha : a < Wm.W) (hb : b < Wm.W) (w : World) :
    Calls Tryd.prog 24 #[.float .f64 a, .float .f64 b] w fun e w' => e = .returned (.int .i64 (Vm.sgn (Wm.placeN a) (Wm.placeN b))) ∧ w = w' := by
  go_enter Tryd.func24, Tryd.ntmps24
  go_wp2_with fail
  refine (place_w a ha _).mono ?_
  rintro e w' ⟨rfl, rfl⟩
  go_wp2_with fail
  refine (place_w b hb _).mono ?_
  rintro e w' ⟨rfl, rfl⟩
  go_wp2_with fail
  refine (cmpU_any _ _ _).mono ?_
  rintro e w' ⟨rfl, rfl⟩
  go_wp2_with fail
  go_ret
  exact ⟨rfl, rfl⟩
set_option maxHeartbeats 400000 in
theorem same_w (a b : Nat) (ha : a < Wm.W) (hb : b < Wm.W) (w : World) :
    Calls Tryd.prog 28 #[.float .f64 a, .float .f64 b] w fun e w' => e = .returned (.bool (Vm.sgn (Wm.placeN a) (Wm.placeN b) == 0)) ∧ w = w' := by
  go_enter Tryd.func28, Tryd.ntmps28
  go_wp2_with fail
  refine (compare_w a b ha hb _).mono ?_
  rintro e w' ⟨rfl, rfl⟩
  go_wp2_with fail
  go_ret
  exact ⟨rfl, rfl⟩
end Go.Proofs.YtaghhdgiegcimaaDoor
