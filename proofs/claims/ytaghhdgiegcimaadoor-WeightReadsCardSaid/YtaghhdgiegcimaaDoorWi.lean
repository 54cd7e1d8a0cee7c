/- The program's Text. -/
import Derived.Test.YtaghhdgiegcimaaDoorWh
namespace Go.Proofs.YtaghhdgiegcimaaDoor
open Go.RowKit

theorem kinds (b : Nat) (hb : b < Wm.W) : Wm.nan b = true ∨ (∃ n, b = Wm.word n 9218868437227405312) ∨ (∃ n r, Fin r ∧ b = Wm.word n r) ∨ (∃ n, b = Wm.word n 0) := by
  have e := Wm.word_of b hb
  cases hn : Wm.nan b
  · right
    have hr : Wm.rung b ≤ 9218868437227405312 := by unfold Wm.nan at hn; simpa using hn
    by_cases h1 : Wm.rung b = 9218868437227405312
    · left; exact ⟨Wm.neg b, by rw [← h1]; exact e⟩
    · right
      by_cases h2 : Wm.rung b = 0
      · right; exact ⟨Wm.neg b, by rw [← h2]; exact e⟩
      · left; exact ⟨Wm.neg b, Wm.rung b, ⟨by omega, by omega⟩, e⟩
  · left; rfl
theorem textW_fin (n : Bool) {r : Nat} (h : Fin r) : Wm.textW (Wm.word n r) = Wm.textF n r := by
  obtain ⟨_, g2, _⟩ := fin_word h n
  have h1 := h.1
  have h2 := h.2
  obtain ⟨a1, a2, _⟩ := Wm.rung_word n (r := r) (by omega)
  unfold Wm.textW
  rw [g2, a1, a2, if_neg Bool.false_ne_true, if_neg (by omega), if_neg (by omega)]
set_option maxHeartbeats 800000 in
theorem text_pinf (w : World) :
    Calls Tryd.prog 29 #[.float .f64 9218868437227405312] w fun e w' => e = .returned (.string ⟨#[105, 110, 102]⟩) ∧ w = w' := by
  have o1 : (FloatKind.f64.format.order 9218868437227405312 9218868437227405311 == some .gt) = true := by decide +kernel
  have o2 : (FloatKind.f64.format.order 9218868437227405312 18442240474082181119 == some .lt) = false := by decide +kernel
  have o3 : (FloatKind.f64.format.order 9218868437227405312 0 != some .eq) = true := by decide +kernel
  have hfb := tb_run
  have hn : Wm.nan 9218868437227405312 = false := by decide +kernel
  go_enter Tryd.func29, Tryd.ntmps29
  go_wp2_with fail
  refine (isNaN_any 9218868437227405312 (by decide) _).mono ?_
  rintro e w' ⟨rfl, rfl⟩
  rw [hn]
  go_wp2_with fail
  go_ret
  exact ⟨rfl, rfl⟩
set_option maxHeartbeats 800000 in
theorem text_ninf (w : World) :
    Calls Tryd.prog 29 #[.float .f64 18442240474082181120] w fun e w' => e = .returned (.string ⟨#[45, 105, 110, 102]⟩) ∧ w = w' := by
  have o1 : (FloatKind.f64.format.order 18442240474082181120 9218868437227405311 == some .gt) = false := by decide +kernel
  have o2 : (FloatKind.f64.format.order 18442240474082181120 18442240474082181119 == some .lt) = true := by decide +kernel
  have o3 : (FloatKind.f64.format.order 18442240474082181120 0 != some .eq) = true := by decide +kernel
  have hfb := tb_run
  have hn : Wm.nan 18442240474082181120 = false := by decide +kernel
  go_enter Tryd.func29, Tryd.ntmps29
  go_wp2_with fail
  refine (isNaN_any 18442240474082181120 (by decide) _).mono ?_
  rintro e w' ⟨rfl, rfl⟩
  rw [hn]
  go_wp2_with fail
  go_ret
  exact ⟨rfl, rfl⟩
set_option maxHeartbeats 800000 in
theorem text_p0 (w : World) :
    Calls Tryd.prog 29 #[.float .f64 0] w fun e w' => e = .returned (.string ⟨#[48]⟩) ∧ w = w' := by
  have o1 : (FloatKind.f64.format.order 0 9218868437227405311 == some .gt) = false := by decide +kernel
  have o2 : (FloatKind.f64.format.order 0 18442240474082181119 == some .lt) = false := by decide +kernel
  have o3 : (FloatKind.f64.format.order 0 0 != some .eq) = false := by decide +kernel
  have hfb := tb_run
  have hn : Wm.nan 0 = false := by decide +kernel
  go_enter Tryd.func29, Tryd.ntmps29
  go_wp2_with fail
  refine (isNaN_any 0 (by decide) _).mono ?_
  rintro e w' ⟨rfl, rfl⟩
  rw [hn]
  go_wp2_with fail
  go_ret
  exact ⟨rfl, rfl⟩
set_option maxHeartbeats 800000 in
theorem text_n0 (w : World) :
    Calls Tryd.prog 29 #[.float .f64 9223372036854775808] w fun e w' => e = .returned (.string ⟨#[45, 48]⟩) ∧ w = w' := by
  have o1 : (FloatKind.f64.format.order 9223372036854775808 9218868437227405311 == some .gt) = false := by decide +kernel
  have o2 : (FloatKind.f64.format.order 9223372036854775808 18442240474082181119 == some .lt) = false := by decide +kernel
  have o3 : (FloatKind.f64.format.order 9223372036854775808 0 != some .eq) = false := by decide +kernel
  have hfb := tb_run
  have hn : Wm.nan 9223372036854775808 = false := by decide +kernel
  go_enter Tryd.func29, Tryd.ntmps29
  go_wp2_with fail
  refine (isNaN_any 9223372036854775808 (by decide) _).mono ?_
  rintro e w' ⟨rfl, rfl⟩
  rw [hn]
  go_wp2_with fail
  go_ret
  exact ⟨rfl, rfl⟩
set_option maxHeartbeats 800000 in
theorem text_w (b : Nat) (hb : b < Wm.W) (w : World) (hk : KOk w) :
    Calls Tryd.prog 29 #[.float .f64 b] w fun e w' => e = .returned (.string ⟨(Wm.textW b).toArray⟩) ∧ Below w.heap.size w w' := by
  have o1 := Wm.ord_gt b 9218868437227405311 hb (by decide)
  have o2 := Wm.ord_lt b 18442240474082181119 hb (by decide)
  have o3 := Wm.ord_ne b 0 hb (by decide)
  have hfb := tb_run
  rw [show Wm.nan 9218868437227405311 = false from rfl, show Wm.sk 9218868437227405311 = 9218868437227405311 from rfl] at o1
  rw [show Wm.nan 18442240474082181119 = false from rfl, show Wm.sk 18442240474082181119 = -9218868437227405311 from rfl] at o2
  rw [nan_zero, sk_zero] at o3
  rcases kinds b hb with hn | ⟨n, rfl⟩ | ⟨n, r, hf, rfl⟩ | ⟨n, rfl⟩
  · have HV : Hid (Wm.textW b = [110, 97, 110]) := by show _ = _; rw [Wm.textW, hn]; rfl
    clear o1 o2 o3
    go_enter Tryd.func29, Tryd.ntmps29
    go_wp2_with fail
    refine (isNaN_any b hb _).mono ?_
    rintro e w' ⟨rfl, rfl⟩
    rw [hn]
    go_wp2_with fail
    go_ret
    exact ⟨by rw [HV.out]; rfl, Below.refl _ _⟩
  · cases n
    · refine (text_pinf w).mono ?_
      rintro e w' ⟨rfl, rfl⟩
      exact ⟨rfl, Below.refl _ _⟩
    · refine (text_ninf w).mono ?_
      rintro e w' ⟨rfl, rfl⟩
      exact ⟨rfl, Below.refl _ _⟩
  · have HV := Lib.hid (textW_fin n hf)
    obtain ⟨g1, g2, g3, g4, g5⟩ := fin_word hf n
    rw [decide_eq_false (by omega)] at o1 o2
    rw [decide_eq_true g3] at o3
    simp only [Bool.and_false, Bool.or_true] at o1 o2 o3
    clear g3 g4 g5
    go_enter Tryd.func29, Tryd.ntmps29
    go_wp2_with fail
    refine (isNaN_any _ hb _).mono ?_
    rintro e w' ⟨rfl, rfl⟩
    rw [g2]
    go_wp2_with fail
    refine (product_any n r hf _ hk).mono ?_
    rintro e w' ⟨g1, g2⟩; subst g1
    go_wp2_with fail
    go_ret
    exact ⟨by rw [HV.out]; rfl, g2⟩
  · cases n
    · refine (text_p0 w).mono ?_
      rintro e w' ⟨rfl, rfl⟩
      exact ⟨rfl, Below.refl _ _⟩
    · refine (text_n0 w).mono ?_
      rintro e w' ⟨rfl, rfl⟩
      exact ⟨rfl, Below.refl _ _⟩
end Go.Proofs.YtaghhdgiegcimaaDoor
