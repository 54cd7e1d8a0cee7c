/- Go's Frexp, Ldexp and what they call. -/
import Derived.Test.YtaghhdgiegcimaaDoorWe
namespace Go.Proofs.YtaghhdgiegcimaaDoor
open Go.RowKit

theorem W_eq : Wm.W = 18446744073709551616 := rfl
/-- A number that is no NaN, no infinity, no zero. -/
def Fin (r : Nat) : Prop := 0 < r ∧ r < 9218868437227405312
theorem fin_word {r : Nat} (h : Fin r) (n : Bool) : Wm.word n r < Wm.W ∧ Wm.nan (Wm.word n r) = false ∧ Wm.sk (Wm.word n r) ≠ 0 ∧ Wm.sk (Wm.word n r) < 9218868437227405312 ∧ -9218868437227405312 < Wm.sk (Wm.word n r) := by
  obtain ⟨h1, h2⟩ := h
  obtain ⟨a1, a2, a3⟩ := Wm.rung_word n (r := r) (by omega)
  refine ⟨a3, ?_, ?_⟩
  · unfold Wm.nan; rw [a1]; exact decide_eq_false (by omega)
  · unfold Wm.sk; rw [a1, a2]; cases n <;> simp <;> omega
set_option maxHeartbeats 400000 in
theorem mIsNaN_any (b : Nat) (hb : b < Wm.W) (w : World) :
    Calls Tryd.prog 93 #[.float .f64 b] w fun e w' => e = .returned (.bool (Wm.nan b)) ∧ w = w' := by
  have H := Wm.ord_self b hb
  go_enter Tryd.func93, Tryd.ntmps93
  go_wp2_with fail
  go_ret
  exact ⟨rfl, rfl⟩
theorem fin_pos {r : Nat} (h : Fin r) : r < Wm.W ∧ Wm.nan r = false ∧ Wm.sk r = r := by
  obtain ⟨h1, h2⟩ := h
  obtain ⟨a1, a2, a3⟩ := Wm.rung_word false (r := r) (by omega)
  refine ⟨a3, ?_, ?_⟩
  · unfold Wm.nan; rw [show Wm.rung r = r from a1]; exact decide_eq_false (by omega)
  · unfold Wm.sk; rw [show Wm.neg r = false from a2, show Wm.rung r = r from a1]; rfl
theorem abs_word (n : Bool) {r : Nat} (h : Fin r) (w : World) :
    Calls Tryd.prog 118 #[.float .f64 (Wm.word n r)] w fun e w' => e = .returned (.float .f64 r) ∧ w = w' := by
  have h2 := h.2
  obtain ⟨a1, a2, a3⟩ := Wm.rung_word n (r := r) (by omega)
  have := abs_any (Wm.word n r) a3 w
  rwa [a1] at this
set_option maxHeartbeats 400000 in
theorem isInf_no (n : Bool) (r : Nat) (h : Fin r) (w : World) :
    Calls Tryd.prog 92 #[.float .f64 (Wm.word n r), .int .i64 0] w fun e w' => e = .returned (.bool false) ∧ w = w' := by
  obtain ⟨g1, g2, g3⟩ := fin_pos h
  have h2 := h.2
  have o1 := Wm.ord_gt r 9218868437227405311 g1 (by decide)
  rw [g2, g3, show Wm.sk 9218868437227405311 = 9218868437227405311 from rfl, decide_eq_false (by omega)] at o1
  simp only [Bool.and_false] at o1
  clear g1 g2 g3 h2
  go_enter Tryd.func92, Tryd.ntmps92
  go_wp2_with fail
  refine (abs_word n h _).mono ?_
  rintro e w' ⟨rfl, rfl⟩
  go_wp2_with fail
  go_ret
  exact ⟨rfl, rfl⟩
theorem run_mul (x y r : Nat) (h : Ieee.double.mul x y = some r) (W : World) : (binOp .mul 39 (.float .f64 x) (.float .f64 y)).run Tryd.prog W = .ok (.float .f64 r) W :=
  run_float_arith W .mul _ .f64 x y r h
def nrmX (r : Nat) : Int := if r < 4503599627370496 then -52 else 0
set_option maxHeartbeats 400000 in
theorem normalize_any (n : Bool) (r : Nat) (h : Fin r) (w : World) :
    Calls Tryd.prog 94 #[.float .f64 (Wm.word n r)] w fun e w' => e = .returned (.tuple #[.float .f64 (Wm.word n (Wm.nrm r)), .int .i64 (nrmX r)]) ∧ w = w' := by
  obtain ⟨g1, g2, g3⟩ := fin_pos h
  have o1 := Wm.ord_lt r 4503599627370496 g1 (by decide)
  rw [g2, g3, show Wm.nan 4503599627370496 = false from rfl, show Wm.sk 4503599627370496 = 4503599627370496 from rfl] at o1
  clear g1 g2 g3
  by_cases hr : r < 4503599627370496
  · rw [decide_eq_true (by omega)] at o1
    simp only [Bool.not_false, Bool.and_true] at o1
    have hm := run_mul _ _ _ (Wm.mul_nrm n h.1 hr)
    have HX : Hid (nrmX r = -52) := by show _ = _; rw [nrmX, if_pos hr]
    clear hr
    go_enter Tryd.func94, Tryd.ntmps94
    go_wp2_with fail
    refine (abs_word n h _).mono ?_
    rintro e w' ⟨rfl, rfl⟩
    go_wp2_with fail
    go_ret2
    exact ⟨by rw [HX.out]; rfl, rfl⟩
  · rw [decide_eq_false (by omega)] at o1
    simp only [Bool.not_false, Bool.and_false] at o1
    have HX : Hid (nrmX r = 0 ∧ Wm.nrm r = r) := by show _ ∧ _; rw [nrmX, if_neg hr, Wm.nrm, if_neg hr]; exact ⟨rfl, rfl⟩
    clear hr
    go_enter Tryd.func94, Tryd.ntmps94
    go_wp2_with fail
    refine (abs_word n h _).mono ?_
    rintro e w' ⟨rfl, rfl⟩
    go_wp2_with fail
    go_ret2
    exact ⟨by rw [HX.out.1, HX.out.2]; rfl, rfl⟩
end Go.Proofs.YtaghhdgiegcimaaDoor
