/- The looks at floats: is it a NaN, where it stands. -/
import Derived.Test.YtaghhdgiegcimaaDoorVb
import Derived.Test.YtaghhdgiegcimaaDoorWm
namespace Go.Proofs.YtaghhdgiegcimaaDoor
open Go.RowKit

theorem fb_run (n : Int) (w : World) : (callFunc 23 #[.int .u64 n]).run Tryd.prog w = .ok (.value (.float .f64 n.toNat)) w := by kernel_rfl
theorem tb_run (b : Nat) (w : World) : (callFunc 33 #[.float .f64 b]).run Tryd.prog w = .ok (.value (.int .u64 b)) w := by kernel_rfl
/-- P201's Check, as a number. -/
def chkW (b : Nat) : Int := if Wm.nan b then 8 else 0
set_option maxHeartbeats 400000 in
theorem isNaN_any (b : Nat) (hb : b < Wm.W) (w : World) :
    Calls Tryd.prog 60 #[.float .f64 b] w fun e w' => e = .returned (.bool (Wm.nan b)) ∧ w = w' := by
  have H := Lib.hid (Wm.ord_self b hb)
  go_enter Tryd.func60, Tryd.ntmps60
  go_wp2_with fail
  go_ret
  exact ⟨by first | rfl | (rw [H.out]; rfl), rfl⟩
set_option maxHeartbeats 400000 in
theorem check_w (b : Nat) (hb : b < Wm.W) (w : World) :
    Calls Tryd.prog 25 #[.float .f64 b] w fun e w' => e = .returned (.int .i64 (chkW b)) ∧ w = w' := by
  go_enter Tryd.func25, Tryd.ntmps25
  go_wp2_with fail
  refine (isNaN_any b hb _).mono ?_
  rintro e w' ⟨rfl, rfl⟩
  cases hn : Wm.nan b
  all_goals
    go_wp2_with fail
    go_ret
    exact ⟨by rw [chkW, hn]; rfl, rfl⟩
set_option maxHeartbeats 400000 in
theorem refCheckW_any (b : Nat) (hb : b < Wm.W) (w : World) :
    Calls Tryd.prog 26 #[.float .f64 b] w fun e w' => e = .returned (.int .i64 (chkW b)) ∧ w = w' := by
  have H := Wm.ord_self b hb
  go_enter Tryd.func26, Tryd.ntmps26
  cases hn : Wm.nan b
  all_goals
    rw [hn] at H
    go_wp2_with fail
    go_ret
    exact ⟨by rw [chkW, hn]; rfl, rfl⟩
set_option maxHeartbeats 400000 in
theorem inf_any (s : Int) (w : World) :
    Calls Tryd.prog 55 #[.int .i64 s] w fun e w' => e = .returned (.float .f64 (Wm.word (decide (s < 0)) 9218868437227405312)) ∧ w = w' := by
  have hfb := fb_run
  go_enter Tryd.func55, Tryd.ntmps55
  by_cases h : 0 ≤ s
  · go_wp2_with fail
    go_ret
    exact ⟨by first | rfl | (rw [decide_eq_false (by omega)]; rfl), rfl⟩
  · go_wp2_with fail
    go_ret
    exact ⟨by first | rfl | (rw [decide_eq_true (by omega)]; rfl), rfl⟩
set_option maxHeartbeats 400000 in
theorem nan_any (w : World) :
    Calls Tryd.prog 57 #[] w fun e w' => e = .returned (.float .f64 9221120237041090561) ∧ w = w' := by
  have hfb := fb_run
  go_enter Tryd.func57, Tryd.ntmps57
  go_wp2_with fail
  go_ret
  exact ⟨rfl, rfl⟩
end Go.Proofs.YtaghhdgiegcimaaDoor
