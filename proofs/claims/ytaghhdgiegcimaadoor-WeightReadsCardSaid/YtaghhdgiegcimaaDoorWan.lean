/- WeightAny. -/
import Derived.Test.YtaghhdgiegcimaaDoorWv
import Derived.Test.YtaghhdgiegcimaaDoorWu
import Derived.Test.YtaghhdgiegcimaaDoorWpu
namespace Go.Proofs.YtaghhdgiegcimaaDoor
open Go.RowKit

set_option maxHeartbeats 800000 in
theorem refText_nan (b : Nat) (hb : b < Wm.W) (hn : Wm.nan b = true) (w : World) :
    Calls Tryd.prog 31 #[.float .f64 b] w fun e w' => e = .returned (.string ⟨#[110, 97, 110]⟩) ∧ w = w' := by
  have hr := Wm.rung_lt b
  have hi : 9218868437227405312 < Wm.rung b := by unfold Wm.nan at hn; simpa using hn
  rw [Wm.word_of b hb]
  have hfb := tb_run
  have e1 := Wm.sgnShift (Wm.neg b) (Wm.rung b) hr
  have e2 := Wm.fracB (Wm.neg b) (Wm.rung b) hr
  have e3 := Wm.expB (Wm.neg b) (Wm.rung b) hr
  have hz : (((Wm.rung b % 4503599627370496 : Nat) : Int) != 0) = true := by rw [bne_iff_ne]; omega
  rw [show Wm.rung b / 4503599627370496 = 2047 from by omega] at e3
  generalize Wm.rung b % 4503599627370496 = f at *
  generalize Wm.neg b = n at *
  cases n
  all_goals
    go_enter Tryd.func31, Tryd.ntmps31
    go_wp2_with fail
    go_ret
    exact ⟨rfl, rfl⟩
set_option maxHeartbeats 800000 in
theorem refText_inf (n : Bool) (w : World) :
    Calls Tryd.prog 31 #[.float .f64 (Wm.word n 9218868437227405312)] w fun e w' => e = .returned (.string ⟨(Wm.textW (Wm.word n 9218868437227405312)).toArray⟩) ∧ w = w' := by
  have hfb := tb_run
  have e1 := Wm.sgnShift n 9218868437227405312 (by decide)
  have e2 := Wm.fracB n 9218868437227405312 (by decide)
  have e3 := Wm.expB n 9218868437227405312 (by decide)
  rw [show (9218868437227405312 % 4503599627370496 : Nat) = 0 from rfl] at e2
  rw [show (9218868437227405312 / 4503599627370496 : Nat) = 2047 from rfl] at e3
  cases n
  all_goals
    go_enter Tryd.func31, Tryd.ntmps31
    go_wp2_with fail
    go_ret
    exact ⟨rfl, rfl⟩
set_option maxHeartbeats 800000 in
theorem refText_zero (n : Bool) (w : World) :
    Calls Tryd.prog 31 #[.float .f64 (Wm.word n 0)] w fun e w' => e = .returned (.string ⟨(Wm.textW (Wm.word n 0)).toArray⟩) ∧ w = w' := by
  have hfb := tb_run
  have e1 := Wm.sgnShift n 0 (by decide)
  have e2 := Wm.fracB n 0 (by decide)
  have e3 := Wm.expB n 0 (by decide)
  rw [show (0 % 4503599627370496 : Nat) = 0 from rfl] at e2
  rw [show (0 / 4503599627370496 : Nat) = 0 from rfl] at e3
  cases n
  all_goals
    go_enter Tryd.func31, Tryd.ntmps31
    go_wp2_with fail
    go_ret
    exact ⟨rfl, rfl⟩
theorem refText_any (b : Nat) (hb : b < Wm.W) (w : World) :
    Calls Tryd.prog 31 #[.float .f64 b] w fun e w' => e = .returned (.string ⟨(Wm.textW b).toArray⟩) ∧ Below w.heap.size w w' := by
  rcases kinds b hb with h | ⟨n, rfl⟩ | ⟨n, r, hf, rfl⟩ | ⟨n, rfl⟩
  · refine (refText_nan b hb h w).mono ?_
    rintro e w' ⟨rfl, rfl⟩
    refine ⟨?_, Below.refl _ _⟩
    unfold Wm.textW; rw [h]; rfl
  · refine (refText_inf n w).mono ?_
    rintro e w' ⟨rfl, rfl⟩
    exact ⟨rfl, Below.refl _ _⟩
  · exact refText_fin n r hf w
  · refine (refText_zero n w).mono ?_
    rintro e w' ⟨rfl, rfl⟩
    exact ⟨rfl, Below.refl _ _⟩
theorem cmpW_neg (a b : Nat) : cmpW b a = 0 - cmpW a b := by
  unfold cmpW
  have s1 := sgn_eq (Wm.placeN a) (Wm.placeN b)
  have s2 := sgn_eq (Wm.placeN b) (Wm.placeN a)
  omega
set_option maxHeartbeats 4000000 in
theorem weightAny_any (a b : Nat) (ha : a < Wm.W) (hb : b < Wm.W) (w : World) (hk : KOk w) :
    Calls Tryd.prog 7 #[.int .u64 a, .int .u64 b] w fun e w' => e = .returned (.bool true) ∧ Below w.heap.size w w' := by
  have hfb := fb_run
  have htb := tb_run
  go_enter Tryd.func7, Tryd.ntmps7
  go_wp2_with fail
  refine (known_any w hk).mono ?_
  rintro e w1 ⟨rfl, h1⟩
  have hk1 := kOk_below hk h1
  have HD := Lib.hid h1
  clear h1 hk
  go_wp2_with fail
  refine (compareC a b ha hb _).mono ?_
  rintro e w2 ⟨g1, g2⟩; subst g2; subst g1
  go_wp2_with fail
  refine (check_w a ha _).mono ?_
  rintro e w3 ⟨g1, g2⟩; subst g2; subst g1
  go_wp2_with fail
  refine (refCheckW_any a ha _).mono ?_
  rintro e w4 ⟨g1, g2⟩; subst g2; subst g1
  go_wp2_with fail
  refine (refCompareW_any a b ha hb _).mono ?_
  rintro e w5 ⟨g1, g2⟩; subst g2; subst g1
  go_wp2_with fail
  refine (compareC b a hb ha _).mono ?_
  rintro e w6 ⟨g1, g2⟩; subst g2; subst g1
  rw [cmpW_neg a b]
  have hb2 : -1 ≤ cmpW a b ∧ cmpW a b ≤ 1 := by
    have := sgn_eq (Wm.placeN a) (Wm.placeN b)
    unfold cmpW; omega
  have HS : Hid (∀ W, Calls Tryd.prog 28 #[.float .f64 a, .float .f64 b] W fun e w' => e = .returned (.bool (cmpW a b == 0)) ∧ W = w') := same_w a b ha hb
  generalize cmpW a b = v at *
  go_wp2_with fail
  refine (HS.out _).mono ?_
  rintro e w7 ⟨g1, g2⟩; subst g2; subst g1
  clear HS hb2
  go_wp2_with fail
  refine (text_w a ha _ hk1).mono ?_
  rintro e w8 ⟨g1, g2⟩; subst g1
  have HD2 := Lib.hid (HD.out.trans (g2.mono HD.out.size))
  have hk2 := kOk_below hk1 g2
  clear g2 hk1 HD
  have hlen := textW_len a ha
  go_wp2_with fail
  refine (parse_w (Wm.textW a) (by omega) _ hk2).mono ?_
  rintro e w9 ⟨g1, g2⟩; subst g1
  have HD3 := Lib.hid (HD2.out.trans (g2.mono HD2.out.size))
  clear g2 hk2 HD2
  cases hn : Wm.nan a
  · obtain ⟨p1, p2⟩ := parse_text a ha hn
    rw [p1, p2]
    have o1 := Wm.ord_self a ha
    rw [hn] at o1
    clear p1 p2
    go_wp2_with fail
    refine (refText_any a ha _).mono ?_
    rintro e w10 ⟨g1, g2⟩; subst g1
    have HD4 := Lib.hid (HD3.out.trans (g2.mono HD3.out.size))
    clear g2 HD3
    generalize Wm.textW a = s at *
    go_wp2_with fail
    go_ret
    exact ⟨by first | rfl | simp, HD4.out⟩
  · have ht : Wm.textW a = [110, 97, 110] := by unfold Wm.textW; rw [hn]; rfl
    have o1 := Wm.ord_self a ha
    have o2 := Wm.ord_self 9221120237041090561 (by decide)
    rw [hn] at o1
    rw [show Wm.nan 9221120237041090561 = true from by decide +kernel] at o2
    have hr := refText_any a ha
    rw [ht] at hlen hr ⊢
    rw [show errW [110, 97, 110] = 0 from by decide +kernel, show outW [110, 97, 110] = 9221120237041090561 from by decide +kernel]
    have HR := Lib.hid hr
    clear hr ht
    go_wp2_with fail
    refine (HR.out _).mono ?_
    rintro e w10 ⟨g1, g2⟩; subst g1
    have HD4 := Lib.hid (HD3.out.trans (g2.mono HD3.out.size))
    clear g2 HD3 HR
    go_wp2_with fail
    refine (signbit_any 9221120237041090561 (by decide) _).mono ?_
    rintro e w11 ⟨g1, g2⟩; subst g2; subst g1
    rw [show Wm.neg 9221120237041090561 = false from rfl]
    go_wp2_with fail
    go_ret
    exact ⟨rfl, HD4.out⟩
end Go.Proofs.YtaghhdgiegcimaaDoor
