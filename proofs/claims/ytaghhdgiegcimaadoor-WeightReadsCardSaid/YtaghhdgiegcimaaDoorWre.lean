/- WeightReads. -/
import Derived.Test.YtaghhdgiegcimaaDoorWrk
import Derived.Test.YtaghhdgiegcimaaDoorWsu
namespace Go.Proofs.YtaghhdgiegcimaaDoor
open Go.RowKit

set_option maxHeartbeats 400000 in
theorem bitsL_nan (w : World) :
    Calls Tryd.prog 35 #[.float .f64 9221120237041090561, .float .f64 9221120237041090560] w fun e w' => e = .returned (.bool true) ∧ w = w' := by
  have o1 := Wm.ord_self 9221120237041090561 (by decide)
  have o2 := Wm.ord_self 9221120237041090560 (by decide)
  rw [show Wm.nan 9221120237041090561 = true from by decide +kernel] at o1
  rw [show Wm.nan 9221120237041090560 = true from by decide +kernel] at o2
  go_enter Tryd.func35, Tryd.ntmps35
  go_wp2_with fail
  go_at_call 32
  refine (signbit_any 9221120237041090561 (by decide) _).mono ?_
  rintro e w1 ⟨g1, g2⟩; subst g2; subst g1
  go_wp2_with fail
  go_at_call 32
  refine (signbit_any 9221120237041090560 (by decide) _).mono ?_
  rintro e w1 ⟨g1, g2⟩; subst g2; subst g1
  rw [show Wm.neg 9221120237041090561 = false from rfl, show Wm.neg 9221120237041090560 = false from rfl]
  go_wp2_with fail
  go_ret
  exact ⟨rfl, rfl⟩
theorem outW_fin (l : List UInt8) (hn : l ≠ [110, 97, 110]) : outW l < Wm.W ∧ Wm.nan (outW l) = false := by
  have h00 : (0 : Nat) < Wm.W ∧ Wm.nan 0 = false := ⟨by decide, by decide⟩
  rcases lit_cases l with rfl | rfl | rfl | rfl | rfl | ⟨_, _, _, _, _, he, hv⟩
  · exact ⟨by decide +kernel, by decide +kernel⟩
  · exact ⟨by decide +kernel, by decide +kernel⟩
  · exact absurd rfl hn
  · exact ⟨by decide +kernel, by decide +kernel⟩
  · exact ⟨by decide +kernel, by decide +kernel⟩
  · unfold outW
    by_cases h : errW l = 0
    · rw [if_pos h, hv]
      rw [he] at h
      unfold prodOf
      rw [if_pos h]
      unfold prodErr at h
      cases hf : formOk l
      · rw [hf] at h; simp at h
      · rw [hf] at h
        simp only [if_true] at h
        cases hr : Wm.rangeOk (Wm.nmb (Vm.fst 112 l)) (Wm.nmb (Vm.snd 112 l))
        · rw [hr] at h; simp at h
        · obtain ⟨v1, v2⟩ := refVal l hf hr
          rw [v1]
          have hrr := refRange_eq l
          rw [hr] at hrr
          unfold refRange at hrr
          simp only [Bool.and_eq_true, decide_eq_true_eq] at hrr
          obtain ⟨r1, r2, r3, r4⟩ := hrr
          obtain ⟨q1, q2, q3, q4⟩ := pieces_sgn l
          rw [q2] at r1 r4
          have hb := Wm.rungOf_lt (k := Vm.num (Vm.fst 112 (Wm.mgn l))) (e := Wm.sg (Wm.sgnd (Vm.snd 112 l)) (Vm.num (Wm.mgn (Vm.snd 112 l)))) (by omega) (by omega) (by omega)
          have hfin : Fin (Wm.rungOf (Vm.num (Vm.fst 112 (Wm.mgn l))) (Wm.sg (Wm.sgnd (Vm.snd 112 l)) (Vm.num (Wm.mgn (Vm.snd 112 l))))) := hb
          exact ⟨(fin_word hfin _).1, (fin_word hfin _).2.1⟩
    · rw [if_neg h]; exact h00
theorem bits_out (l : List UInt8) (w : World) :
    Calls Tryd.prog 35 #[.float .f64 (outW l), .float .f64 (refOut l)] w fun e w' => e = .returned (.bool true) ∧ w = w' := by
  by_cases hn : l = [110, 97, 110]
  · subst hn
    rw [show outW [110, 97, 110] = 9221120237041090561 from by decide +kernel, show refOut [110, 97, 110] = 9221120237041090560 from by decide +kernel]
    exact bitsL_nan w
  · have e : refOut l = outW l := by unfold refOut; rw [if_neg hn]
    rw [e]
    exact bitsL_same _ (outW_fin l hn).1 w (outW_fin l hn).2
theorem outW_lt (l : List UInt8) : outW l < Wm.W := by
  by_cases hn : l = [110, 97, 110]
  · subst hn; decide +kernel
  · exact (outW_fin l hn).1
set_option maxHeartbeats 2000000 in
theorem weightReads_any (l : List UInt8) (w : World) (hk : KOk w) (hmax : l.length ≤ 9223372036854775807) :
    Calls Tryd.prog 8 #[.string ⟨l.toArray⟩] w fun e w' => e = .returned (.bool true) ∧ Below w.heap.size w w' := by
  go_enter Tryd.func8, Tryd.ntmps8
  go_wp2_with fail
  refine (known_any w hk).mono ?_
  rintro e w1 ⟨rfl, h1⟩
  have hk1 := kOk_below hk h1
  have HD := Lib.hid h1
  clear h1 hk
  by_cases hl : 100 < l.length
  · go_wp2_with fail
    go_ret
    exact ⟨rfl, HD.out⟩
  clear hmax
  go_wp2_with fail
  go_at_call 30
  refine (parse_w l (by omega) _ hk1).mono ?_
  rintro e w2 ⟨g1, g2⟩; subst g1
  have HD2 := Lib.hid (HD.out.trans (g2.mono HD.out.size))
  have hk2 := kOk_below hk1 g2
  clear g2 hk1 HD
  go_wp2_with fail
  go_at_call 34
  refine (refParse_any l (by omega) _).mono ?_
  rintro e w3 ⟨g1, g2⟩; subst g2; subst g1
  unfold refEnd
  have HB := Lib.hid (bits_out l)
  have HT : Hid (errW l = 0 → Wm.textW (outW l) = l) := told_again l
  have HO := Lib.hid (outW_lt l)
  generalize outW l = f at *
  generalize refOut l = g at *
  generalize errW l = h at *
  go_wp2_with fail
  go_at_call 35
  refine (HB.out _).mono ?_
  rintro e w4 ⟨g1, g2⟩; subst g2; subst g1
  by_cases h0 : h = 0
  · subst h0
    have ht := HT.out rfl
    clear HT HB
    go_wp2_with fail
    go_at_call 29
    refine (text_at f l _ hk2 HO.out ht).mono ?_
    rintro _ w5 ⟨g1, g2⟩; subst g1
    have HD3 := Lib.hid (HD2.out.trans (g2.mono HD2.out.size))
    clear g2 HD2
    go_wp2_with fail
    go_ret
    exact ⟨by first | rfl | simp, HD3.out⟩
  · have hne : (h != 0) = true := by simp [h0]
    clear HT HB
    go_wp2_with fail
    go_ret
    exact ⟨rfl, HD2.out⟩
end Go.Proofs.YtaghhdgiegcimaaDoor
