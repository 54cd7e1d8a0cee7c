/- The reference's checks of clauses; rows of clauses, alike: walked. -/
import Derived.Test.YtjkmdghlhodhiaaEd
namespace Go.Proofs.Ytjkmdghlhodhiaa.Cl
open Go.RowKit Up
theorem any_take {p : Int → Bool} {l : List Int} {j : Nat} (hj : j < l.length) (h : (l.take j).any p = false) (h2 : p l[j] = false) : (l.take (j + 1)).any p = false := by
  rw [List.take_succ_eq_append_getElem hj, List.any_append, h]
  simpa using h2
theorem any_at {p : Int → Bool} {l : List Int} {j : Nat} (hj : j < l.length) (h2 : p l[j] = true) : l.any p = true := List.any_eq_true.2 ⟨_, List.getElem_mem hj, h2⟩
end Go.Proofs.Ytjkmdghlhodhiaa.Cl
namespace Go.Proofs.Ytjkmdghlhodhiaa
open Go.RowKit Cl Up
attribute [local go_sem ↓] Go.wp_at_zero Go.wp_at_succ
set_option maxRecDepth 100000 in
set_option maxHeartbeats 1600000 in
theorem refCheckClause_any (n : Int) (A : Option Addr) (m c : Nat) (l : List Int) (w : World) (hm : l.length = m) (hr : IRow w A l) :
    Calls Try.prog 16 #[.int .i64 n, .slice A m c] w fun e w' => e = .returned (.int .i64 (checkC n l)) ∧ Below w.heap.size w w' := by
  obtain ⟨X, hX⟩ : ∃ X, checkC n l = X := ⟨_, rfl⟩
  rw [hX]
  have HX := Lib.hid hX
  have HR := Lib.hid hr
  have HM := Lib.hid hm
  clear hX hr hm
  cases h1 : decide (n < 0)
  · cases h2 : decide ((256 : Int) < n)
    · obtain ⟨k, rfl⟩ : ∃ k : Nat, n = k := ⟨n.toNat, by have := of_decide_eq_false h1; omega⟩
      have hk : k ≤ 256 := by have := of_decide_eq_false h2; omega
      have HB : Hid (nBad k = false) := by show _ = _; unfold nBad; rw [h1, h2]; rfl
      by_cases hlong : 256 < m
      · have HF : Hid (X = 4) := by
          show _ = _
          rw [← HX.out]; unfold checkC; rw [HB.out, if_neg (by decide), if_pos (by rw [HM.out]; exact hlong)]
        have d1 : decide ((256 : Int) < (m : Int)) = true := decide_eq_true (by omega)
        clear hlong
        go_enter Try.func16, Try.ntmps16
        go_wp2_with fail
        go_ret
        exact ⟨by rw [HF.out]; rfl, Below.refl _ _⟩
      · have d1 : decide ((256 : Int) < (m : Int)) = false := decide_eq_false (by omega)
        have HA : Hid (∀ b, l.any (litBad k) = b → X = if b then 11 else 0) := fun b hb => by
          rw [← HX.out]; unfold checkC; rw [HB.out, if_neg (by decide), if_neg (by rw [HM.out]; exact hlong), hb]
        have hm2 : m ≤ 256 := by omega
        clear hlong
        go_enter Try.func16, Try.ntmps16
        go_wp2_with fail
        clear h1 h2 d1
        have w1 : IntKind.i64.wrap (0 - (k : Int)) = -(k : Int) := (IntWalk.i64_in _ (by omega)).trans (by omega)
        have w2 : IntKind.i64.wrap (-(k : Int)) = -(k : Int) := IntWalk.i64_in _ (by omega)
        have e0 : (0 : Int) - (k : Int) = -(k : Int) := by omega
        go_loopw [5] (fun i wr => ∃ j : Nat, j ≤ m ∧ i = .int .i64 j ∧ Hid ((l.take j).any (litBad k) = false) ∧ Hid (Below w.heap.size w wr)) (fun i _ => m - (intOf i).toNat)
        case atStart => exact ⟨0, Nat.zero_le _, rfl, rfl, Below.refl _ _⟩
        case round =>
          obtain ⟨j, hj, rfl, HT, HW⟩ := hrel
          by_cases hlt : j < m
          · have h1 : j < l.length := by rw [HM.out]; exact hlt
            obtain ⟨ad, x, rfl, hx, hs, hc⟩ := irow_at (irow_below HR.out HW.out) j h1
            have j0 : (0 : Int) ≤ (j : Int) := by omega
            have j1 : (j : Int) < (m : Int) := by omega
            have HNo : Hid (litBad k x = false → (l.take (j + 1)).any (litBad k) = false) := fun q => any_take h1 HT.out (by rw [hx]; exact q)
            have HYes : Hid (litBad k x = true → X = 11) := fun q => (HA.out true (any_at h1 (by rw [hx]; exact q))).trans rfl
            clear hx hs h1
            cases a1 : x == 0
            · cases a2 : decide ((k : Int) < x)
              · cases a3 : decide (x < -(k : Int))
                · have HT2 := Lib.hid (HNo.out (by unfold litBad; rw [e0, a1, a2, a3]; rfl))
                  clear HNo HYes
                  go_wp2_with fail
                  go_roundw
                  case rel => exact ⟨j + 1, by omega, by go_num, HT2.out, HW.out⟩
                  case measure => simp [intOf]; omega
                · have HF := Lib.hid (HYes.out (by unfold litBad; rw [e0, a1, a2, a3]; rfl))
                  clear HNo HYes
                  go_wp2_with fail
                  go_ret
                  exact ⟨by rw [HF.out]; rfl, HW.out⟩
              · have HF := Lib.hid (HYes.out (by unfold litBad; rw [a1, a2]; rfl))
                clear HNo HYes
                go_wp2_with fail
                go_ret
                exact ⟨by rw [HF.out]; rfl, HW.out⟩
            · have HF := Lib.hid (HYes.out (by unfold litBad; rw [a1]; rfl))
              clear HNo HYes
              go_wp2_with fail
              go_ret
              exact ⟨by rw [HF.out]; rfl, HW.out⟩
          · have HF : Hid (X = 0) := by
              show _ = _
              have := HT.out
              rw [List.take_of_length_le (by rw [HM.out]; omega)] at this
              exact (HA.out false this).trans rfl
            go_wp2_with fail
            go_ret
            exact ⟨by rw [HF.out]; rfl, HW.out⟩
    · have HF : Hid (X = 1) := by
        show _ = _
        rw [← HX.out]; unfold checkC nBad; rw [h1, h2]; rfl
      go_enter Try.func16, Try.ntmps16
      go_wp2_with fail
      go_ret
      exact ⟨by rw [HF.out]; rfl, Below.refl _ _⟩
  · have HF : Hid (X = 1) := by
      show _ = _
      rw [← HX.out]; unfold checkC nBad; rw [h1]; rfl
    go_enter Try.func16, Try.ntmps16
    go_wp2_with fail
    go_ret
    exact ⟨by rw [HF.out]; rfl, Below.refl _ _⟩
theorem grow_at {w : World} {A : Option Addr} {t : List (List Int)} (h : GRow w A t) (k : Nat) (hk : k < t.length) : ∃ ad C n c x, A = some ad ∧ ad.block < w.heap.size ∧ w.cell? (ad.add k) = some (.slice C n c) ∧ t[k] = x ∧ x.length = n ∧ IRow w C x := by
  obtain ⟨ad, C, n, c, h1, h2, h3, h4, h5⟩ := Gr.row_at h k hk
  exact ⟨ad, C, n, c, t[k], h1, h2, h3, rfl, h4, h5⟩
def AllC (k : Int) (t : List (List Int)) (j : Nat) : Prop := ∀ c ∈ t.take j, checkC k c = 0
theorem allC_more {k : Int} {t : List (List Int)} {j : Nat} (hj : j < t.length) (h : AllC k t j) (h2 : checkC k t[j] = 0) : AllC k t (j + 1) := fun c hc => by
  rw [List.take_succ_eq_append_getElem hj] at hc
  rcases List.mem_append.1 hc with hc | hc
  · exact h c hc
  · rw [List.mem_singleton.1 hc]; exact h2
set_option maxRecDepth 100000 in
set_option maxHeartbeats 1600000 in
theorem refCheckAll_any (n : Int) (A : Option Addr) (m c : Nat) (t : List (List Int)) (w : World) (hm : t.length = m) (hr : GRow w A t) :
    Calls Try.prog 29 #[.int .i64 n, .slice A m c] w fun e w' => e = .returned (.tuple #[.int .i64 ((checkAll n t).1 : Int), .int .i64 (checkAll n t).2]) ∧ Below w.heap.size w w' := by
  obtain ⟨X, hX⟩ : ∃ X, checkAll n t = X := ⟨_, rfl⟩
  rw [hX]
  have HX := Lib.hid hX
  have HR := Lib.hid hr
  have HM := Lib.hid hm
  clear hX hr hm
  cases h1 : decide (n < 0)
  · cases h2 : decide ((256 : Int) < n)
    · have HB : Hid (nBad n = false) := by show _ = _; unfold nBad; rw [h1, h2]; rfl
      by_cases hlong : 131072 < m
      · have HZ : Hid (X = (0, 4)) := by
          show _ = _
          rw [← HX.out]; unfold checkAll; rw [HB.out, if_neg (by decide), if_pos (by rw [HM.out]; exact hlong)]
        have d1 : decide ((131072 : Int) < (m : Int)) = true := decide_eq_true (by omega)
        clear hlong
        go_enter Try.func29, Try.ntmps29
        go_wp2_with fail
        go_ret2
        exact ⟨by rw [HZ.out]; rfl, Below.refl _ _⟩
      · have d1 : decide ((131072 : Int) < (m : Int)) = false := decide_eq_false (by omega)
        have HA : Hid (X = firstC n 0 t) := by
          show _ = _
          rw [← HX.out]; unfold checkAll; rw [HB.out, if_neg (by decide), if_neg (by rw [HM.out]; exact hlong)]
        have hm2 : m ≤ 131072 := by omega
        clear hlong
        go_enter Try.func29, Try.ntmps29
        go_wp2_with fail
        clear h1 h2 d1
        go_loopw [6, 7] (fun i _ wr => ∃ j : Nat, j ≤ m ∧ i = .int .i64 j ∧ Hid (AllC n t j) ∧ Hid (Below w.heap.size w wr)) (fun i _ _ => m - (intOf i).toNat)
        case atStart => exact ⟨0, Nat.zero_le _, rfl, fun c hc => absurd hc (by simp), Below.refl _ _⟩
        case round =>
          obtain ⟨j, hj, rfl, HT, HW⟩ := hrel
          by_cases hlt : j < m
          · have h1 : j < t.length := by rw [HM.out]; exact hlt
            obtain ⟨ad, C, k, cc, x, rfl, hb, hc, hx, hxl, hxr⟩ := grow_at (Gr.row_below HR.out HW.out) j h1
            have j0 : (0 : Int) ≤ (j : Int) := by omega
            have j1 : (j : Int) < (m : Int) := by omega
            have HS := Lib.hid (refCheckClause_any n C k cc x wr hxl hxr)
            obtain ⟨q, hq⟩ : ∃ q, checkC n x = q := ⟨_, rfl⟩
            rw [hq] at HS
            have HYes : Hid (q = 0 → AllC n t (j + 1)) := fun e => allC_more h1 HT.out (by rw [hx, hq, e])
            have HNo : Hid (q ≠ 0 → X = (j, q)) := fun e => by
              rw [HA.out, firstC_bad n t 0 j h1 HT.out (by rw [hx, hq]; exact e), hx, hq, Nat.zero_add]
            clear hx hxl hxr hq hb h1
            cases hz : q == 0
            · have d2 : (q != 0) = true := by show (!(q == 0)) = true; rw [hz]; rfl
              have HZ := Lib.hid (HNo.out fun e => by rw [e] at hz; exact absurd hz (by decide))
              clear HYes HNo
              go_wp2_with (go_at_call 16; refine HS.out.mono ?_)
              rintro _ w2 ⟨rfl, hb2⟩
              have HW2 := Lib.hid (HW.out.trans (hb2.mono HW.out.size))
              clear hb2
              go_wp2_with fail
              go_ret2
              exact ⟨by rw [HZ.out]; rfl, HW2.out⟩
            · have d2 : (q != 0) = false := by show (!(q == 0)) = false; rw [hz]; rfl
              have HZ := Lib.hid (HYes.out (by simpa using hz))
              clear HYes HNo
              go_wp2_with (go_at_call 16; refine HS.out.mono ?_)
              rintro _ w2 ⟨rfl, hb2⟩
              have HW2 := Lib.hid (HW.out.trans (hb2.mono HW.out.size))
              clear hb2
              go_wp2_with fail
              go_roundw
              case rel => exact ⟨j + 1, by omega, by go_num, HZ.out, HW2.out⟩
              case measure => simp [intOf]; omega
          · have HZ : Hid (X = (0, 0)) := by
              show _ = _
              rw [HA.out]
              refine firstC_ok n t 0 fun c hc => HT.out c ?_
              rw [List.take_of_length_le (by rw [HM.out]; omega)]; exact hc
            go_wp2_with fail
            go_ret2
            exact ⟨by rw [HZ.out]; rfl, HW.out⟩
    · have HZ : Hid (X = (0, 1)) := by
        show _ = _
        rw [← HX.out]; unfold checkAll nBad; rw [h1, h2]; rfl
      go_enter Try.func29, Try.ntmps29
      go_wp2_with fail
      go_ret2
      exact ⟨by rw [HZ.out]; rfl, Below.refl _ _⟩
  · have HZ : Hid (X = (0, 1)) := by
      show _ = _
      rw [← HX.out]; unfold checkAll nBad; rw [h1]; rfl
    go_enter Try.func29, Try.ntmps29
    go_wp2_with fail
    go_ret2
    exact ⟨by rw [HZ.out]; rfl, Below.refl _ _⟩
end Go.Proofs.Ytjkmdghlhodhiaa
