/- The laws' own: few clauses of few variables, literals of these: walked. -/
import Derived.Test.YtjkmdghlhodhiaaOf
namespace Go.Proofs.Ytjkmdghlhodhiaa.Up
open Go.RowKit Cl
def smallB (n most : Int) (l : List (List Int)) : Bool := !(decide (n < 0) || (decide (most < n) || decide (120 < l.length))) && (checkAll n l).2 == 0
def litsB (n : Int) (l : List Int) : Bool := decide (l.length ≤ 60) && !(l.any (litBad n))
theorem small_of {n most : Int} {l : List (List Int)} (h : smallB n most l = true) : 0 ≤ n ∧ n ≤ most ∧ n ≤ 256 ∧ l.length ≤ 120 ∧ (checkAll n l).2 = 0 ∧ (∀ c ∈ l, ∀ x ∈ c, LitOf n.toNat x) ∧ (∀ c ∈ l, c.length ≤ 256) := by
  unfold smallB at h
  simp at h
  obtain ⟨h1, h2⟩ := h
  have ha := all_ok h2
  exact ⟨h1.1, h1.2.1, ha.2.1, h1.2.2, h2, all_lits h2, fun c hc => (check_ok (ha.2.2.2.2 c hc)).2.2.1⟩
theorem lits_of {n : Int} {l : List Int} (h : litsB n l = true) : l.length ≤ 60 ∧ ∀ x ∈ l, x ≠ 0 ∧ x ≤ n ∧ -n ≤ x := by
  unfold litsB at h
  rw [Bool.and_eq_true, decide_eq_true_iff, Bool.not_eq_true'] at h
  refine ⟨h.1, fun x hx => ?_⟩
  have := (List.any_eq_false.1 h.2) x hx
  unfold litBad at this
  simp at this
  exact ⟨this.1, this.2.1, by omega⟩
end Go.Proofs.Ytjkmdghlhodhiaa.Up
namespace Go.Proofs.Ytjkmdghlhodhiaa
open Go.RowKit Cl Up
attribute [local go_sem ↓] Go.wp_at_zero Go.wp_at_succ
set_option maxRecDepth 100000 in
set_option maxHeartbeats 1600000 in
theorem small15_any (n most : Int) (A : Option Addr) (m c : Nat) (t : List (List Int)) (w : World) (hm : t.length = m) (hr : GRow w A t) :
    Calls Try.prog 15 #[.int .i64 n, .slice A m c, .int .i64 most] w fun e w' => e = .returned (.bool (smallB n most t)) ∧ Below w.heap.size w w' := by
  obtain ⟨X, hX⟩ : ∃ X, smallB n most t = X := ⟨_, rfl⟩
  rw [hX]
  have HX : Hid (X = (!(decide (n < 0) || (decide (most < n) || decide (120 < m))) && (checkAll n t).2 == 0)) := by show _ = _; rw [← hX, ← hm]; rfl
  have HM := Lib.hid hm
  have HR := Lib.hid hr
  clear hX hm hr
  cases d1 : decide (n < 0)
  · cases d2 : decide (most < n)
    · by_cases hl : 120 < m
      · have d3 : decide ((120 : Int) < (m : Int)) = true := decide_eq_true (by omega)
        have HZ : Hid (X = false) := by show _ = _; rw [HX.out, d1, d2, decide_eq_true hl]; rfl
        clear hl
        go_enter Try.func15, Try.ntmps15
        go_wp2_with fail
        go_ret
        exact ⟨by rw [HZ.out]; rfl, Below.refl _ _⟩
      · have d3 : decide ((120 : Int) < (m : Int)) = false := decide_eq_false (by omega)
        have HC := Lib.hid (refCheckAll_any n A m c t w HM.out HR.out)
        obtain ⟨q, hq⟩ : ∃ q, checkAll n t = q := ⟨_, rfl⟩
        have HZ : Hid (X = (q.2 == 0)) := by show _ = _; rw [HX.out, d1, d2, decide_eq_false hl, hq]; rfl
        rw [hq] at HC
        clear hl hq
        go_enter Try.func15, Try.ntmps15
        go_wp2_with (go_at_call 29; refine HC.out.mono ?_)
        rintro _ w2 ⟨rfl, hb⟩
        have HB := Lib.hid hb
        clear hb
        go_wp2_with fail
        go_ret
        exact ⟨by rw [HZ.out]; rfl, HB.out⟩
    · have HZ : Hid (X = false) := by show _ = _; rw [HX.out, d1, d2]; rfl
      go_enter Try.func15, Try.ntmps15
      go_wp2_with fail
      go_ret
      exact ⟨by rw [HZ.out]; rfl, Below.refl _ _⟩
  · have HZ : Hid (X = false) := by show _ = _; rw [HX.out, d1]; rfl
    go_enter Try.func15, Try.ntmps15
    go_wp2_with fail
    go_ret
    exact ⟨by rw [HZ.out]; rfl, Below.refl _ _⟩
set_option maxRecDepth 100000 in
set_option maxHeartbeats 1600000 in
theorem lits15_any (k : Nat) (A : Option Addr) (m c : Nat) (l : List Int) (w : World) (hm : l.length = m) (hr : IRow w A l) (hk : k ≤ 2199023255552) :
    Calls Try.prog 22 #[.int .i64 k, .slice A m c] w fun e w' => e = .returned (.bool (litsB k l)) ∧ w = w' := by
  obtain ⟨X, hX⟩ : ∃ X, litsB k l = X := ⟨_, rfl⟩
  rw [hX]
  have HX : Hid (X = (decide (m ≤ 60) && !(l.any (litBad k)))) := by show _ = _; rw [← hX, ← hm]; rfl
  have HM := Lib.hid hm
  have HR := Lib.hid hr
  clear hX hm hr
  by_cases hl : 60 < m
  · have d1 : decide ((60 : Int) < (m : Int)) = true := decide_eq_true (by omega)
    have HZ : Hid (X = false) := by show _ = _; rw [HX.out, decide_eq_false (by omega)]; rfl
    clear hl
    go_enter Try.func22, Try.ntmps22
    go_wp2_with fail
    go_ret
    exact ⟨by rw [HZ.out]; rfl, rfl⟩
  · have d1 : decide ((60 : Int) < (m : Int)) = false := decide_eq_false (by omega)
    have HA : Hid (∀ b, l.any (litBad k) = b → X = !b) := fun b hb => by rw [HX.out, decide_eq_true (by omega), hb]; rfl
    have hm2 : m ≤ 60 := by omega
    clear hl
    go_enter Try.func22, Try.ntmps22
    go_wp2_with fail
    clear d1
    have w1 : IntKind.i64.wrap (0 - (k : Int)) = -(k : Int) := (IntWalk.i64_in _ (by omega)).trans (by omega)
    have w2 : IntKind.i64.wrap (-(k : Int)) = -(k : Int) := IntWalk.i64_in _ (by omega)
    have e0 : (0 : Int) - (k : Int) = -(k : Int) := by omega
    go_loopw [5] (fun i wr => ∃ j : Nat, j ≤ m ∧ i = .int .i64 j ∧ Hid ((l.take j).any (litBad k) = false) ∧ w = wr) (fun i _ => m - (intOf i).toNat)
    case atStart => exact ⟨0, Nat.zero_le _, rfl, rfl, rfl⟩
    case round =>
      obtain ⟨j, hj, rfl, HT, rfl⟩ := hrel
      by_cases hlt : j < m
      · have h1 : j < l.length := by rw [HM.out]; exact hlt
        obtain ⟨ad, x, rfl, hx, hs, hc⟩ := irow_at HR.out j h1
        have j0 : (0 : Int) ≤ (j : Int) := by omega
        have j1 : (j : Int) < (m : Int) := by omega
        have HNo : Hid (litBad k x = false → (l.take (j + 1)).any (litBad k) = false) := fun q => any_take h1 HT.out (by rw [hx]; exact q)
        have HYes : Hid (litBad k x = true → X = false) := fun q => (HA.out true (any_at h1 (by rw [hx]; exact q))).trans rfl
        clear hx hs h1
        cases a1 : x == 0
        · cases a2 : decide ((k : Int) < x)
          · cases a3 : decide (x < -(k : Int))
            · have HT2 := Lib.hid (HNo.out (by unfold litBad; rw [e0, a1, a2, a3]; rfl))
              clear HNo HYes
              go_wp2_with fail
              go_roundw
              case rel => exact ⟨j + 1, by omega, by go_num, HT2.out, trivial⟩
              case measure => simp [intOf]; omega
            · have HF := Lib.hid (HYes.out (by unfold litBad; rw [e0, a1, a2, a3]; rfl))
              clear HNo HYes
              go_wp2_with fail
              go_ret
              exact ⟨by rw [HF.out]; rfl, rfl⟩
          · have HF := Lib.hid (HYes.out (by unfold litBad; rw [a1, a2]; rfl))
            clear HNo HYes
            go_wp2_with fail
            go_ret
            exact ⟨by rw [HF.out]; rfl, rfl⟩
        · have HF := Lib.hid (HYes.out (by unfold litBad; rw [a1]; rfl))
          clear HNo HYes
          go_wp2_with fail
          go_ret
          exact ⟨by rw [HF.out]; rfl, rfl⟩
      · have HF : Hid (X = true) := by
          show _ = _
          have := HT.out
          rw [List.take_of_length_le (by rw [HM.out]; omega)] at this
          exact (HA.out false this).trans rfl
        go_wp2_with fail
        go_ret
        exact ⟨by rw [HF.out]; rfl, rfl⟩
end Go.Proofs.Ytjkmdghlhodhiaa
