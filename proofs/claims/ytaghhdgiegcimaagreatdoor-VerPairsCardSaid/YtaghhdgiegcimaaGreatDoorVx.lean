/- The reference's Compare: sign, mark, others, digits, held, Compare. -/
import Derived.Test.YtaghhdgiegcimaaGreatDoorVt
namespace Go.Proofs.YtaghhdgiegcimaaGreatDoor
open Go.RowKit

theorem refSign_any (x y : Int) (w : World) :
    Calls Tryz.prog 18 #[.int .i64 x, .int .i64 y] w fun e w' => e = .returned (.int .i64 (Vm.sgn x y)) ∧ w = w' := by
  rcases Int.lt_trichotomy x y with h | h | h
  · have H := Lib.hid (Vm.sgn_lt h)
    go_enter Tryz.func18, Tryz.ntmps18
    go_wp2_with fail
    go_ret
    exact ⟨by rw [H.out]; rfl, rfl⟩
  · have H := Lib.hid ((Vm.sgn_eq x y).2 h)
    go_enter Tryz.func18, Tryz.ntmps18
    go_wp2_with fail
    go_ret
    exact ⟨by rw [H.out]; rfl, rfl⟩
  · have H := Lib.hid (Vm.sgn_gt h)
    go_enter Tryz.func18, Tryz.ntmps18
    go_wp2_with fail
    go_ret
    exact ⟨by rw [H.out]; rfl, rfl⟩
set_option maxHeartbeats 400000 in
theorem refMark_any (l : List UInt8) (i : Nat) (w : World) :
    Calls Tryz.prog 53 #[.string ⟨l.toArray⟩, .int .i64 i] w fun e w' => e = .returned (.int .i64 (Vm.mark l i)) ∧ w = w' := by
  by_cases h : i < l.length
  · obtain ⟨c, hc, hc'⟩ := byte_at l i h
    have H := Lib.hid (mark_at l i h)
    rw [hc'] at H
    clear hc'
    by_cases h1 : c.toNat = 126
    · have h2 : ((c.toNat : Int) == 126) = true := by simp [h1]
      have H1 := Lib.hid h1
      clear h1
      go_enter Tryz.func53, Tryz.ntmps53
      go_wp2_with fail
      go_ret
      exact ⟨by rw [H.out]; simp [Vm.markB, H1.out], rfl⟩
    · have h2 : ((c.toNat : Int) == 126) = false := by simp; omega
      go_enter Tryz.func53, Tryz.ntmps53
      go_wp2_with fail
      refine (refLetter_any c _).mono ?_
      rintro e w' ⟨rfl, rfl⟩
      cases hl : Vm.ltr c
      all_goals
        have HL := Lib.hid hl
        clear hl
        go_wp2
      all_goals
        go_ret
        exact ⟨by rw [H.out]; simp [Vm.markB, HL.out, h1, wrap_byte, wrap_256], rfl⟩
  · have H := Lib.hid (mark_end l i (by omega))
    go_enter Tryz.func53, Tryz.ntmps53
    go_wp2_with fail
    go_ret
    exact ⟨by rw [H.out]; rfl, rfl⟩
set_option maxHeartbeats 400000 in
theorem refOthers_any (a b : List UInt8) (w : World) (ha : a.length ≤ 1000) (hb : b.length ≤ 1000) :
    Calls Tryz.prog 39 #[.string ⟨a.toArray⟩, .string ⟨b.toArray⟩] w fun e w' => e = .returned (.int .i64 (Vm.cmpO a b)) ∧ w = w' := by
  obtain ⟨M, hM, hM2⟩ : ∃ M : Nat, (∀ k : Nat, k < M ↔ k < a.length ∨ k < b.length) ∧ max a.length b.length = M := ⟨max a.length b.length, by omega, rfl⟩
  have HX : Hid (Vm.cmpO a b = Vm.cmpOF a b M 0) := by show _ = _; rw [← hM2]; rfl
  have HK := Lib.hid hM
  have hM3 : M ≤ 1000 := by omega
  clear hM2 hM
  go_enter Tryz.func39, Tryz.ntmps39
  go_wp2_with fail
  go_loop [5] (fun i => ∃ k : Nat, k ≤ M ∧ i = .int .i64 k ∧ Hid (Vm.cmpO a b = Vm.cmpOF a b (M - k) k)) (fun i => M - (intOf i).toNat)
  case atStart => exact ⟨0, Nat.zero_le _, rfl, HX⟩
  case round =>
    obtain ⟨k, hk, rfl, HE⟩ := hrel
    by_cases hlt : k < M
    · have HS := Lib.hid (cmpOF_step a b M k hlt)
      have hor := (HK.out k).1 hlt
      by_cases hka : k < a.length
      all_goals
        try (have hkb : k < b.length := by omega)
        go_wp2_with fail
        refine (refMark_any a k _).mono ?_
        rintro e w' ⟨rfl, rfl⟩
        go_wp2_with fail
        refine (refMark_any b k _).mono ?_
        rintro e w' ⟨rfl, rfl⟩
        obtain ⟨x, hx⟩ : ∃ x, Vm.mark a k = x := ⟨_, rfl⟩
        obtain ⟨y, hy⟩ : ∃ y, Vm.mark b k = y := ⟨_, rfl⟩
        rw [hx, hy] at HS
        rw [hx, hy]
        clear hx hy
        go_wp2_with fail
        refine (refSign_any _ _ _).mono ?_
        rintro e w' ⟨rfl, rfl⟩
        obtain ⟨c, hc⟩ : ∃ c, Vm.sgn x y = c := ⟨_, rfl⟩
        rw [hc] at HS
        rw [hc]
        clear hc
        cases h0 : c == 0
        · have n1 : (c != 0) = true := by rw [bne, h0]; rfl
          have HB : Hid (Vm.cmpO a b = c) := by show _ = _; rw [HE.out, HS.out, Vm.both, h0]; rfl
          clear h0
          go_wp2_with fail
          go_ret
          exact ⟨by rw [HB.out]; rfl, rfl⟩
        · have n1 : (c != 0) = false := by rw [bne, h0]; rfl
          have HB : Hid (Vm.cmpO a b = Vm.cmpOF a b (M - (k + 1)) (k + 1)) := by show _ = _; rw [HE.out, HS.out, Vm.both, h0]; rfl
          clear h0
          go_wp2_with fail
          go_round
          case rel => exact ⟨k + 1, by omega, by go_num, HB⟩
          case measure => simp [intOf]; omega
    · obtain rfl : k = M := by omega
      have hna : ¬ k < a.length := fun h => hlt ((HK.out k).2 (Or.inl h))
      have hnb : ¬ k < b.length := fun h => hlt ((HK.out k).2 (Or.inr h))
      have HB : Hid (Vm.cmpO a b = 0) := by show _ = _; rw [HE.out, Nat.sub_self]; rfl
      go_wp2_with fail
      go_ret
      exact ⟨by rw [HB.out]; rfl, rfl⟩

/-- What the reference's digits looks at: "0" for no digits at all. -/
theorem bare_or (l : List UInt8) : (if (bareR l).isEmpty then [48] else bareR l) = Vm.bare l := by
  cases l with
  | nil => rfl
  | cons c r =>
    rw [bareR_eq (c :: r) (by simp), if_neg]
    simp [Vm.bare_ne]
theorem less_cmp : ∀ x y : List UInt8, Op.bytesLess x y = decide (Lib.compareBytes x y < 0)
  | [], [] => rfl
  | [], _ :: _ => rfl
  | _ :: _, [] => rfl
  | a :: x, b :: y => by
    have ih := less_cmp x y
    unfold Op.bytesLess Lib.compareBytes
    by_cases h1 : a < b
    · simp [h1]
    · by_cases h2 : b < a
      · have : (a == b) = false := by
          have : a ≠ b := fun h => by subst h; exact UInt8.lt_irrefl a h2
          simpa using this
        simp [h1, h2, this]
      · have : (a == b) = true := by
          rw [beq_iff_eq]
          exact UInt8.le_antisymm (UInt8.not_lt.1 h2) (UInt8.not_lt.1 h1)
        simp [h1, h2, this, ih]
set_option maxHeartbeats 400000 in
theorem refDigits_any (a b : List UInt8) (w : World) (ha : a.length ≤ 1000) (hb : b.length ≤ 1000) :
    Calls Tryz.prog 38 #[.string ⟨a.toArray⟩, .string ⟨b.toArray⟩] w fun e w' => e = .returned (.int .i64 (Vm.cmpD a b)) ∧ Below w.heap.size w w' := by
  have HX : Hid (Vm.cmpD a b = Vm.both (Vm.sgn (Vm.bare a).length (Vm.bare b).length) (Lib.compareBytes (Vm.bare a) (Vm.bare b))) := rfl
  have HA := Lib.hid (bare_or a)
  have HB := Lib.hid (bare_or b)
  go_enter Tryz.func38, Tryz.ntmps38
  go_wp2_with fail
  refine (refBare_any a _ ha).mono ?_
  rintro e w' ⟨rfl, rfl⟩
  go_wp2_with fail
  refine (refBare_any b _ hb).mono ?_
  rintro e w' ⟨rfl, rfl⟩
  obtain ⟨x, hx⟩ : ∃ x, bareR a = x := ⟨_, rfl⟩
  obtain ⟨y, hy⟩ : ∃ y, bareR b = y := ⟨_, rfl⟩
  rw [hx] at HA
  rw [hy] at HB
  rw [hx, hy]
  clear hx hy
  cases hxe : x.isEmpty
  · cases hye : y.isEmpty
    · have HX1 : Hid (Vm.cmpD a b = Vm.both (Vm.sgn (x.length : Int) (y.length : Int)) (Lib.compareBytes x y)) := by
        show _ = _
        rw [HX.out, ← HA.out, ← HB.out, hxe, hye]; rfl
      clear HX HA HB
      by_cases hl : (x.length : Int) = (y.length : Int)
      · have n1 : ((x.length : Int) != (y.length : Int)) = false := by rw [hl]; simp
        have HS : Hid (Vm.cmpD a b = Lib.compareBytes x y) := by show _ = _; rw [HX1.out, hl, (Vm.sgn_eq _ _).2 rfl]; rfl
        clear hl HX1
        have hlc := less_cmp x y
        have heq := Vm.cb_eq x y
        have hrg := Vm.cb_range x y
        obtain ⟨c, hc⟩ : ∃ c, Lib.compareBytes x y = c := ⟨_, rfl⟩
        rw [hc] at hlc heq hrg HS
        rcases Int.lt_trichotomy c 0 with h | h | h
        · have e1 : Op.bytesLess x y = true := by rw [hlc]; simp [h]
          have HV : Hid (c = -1) := by show _ = _; omega
          clear hlc heq hrg h hc
          go_wp2_with fail
          go_ret
          exact ⟨by rw [HS.out, HV.out]; rfl, Below.refl _ _⟩
        · have e1 : Op.bytesLess x y = false := by rw [hlc]; simp; omega
          have e2 : (x == y) = true := by rw [beq_iff_eq]; exact heq.1 h
          have HV : Hid (c = 0) := h
          clear hlc heq hrg h hc
          go_wp2_with fail
          go_ret
          exact ⟨by rw [HS.out, HV.out]; rfl, Below.refl _ _⟩
        · have e1 : Op.bytesLess x y = false := by rw [hlc]; simp; omega
          have e2 : (x == y) = false := by rw [beq_eq_false_iff_ne]; exact fun e => by have := heq.2 e; omega
          have HV : Hid (c = 1) := by show _ = _; omega
          clear hlc heq hrg h hc
          go_wp2_with fail
          go_ret
          exact ⟨by rw [HS.out, HV.out]; rfl, Below.refl _ _⟩
      · have n1 : ((x.length : Int) != (y.length : Int)) = true := by simpa using hl
        have HS : Hid (Vm.cmpD a b = Vm.sgn (x.length : Int) (y.length : Int)) := by
          show _ = _
          rw [HX1.out, Vm.both, if_neg]
          rw [beq_iff_eq, Vm.sgn_eq]; exact hl
        clear hl HX1
        go_wp2_with fail
        refine (refSign_any _ _ _).mono ?_
        rintro e w' ⟨rfl, rfl⟩
        go_wp2_with fail
        go_ret
        exact ⟨by rw [HS.out]; rfl, Below.refl _ _⟩
    · have HX1 : Hid (Vm.cmpD a b = Vm.both (Vm.sgn (x.length : Int) (1 : Int)) (Lib.compareBytes x [48])) := by
        show _ = _
        rw [HX.out, ← HA.out, ← HB.out, hxe, hye]; rfl
      clear HX HA HB
      by_cases hl : (x.length : Int) = (1 : Int)
      · have n1 : ((x.length : Int) != (1 : Int)) = false := by rw [hl]; simp
        have HS : Hid (Vm.cmpD a b = Lib.compareBytes x [48]) := by show _ = _; rw [HX1.out, hl, (Vm.sgn_eq _ _).2 rfl]; rfl
        clear hl HX1
        have hlc := less_cmp x [48]
        have heq := Vm.cb_eq x [48]
        have hrg := Vm.cb_range x [48]
        obtain ⟨c, hc⟩ : ∃ c, Lib.compareBytes x [48] = c := ⟨_, rfl⟩
        rw [hc] at hlc heq hrg HS
        rcases Int.lt_trichotomy c 0 with h | h | h
        · have e1 : Op.bytesLess x [48] = true := by rw [hlc]; simp [h]
          have HV : Hid (c = -1) := by show _ = _; omega
          clear hlc heq hrg h hc
          go_wp2_with fail
          go_ret
          exact ⟨by rw [HS.out, HV.out]; rfl, Below.refl _ _⟩
        · have e1 : Op.bytesLess x [48] = false := by rw [hlc]; simp; omega
          have e2 : (x == [48]) = true := by rw [beq_iff_eq]; exact heq.1 h
          have HV : Hid (c = 0) := h
          clear hlc heq hrg h hc
          go_wp2_with fail
          go_ret
          exact ⟨by rw [HS.out, HV.out]; rfl, Below.refl _ _⟩
        · have e1 : Op.bytesLess x [48] = false := by rw [hlc]; simp; omega
          have e2 : (x == [48]) = false := by rw [beq_eq_false_iff_ne]; exact fun e => by have := heq.2 e; omega
          have HV : Hid (c = 1) := by show _ = _; omega
          clear hlc heq hrg h hc
          go_wp2_with fail
          go_ret
          exact ⟨by rw [HS.out, HV.out]; rfl, Below.refl _ _⟩
      · have n1 : ((x.length : Int) != (1 : Int)) = true := by simpa using hl
        have HS : Hid (Vm.cmpD a b = Vm.sgn (x.length : Int) (1 : Int)) := by
          show _ = _
          rw [HX1.out, Vm.both, if_neg]
          rw [beq_iff_eq, Vm.sgn_eq]; exact hl
        clear hl HX1
        go_wp2_with fail
        refine (refSign_any _ _ _).mono ?_
        rintro e w' ⟨rfl, rfl⟩
        go_wp2_with fail
        go_ret
        exact ⟨by rw [HS.out]; rfl, Below.refl _ _⟩
  · cases hye : y.isEmpty
    · have HX1 : Hid (Vm.cmpD a b = Vm.both (Vm.sgn (1 : Int) (y.length : Int)) (Lib.compareBytes [48] y)) := by
        show _ = _
        rw [HX.out, ← HA.out, ← HB.out, hxe, hye]; rfl
      clear HX HA HB
      by_cases hl : (1 : Int) = (y.length : Int)
      · have n1 : ((1 : Int) != (y.length : Int)) = false := by rw [hl]; simp
        have HS : Hid (Vm.cmpD a b = Lib.compareBytes [48] y) := by show _ = _; rw [HX1.out, hl, (Vm.sgn_eq _ _).2 rfl]; rfl
        clear hl HX1
        have hlc := less_cmp [48] y
        have heq := Vm.cb_eq [48] y
        have hrg := Vm.cb_range [48] y
        obtain ⟨c, hc⟩ : ∃ c, Lib.compareBytes [48] y = c := ⟨_, rfl⟩
        rw [hc] at hlc heq hrg HS
        rcases Int.lt_trichotomy c 0 with h | h | h
        · have e1 : Op.bytesLess [48] y = true := by rw [hlc]; simp [h]
          have HV : Hid (c = -1) := by show _ = _; omega
          clear hlc heq hrg h hc
          go_wp2_with fail
          go_ret
          exact ⟨by rw [HS.out, HV.out]; rfl, Below.refl _ _⟩
        · have e1 : Op.bytesLess [48] y = false := by rw [hlc]; simp; omega
          have e2 : ([48] == y) = true := by rw [beq_iff_eq]; exact heq.1 h
          have HV : Hid (c = 0) := h
          clear hlc heq hrg h hc
          go_wp2_with fail
          go_ret
          exact ⟨by rw [HS.out, HV.out]; rfl, Below.refl _ _⟩
        · have e1 : Op.bytesLess [48] y = false := by rw [hlc]; simp; omega
          have e2 : ([48] == y) = false := by rw [beq_eq_false_iff_ne]; exact fun e => by have := heq.2 e; omega
          have HV : Hid (c = 1) := by show _ = _; omega
          clear hlc heq hrg h hc
          go_wp2_with fail
          go_ret
          exact ⟨by rw [HS.out, HV.out]; rfl, Below.refl _ _⟩
      · have n1 : ((1 : Int) != (y.length : Int)) = true := by simpa using hl
        have HS : Hid (Vm.cmpD a b = Vm.sgn (1 : Int) (y.length : Int)) := by
          show _ = _
          rw [HX1.out, Vm.both, if_neg]
          rw [beq_iff_eq, Vm.sgn_eq]; exact hl
        clear hl HX1
        go_wp2_with fail
        refine (refSign_any _ _ _).mono ?_
        rintro e w' ⟨rfl, rfl⟩
        go_wp2_with fail
        go_ret
        exact ⟨by rw [HS.out]; rfl, Below.refl _ _⟩
    · have HX1 : Hid (Vm.cmpD a b = Vm.both (Vm.sgn (1 : Int) (1 : Int)) (Lib.compareBytes [48] [48])) := by
        show _ = _
        rw [HX.out, ← HA.out, ← HB.out, hxe, hye]; rfl
      go_wp2_with fail
      go_ret
      exact ⟨by rw [HX1.out]; rfl, Below.refl _ _⟩
end Go.Proofs.YtaghhdgiegcimaaGreatDoor
