/- The reference's Compare: sign, mark, others, digits, held, Compare. The reference's held and Compare. -/
import Derived.Test.YtkdildgdodnbbaaGreatDoorQe
namespace Go.Proofs.YtkdildgdodnbbaaGreatDoor
open Go.RowKit

theorem refSign_any (x y : Int) (w : World) :
    Calls Tryz.prog 94 #[.int .i64 x, .int .i64 y] w fun e w' => e = .returned (.int .i64 (Vm.sgn x y)) ∧ w = w' := by
  rcases Int.lt_trichotomy x y with h | h | h
  · have H := Lib.hid (Vm.sgn_lt h)
    go_enter Tryz.func94, Tryz.ntmps94
    go_wp2_with fail
    go_ret
    exact ⟨by rw [H.out]; rfl, rfl⟩
  · have H := Lib.hid ((Vm.sgn_eq x y).2 h)
    go_enter Tryz.func94, Tryz.ntmps94
    go_wp2_with fail
    go_ret
    exact ⟨by rw [H.out]; rfl, rfl⟩
  · have H := Lib.hid (Vm.sgn_gt h)
    go_enter Tryz.func94, Tryz.ntmps94
    go_wp2_with fail
    go_ret
    exact ⟨by rw [H.out]; rfl, rfl⟩
set_option maxHeartbeats 400000 in
theorem refMark_any (l : List UInt8) (i : Nat) (w : World) :
    Calls Tryz.prog 132 #[.string ⟨l.toArray⟩, .int .i64 i] w fun e w' => e = .returned (.int .i64 (Vm.mark l i)) ∧ w = w' := by
  by_cases h : i < l.length
  · obtain ⟨c, hc, hc'⟩ := byte_at l i h
    have H := Lib.hid (mark_at l i h)
    rw [hc'] at H
    clear hc'
    by_cases h1 : c.toNat = 126
    · have h2 : ((c.toNat : Int) == 126) = true := by simp [h1]
      have H1 := Lib.hid h1
      clear h1
      go_enter Tryz.func132, Tryz.ntmps132
      go_wp2_with fail
      go_ret
      exact ⟨by rw [H.out]; simp [Vm.markB, H1.out], rfl⟩
    · have h2 : ((c.toNat : Int) == 126) = false := by simp; omega
      go_enter Tryz.func132, Tryz.ntmps132
      go_wp2_with fail
      refine (refLetter_any c _).mono ?_
      rintro e w' ⟨rfl, rfl⟩
      cases hl : Vm.ltr c
      all_goals
        have HL := Lib.hid hl
        clear hl
        go_wp2
      all_goals
        go_ret
        exact ⟨by rw [H.out]; simp [Vm.markB, HL.out, h1, wrap_byte, wrap_256], rfl⟩
  · have H := Lib.hid (mark_end l i (by omega))
    go_enter Tryz.func132, Tryz.ntmps132
    go_wp2_with fail
    go_ret
    exact ⟨by rw [H.out]; rfl, rfl⟩
set_option maxHeartbeats 400000 in
theorem refOthers_any (a b : List UInt8) (w : World) (ha : a.length ≤ 1000) (hb : b.length ≤ 1000) :
    Calls Tryz.prog 115 #[.string ⟨a.toArray⟩, .string ⟨b.toArray⟩] w fun e w' => e = .returned (.int .i64 (Vm.cmpO a b)) ∧ w = w' := by
  obtain ⟨M, hM, hM2⟩ : ∃ M : Nat, (∀ k : Nat, k < M ↔ k < a.length ∨ k < b.length) ∧ max a.length b.length = M := ⟨max a.length b.length, by omega, rfl⟩
  have HX : Hid (Vm.cmpO a b = Vm.cmpOF a b M 0) := by show _ = _; rw [← hM2]; rfl
  have HK := Lib.hid hM
  have hM3 : M ≤ 1000 := by omega
  clear hM2 hM
  go_enter Tryz.func115, Tryz.ntmps115
  go_wp2_with fail
  go_loop [5] (fun i => ∃ k : Nat, k ≤ M ∧ i = .int .i64 k ∧ Hid (Vm.cmpO a b = Vm.cmpOF a b (M - k) k)) (fun i => M - (intOf i).toNat)
  case atStart => exact ⟨0, Nat.zero_le _, rfl, HX⟩
  case round =>
    obtain ⟨k, hk, rfl, HE⟩ := hrel
    by_cases hlt : k < M
    · have HS := Lib.hid (cmpOF_step a b M k hlt)
      have hor := (HK.out k).1 hlt
      by_cases hka : k < a.length
      all_goals
        try (have hkb : k < b.length := by omega)
        go_wp2_with fail
        refine (refMark_any a k _).mono ?_
        rintro e w' ⟨rfl, rfl⟩
        go_wp2_with fail
        refine (refMark_any b k _).mono ?_
        rintro e w' ⟨rfl, rfl⟩
        obtain ⟨x, hx⟩ : ∃ x, Vm.mark a k = x := ⟨_, rfl⟩
        obtain ⟨y, hy⟩ : ∃ y, Vm.mark b k = y := ⟨_, rfl⟩
        rw [hx, hy] at HS
        rw [hx, hy]
        clear hx hy
        go_wp2_with fail
        refine (refSign_any _ _ _).mono ?_
        rintro e w' ⟨rfl, rfl⟩
        obtain ⟨c, hc⟩ : ∃ c, Vm.sgn x y = c := ⟨_, rfl⟩
        rw [hc] at HS
        rw [hc]
        clear hc
        cases h0 : c == 0
        · have n1 : (c != 0) = true := by rw [bne, h0]; rfl
          have HB : Hid (Vm.cmpO a b = c) := by show _ = _; rw [HE.out, HS.out, Vm.both, h0]; rfl
          clear h0
          go_wp2_with fail
          go_ret
          exact ⟨by rw [HB.out]; rfl, rfl⟩
        · have n1 : (c != 0) = false := by rw [bne, h0]; rfl
          have HB : Hid (Vm.cmpO a b = Vm.cmpOF a b (M - (k + 1)) (k + 1)) := by show _ = _; rw [HE.out, HS.out, Vm.both, h0]; rfl
          clear h0
          go_wp2_with fail
          go_round
          case rel => exact ⟨k + 1, by omega, by go_num, HB⟩
          case measure => simp [intOf]; omega
    · obtain rfl : k = M := by omega
      have hna : ¬ k < a.length := fun h => hlt ((HK.out k).2 (Or.inl h))
      have hnb : ¬ k < b.length := fun h => hlt ((HK.out k).2 (Or.inr h))
      have HB : Hid (Vm.cmpO a b = 0) := by show _ = _; rw [HE.out, Nat.sub_self]; rfl
      go_wp2_with fail
      go_ret
      exact ⟨by rw [HB.out]; rfl, rfl⟩

/-- What the reference's digits looks at: "0" for no digits at all. -/
theorem bare_or (l : List UInt8) : (if (bareR l).isEmpty then [48] else bareR l) = Vm.bare l := by
  cases l with
  | nil => rfl
  | cons c r =>
    rw [bareR_eq (c :: r) (by simp), if_neg]
    simp [Vm.bare_ne]
theorem less_cmp : ∀ x y : List UInt8, Op.bytesLess x y = decide (Lib.compareBytes x y < 0)
  | [], [] => rfl
  | [], _ :: _ => rfl
  | _ :: _, [] => rfl
  | a :: x, b :: y => by
    have ih := less_cmp x y
    unfold Op.bytesLess Lib.compareBytes
    by_cases h1 : a < b
    · simp [h1]
    · by_cases h2 : b < a
      · have : (a == b) = false := by
          have : a ≠ b := fun h => by subst h; exact UInt8.lt_irrefl a h2
          simpa using this
        simp [h1, h2, this]
      · have : (a == b) = true := by
          rw [beq_iff_eq]
          exact UInt8.le_antisymm (UInt8.not_lt.1 h2) (UInt8.not_lt.1 h1)
        simp [h1, h2, this, ih]
set_option maxHeartbeats 400000 in
theorem refDigits_any (a b : List UInt8) (w : World) (ha : a.length ≤ 1000) (hb : b.length ≤ 1000) :
    Calls Tryz.prog 114 #[.string ⟨a.toArray⟩, .string ⟨b.toArray⟩] w fun e w' => e = .returned (.int .i64 (Vm.cmpD a b)) ∧ Below w.heap.size w w' := by
  have HX : Hid (Vm.cmpD a b = Vm.both (Vm.sgn (Vm.bare a).length (Vm.bare b).length) (Lib.compareBytes (Vm.bare a) (Vm.bare b))) := rfl
  have HA := Lib.hid (bare_or a)
  have HB := Lib.hid (bare_or b)
  go_enter Tryz.func114, Tryz.ntmps114
  go_wp2_with fail
  refine (refBare_any a _ ha).mono ?_
  rintro e w' ⟨rfl, rfl⟩
  go_wp2_with fail
  refine (refBare_any b _ hb).mono ?_
  rintro e w' ⟨rfl, rfl⟩
  obtain ⟨x, hx⟩ : ∃ x, bareR a = x := ⟨_, rfl⟩
  obtain ⟨y, hy⟩ : ∃ y, bareR b = y := ⟨_, rfl⟩
  rw [hx] at HA
  rw [hy] at HB
  rw [hx, hy]
  clear hx hy
  cases hxe : x.isEmpty
  · cases hye : y.isEmpty
    · have HX1 : Hid (Vm.cmpD a b = Vm.both (Vm.sgn (x.length : Int) (y.length : Int)) (Lib.compareBytes x y)) := by
        show _ = _
        rw [HX.out, ← HA.out, ← HB.out, hxe, hye]; rfl
      clear HX HA HB
      by_cases hl : (x.length : Int) = (y.length : Int)
      · have n1 : ((x.length : Int) != (y.length : Int)) = false := by rw [hl]; simp
        have HS : Hid (Vm.cmpD a b = Lib.compareBytes x y) := by show _ = _; rw [HX1.out, hl, (Vm.sgn_eq _ _).2 rfl]; rfl
        clear hl HX1
        have hlc := less_cmp x y
        have heq := Vm.cb_eq x y
        have hrg := Vm.cb_range x y
        obtain ⟨c, hc⟩ : ∃ c, Lib.compareBytes x y = c := ⟨_, rfl⟩
        rw [hc] at hlc heq hrg HS
        rcases Int.lt_trichotomy c 0 with h | h | h
        · have e1 : Op.bytesLess x y = true := by rw [hlc]; simp [h]
          have HV : Hid (c = -1) := by show _ = _; omega
          clear hlc heq hrg h hc
          go_wp2_with fail
          go_ret
          exact ⟨by rw [HS.out, HV.out]; rfl, Below.refl _ _⟩
        · have e1 : Op.bytesLess x y = false := by rw [hlc]; simp; omega
          have e2 : (x == y) = true := by rw [beq_iff_eq]; exact heq.1 h
          have HV : Hid (c = 0) := h
          clear hlc heq hrg h hc
          go_wp2_with fail
          go_ret
          exact ⟨by rw [HS.out, HV.out]; rfl, Below.refl _ _⟩
        · have e1 : Op.bytesLess x y = false := by rw [hlc]; simp; omega
          have e2 : (x == y) = false := by rw [beq_eq_false_iff_ne]; exact fun e => by have := heq.2 e; omega
          have HV : Hid (c = 1) := by show _ = _; omega
          clear hlc heq hrg h hc
          go_wp2_with fail
          go_ret
          exact ⟨by rw [HS.out, HV.out]; rfl, Below.refl _ _⟩
      · have n1 : ((x.length : Int) != (y.length : Int)) = true := by simpa using hl
        have HS : Hid (Vm.cmpD a b = Vm.sgn (x.length : Int) (y.length : Int)) := by
          show _ = _
          rw [HX1.out, Vm.both, if_neg]
          rw [beq_iff_eq, Vm.sgn_eq]; exact hl
        clear hl HX1
        go_wp2_with fail
        refine (refSign_any _ _ _).mono ?_
        rintro e w' ⟨rfl, rfl⟩
        go_wp2_with fail
        go_ret
        exact ⟨by rw [HS.out]; rfl, Below.refl _ _⟩
    · have HX1 : Hid (Vm.cmpD a b = Vm.both (Vm.sgn (x.length : Int) (1 : Int)) (Lib.compareBytes x [48])) := by
        show _ = _
        rw [HX.out, ← HA.out, ← HB.out, hxe, hye]; rfl
      clear HX HA HB
      by_cases hl : (x.length : Int) = (1 : Int)
      · have n1 : ((x.length : Int) != (1 : Int)) = false := by rw [hl]; simp
        have HS : Hid (Vm.cmpD a b = Lib.compareBytes x [48]) := by show _ = _; rw [HX1.out, hl, (Vm.sgn_eq _ _).2 rfl]; rfl
        clear hl HX1
        have hlc := less_cmp x [48]
        have heq := Vm.cb_eq x [48]
        have hrg := Vm.cb_range x [48]
        obtain ⟨c, hc⟩ : ∃ c, Lib.compareBytes x [48] = c := ⟨_, rfl⟩
        rw [hc] at hlc heq hrg HS
        rcases Int.lt_trichotomy c 0 with h | h | h
        · have e1 : Op.bytesLess x [48] = true := by rw [hlc]; simp [h]
          have HV : Hid (c = -1) := by show _ = _; omega
          clear hlc heq hrg h hc
          go_wp2_with fail
          go_ret
          exact ⟨by rw [HS.out, HV.out]; rfl, Below.refl _ _⟩
        · have e1 : Op.bytesLess x [48] = false := by rw [hlc]; simp; omega
          have e2 : (x == [48]) = true := by rw [beq_iff_eq]; exact heq.1 h
          have HV : Hid (c = 0) := h
          clear hlc heq hrg h hc
          go_wp2_with fail
          go_ret
          exact ⟨by rw [HS.out, HV.out]; rfl, Below.refl _ _⟩
        · have e1 : Op.bytesLess x [48] = false := by rw [hlc]; simp; omega
          have e2 : (x == [48]) = false := by rw [beq_eq_false_iff_ne]; exact fun e => by have := heq.2 e; omega
          have HV : Hid (c = 1) := by show _ = _; omega
          clear hlc heq hrg h hc
          go_wp2_with fail
          go_ret
          exact ⟨by rw [HS.out, HV.out]; rfl, Below.refl _ _⟩
      · have n1 : ((x.length : Int) != (1 : Int)) = true := by simpa using hl
        have HS : Hid (Vm.cmpD a b = Vm.sgn (x.length : Int) (1 : Int)) := by
          show _ = _
          rw [HX1.out, Vm.both, if_neg]
          rw [beq_iff_eq, Vm.sgn_eq]; exact hl
        clear hl HX1
        go_wp2_with fail
        refine (refSign_any _ _ _).mono ?_
        rintro e w' ⟨rfl, rfl⟩
        go_wp2_with fail
        go_ret
        exact ⟨by rw [HS.out]; rfl, Below.refl _ _⟩
  · cases hye : y.isEmpty
    · have HX1 : Hid (Vm.cmpD a b = Vm.both (Vm.sgn (1 : Int) (y.length : Int)) (Lib.compareBytes [48] y)) := by
        show _ = _
        rw [HX.out, ← HA.out, ← HB.out, hxe, hye]; rfl
      clear HX HA HB
      by_cases hl : (1 : Int) = (y.length : Int)
      · have n1 : ((1 : Int) != (y.length : Int)) = false := by rw [hl]; simp
        have HS : Hid (Vm.cmpD a b = Lib.compareBytes [48] y) := by show _ = _; rw [HX1.out, hl, (Vm.sgn_eq _ _).2 rfl]; rfl
        clear hl HX1
        have hlc := less_cmp [48] y
        have heq := Vm.cb_eq [48] y
        have hrg := Vm.cb_range [48] y
        obtain ⟨c, hc⟩ : ∃ c, Lib.compareBytes [48] y = c := ⟨_, rfl⟩
        rw [hc] at hlc heq hrg HS
        rcases Int.lt_trichotomy c 0 with h | h | h
        · have e1 : Op.bytesLess [48] y = true := by rw [hlc]; simp [h]
          have HV : Hid (c = -1) := by show _ = _; omega
          clear hlc heq hrg h hc
          go_wp2_with fail
          go_ret
          exact ⟨by rw [HS.out, HV.out]; rfl, Below.refl _ _⟩
        · have e1 : Op.bytesLess [48] y = false := by rw [hlc]; simp; omega
          have e2 : ([48] == y) = true := by rw [beq_iff_eq]; exact heq.1 h
          have HV : Hid (c = 0) := h
          clear hlc heq hrg h hc
          go_wp2_with fail
          go_ret
          exact ⟨by rw [HS.out, HV.out]; rfl, Below.refl _ _⟩
        · have e1 : Op.bytesLess [48] y = false := by rw [hlc]; simp; omega
          have e2 : ([48] == y) = false := by rw [beq_eq_false_iff_ne]; exact fun e => by have := heq.2 e; omega
          have HV : Hid (c = 1) := by show _ = _; omega
          clear hlc heq hrg h hc
          go_wp2_with fail
          go_ret
          exact ⟨by rw [HS.out, HV.out]; rfl, Below.refl _ _⟩
      · have n1 : ((1 : Int) != (y.length : Int)) = true := by simpa using hl
        have HS : Hid (Vm.cmpD a b = Vm.sgn (1 : Int) (y.length : Int)) := by
          show _ = _
          rw [HX1.out, Vm.both, if_neg]
          rw [beq_iff_eq, Vm.sgn_eq]; exact hl
        clear hl HX1
        go_wp2_with fail
        refine (refSign_any _ _ _).mono ?_
        rintro e w' ⟨rfl, rfl⟩
        go_wp2_with fail
        go_ret
        exact ⟨by rw [HS.out]; rfl, Below.refl _ _⟩
    · have HX1 : Hid (Vm.cmpD a b = Vm.both (Vm.sgn (1 : Int) (1 : Int)) (Lib.compareBytes [48] [48])) := by
        show _ = _
        rw [HX.out, ← HA.out, ← HB.out, hxe, hye]; rfl
      go_wp2_with fail
      go_ret
      exact ⟨by rw [HX1.out]; rfl, Below.refl _ _⟩
end Go.Proofs.YtkdildgdodnbbaaGreatDoor
namespace Go.Proofs.YtkdildgdodnbbaaGreatDoor
open Go.RowKit

set_option maxHeartbeats 800000 in
theorem refHeld_any (n : Nat) (a b : List UInt8) (w : World) (hn : n ≤ 1000) (ha : a.length ≤ n) (hb : b.length ≤ n) :
    Calls Tryz.prog 96 #[.string ⟨a.toArray⟩, .string ⟨b.toArray⟩] w fun e w' => e = .returned (.int .i64 (Vm.cmpP n a b)) ∧ Below w.heap.size w w' := by
  go_enter Tryz.func96, Tryz.ntmps96
  go_wp2_with fail
  go_loopw [0, 1] (fun p q wr => ∃ (m : Nat) (c d : List UInt8), m ≤ n ∧ c.length ≤ m ∧ d.length ≤ m ∧ p = .string ⟨c.toArray⟩ ∧ q = .string ⟨d.toArray⟩ ∧ Hid (Vm.cmpP n a b = Vm.cmpP m c d) ∧ Below w.heap.size w wr) (fun p q _ => strLen p + strLen q)
  case atStart => exact ⟨n, a, b, Nat.le_refl _, ha, hb, rfl, rfl, rfl, Below.refl _ _⟩
  case round =>
    obtain ⟨m, c, d, hm, hc, hd, rfl, rfl, HE, hbel⟩ := hrel
    by_cases hemp : (c.isEmpty && d.isEmpty) = true
    · have HB : Hid (Vm.cmpP n a b = 0) := by show _ = _; rw [HE.out]; exact cmpP_end _ _ _ hemp
      have h1 : c.isEmpty = true := by cases hc : c.isEmpty <;> simp_all
      have h2 : d.isEmpty = true := by cases hd : d.isEmpty <;> simp_all
      clear hemp
      go_wp2_with fail
      go_ret
      exact ⟨by rw [HB.out]; rfl, hbel⟩
    · have hemp' : (c.isEmpty && d.isEmpty) = false := by simpa using hemp
      clear hemp
      have hmpos : 0 < m := by
        rcases Nat.eq_zero_or_pos m with h | h
        · subst h
          have h1 : c = [] := List.eq_nil_of_length_eq_zero (by omega)
          have h2 : d = [] := List.eq_nil_of_length_eq_zero (by omega)
          subst h1 h2; simp at hemp'
        · exact h
      obtain ⟨m', rfl⟩ : ∃ m', m = m' + 1 := ⟨m - 1, by omega⟩
      have HS := Lib.hid (cmpP_step m' c d hemp')
      have l1 := undigs_le c
      have k1 := digs_le c
      have k2 := digs_le d
      have l2 := undigs_le d
      have l3 := oths_le (Vm.undigs c)
      have l4 := oths_le (Vm.undigs d)
      have l5 : (Vm.tail2 c).length ≤ m' := by
        cases he : c.isEmpty
        · have := tail2_lt c he; omega
        · have : c = [] := by simpa using he
          subst this; show 0 ≤ m'; omega
      have l6 : (Vm.tail2 d).length ≤ m' := by
        cases he : d.isEmpty
        · have := tail2_lt d he; omega
        · have : d = [] := by simpa using he
          subst this; show 0 ≤ m'; omega
      have l7 : (Vm.tail2 c).length + (Vm.tail2 d).length < c.length + d.length := by
        have h1 := tail2_le c
        have h2 := tail2_le d
        cases he : c.isEmpty
        · have := tail2_lt c he; omega
        · cases he2 : d.isEmpty
          · have := tail2_lt d he2; omega
          · rw [he, he2] at hemp'; cases hemp'
      have HL5 := Lib.hid l5
      have HL6 := Lib.hid l6
      have HL7 := Lib.hid l7
      have HM := Lib.hid hemp'
      clear l5 l6 l7 hemp' hmpos
      cases hc0 : c.isEmpty
      all_goals
        try (have hd0 : d.isEmpty = false := by have := HM.out; rw [hc0] at this; simpa using this)
        go_wp2_with fail
        refine (runT c _ (by omega)).mono ?_
        rintro e w1 ⟨rfl, hb1⟩
        go_wp2_with fail
        refine (runT d _ (by omega)).mono ?_
        rintro e w2 ⟨rfl, hb2⟩
        have hbel2 : Below w.heap.size w w2 := (hbel.trans (hb1.mono hbel.size)).trans (hb2.mono (Nat.le_trans hbel.size hb1.size))
        clear hb1 hb2
        go_wp2_with fail
        refine (refDigits_any _ _ _ (by omega) (by omega)).mono ?_
        rintro e w3 ⟨rfl, hb3⟩
        have hbel3 : Below w.heap.size w w3 := hbel2.trans (hb3.mono hbel2.size)
        clear hb3 hbel2
        obtain ⟨x, hx⟩ : ∃ x, Vm.cmpD (Vm.digs c) (Vm.digs d) = x := ⟨_, rfl⟩
        rw [hx] at HS
        rw [hx]
        clear hx
        cases h0 : x == 0
        · have n1 : (x != 0) = true := by rw [bne, h0]; rfl
          have HB : Hid (Vm.cmpP n a b = x) := by show _ = _; rw [HE.out, HS.out, Vm.both, h0]; rfl
          clear h0
          go_wp2_with fail
          go_ret
          exact ⟨by rw [HB.out]; rfl, hbel3⟩
        · have n1 : (x != 0) = false := by rw [bne, h0]; rfl
          have HB : Hid (Vm.cmpP n a b = Vm.both (Vm.cmpO (Vm.oths (Vm.undigs c)) (Vm.oths (Vm.undigs d))) (Vm.cmpP m' (Vm.tail2 c) (Vm.tail2 d))) := by show _ = _; rw [HE.out, HS.out, Vm.both, h0]; rfl
          clear h0
          go_wp2_with fail
          refine (runF _ _ (by omega)).mono ?_
          rintro e w4 ⟨rfl, hb4⟩
          go_wp2_with fail
          refine (runF _ _ (by omega)).mono ?_
          rintro e w5 ⟨rfl, hb5⟩
          have hbel5 : Below w.heap.size w w5 := (hbel3.trans (hb4.mono hbel3.size)).trans (hb5.mono (Nat.le_trans hbel3.size hb4.size))
          clear hb4 hb5 hbel3
          go_wp2_with fail
          refine (refOthers_any _ _ _ (by omega) (by omega)).mono ?_
          rintro e w6 ⟨rfl, rfl⟩
          obtain ⟨y, hy⟩ : ∃ y, Vm.cmpO (Vm.oths (Vm.undigs c)) (Vm.oths (Vm.undigs d)) = y := ⟨_, rfl⟩
          rw [hy] at HB
          rw [hy]
          clear hy
          cases h0 : y == 0
          · have n1 : (y != 0) = true := by rw [bne, h0]; rfl
            have HC : Hid (Vm.cmpP n a b = y) := by show _ = _; rw [HB.out, Vm.both, h0]; rfl
            clear h0
            go_wp2_with fail
            go_ret
            exact ⟨by rw [HC.out]; rfl, hbel5⟩
          · have n1 : (y != 0) = false := by rw [bne, h0]; rfl
            have HC : Hid (Vm.cmpP n a b = Vm.cmpP m' (Vm.tail2 c) (Vm.tail2 d)) := by show _ = _; rw [HB.out, Vm.both, h0]; rfl
            clear h0
            go_wp2_with fail
            go_roundw
            case rel => exact ⟨m', Vm.tail2 c, Vm.tail2 d, by omega, HL5.out, HL6.out, rfl, rfl, HC, hbel5⟩
            case measure => have := HL7.out; simpa [strLen, Vm.tail2] using this
/-- What a version's pieces are for the reference's Compare. -/
theorem rvR_or {l : List UInt8} (h : Vm.check l = 0) : Vm.rv l = (if (rvR l).isEmpty then [48] else rvR l) := by
  have hv := (verOk_of h).2.2.2
  unfold rvR Vm.rv at *
  cases h1 : Vm.has 45 (Vm.rest l)
  · rfl
  · rw [h1] at hv
    simp only [if_true] at hv ⊢
    have hne : (Vm.snd 45 (Vm.rest l)).isEmpty = false := by
      have := ((Vm.partOk_iff _).1 hv).1
      simpa using this
    rw [hne]; rfl
theorem cmpV_parts {l m : List UInt8} (h1 : Vm.check l = 0) (h2 : Vm.check m = 0) :
    Vm.cmpV l m = Vm.both (Vm.sgn (Vm.num (Vm.ep l)) (Vm.num (Vm.ep m))) (Vm.both (Vm.cmpP 41 (Vm.pt l) (Vm.pt m)) (Vm.cmpP 41 (if (rvR l).isEmpty then [48] else rvR l) (if (rvR m).isEmpty then [48] else rvR m))) := by
  unfold Vm.cmpV
  rw [rvR_or h1, rvR_or h2, Vm.cmpD_num _ _ ((Vm.epOk_iff _).1 (Vm.ver_of h1).2.1).2.2 ((Vm.epOk_iff _).1 (Vm.ver_of h2).2.1).2.2]
theorem rvR_len {l : List UInt8} (h : Vm.check l = 0) : (rvR l).length ≤ 41 := by
  have := (Vm.rv_len h).1
  rw [rvR_or h] at this
  cases hr : (rvR l).isEmpty
  · rw [hr] at this; exact this
  · have : rvR l = [] := by simpa using hr
    rw [this]; simp
set_option maxHeartbeats 1000000 in
theorem refCompare_any (l m : List UInt8) (w : World) (h1 : Vm.check l = 0) (h2 : Vm.check m = 0) :
    Calls Tryz.prog 73 #[.string ⟨l.toArray⟩, .string ⟨m.toArray⟩] w fun e w' => e = .returned (.int .i64 (Vm.cmpV l m)) ∧ Below w.heap.size w w' := by
  have HX := Lib.hid (cmpV_parts h1 h2)
  have H1 := Lib.hid h1
  have H2 := Lib.hid h2
  have p1 := (Vm.rv_len h1).2
  have p2 := (Vm.rv_len h2).2
  have r1 := rvR_len h1
  have r2 := rvR_len h2
  clear h1 h2
  go_enter Tryz.func73, Tryz.ntmps73
  go_wp2_with fail
  refine (parts_yes l _ H1.out).mono ?_
  rintro _ w2 ⟨rfl, rfl⟩
  go_wp2_with fail
  refine (parts_yes m _ H2.out).mono ?_
  rintro _ w2 ⟨rfl, rfl⟩
  obtain ⟨p, hp⟩ : ∃ x, Vm.pt l = x := ⟨_, rfl⟩
  obtain ⟨q, hq⟩ : ∃ x, Vm.pt m = x := ⟨_, rfl⟩
  obtain ⟨r, hr⟩ : ∃ x, rvR l = x := ⟨_, rfl⟩
  obtain ⟨s, hs⟩ : ∃ x, rvR m = x := ⟨_, rfl⟩
  rw [hp] at HX p1
  rw [hq] at HX p2
  rw [hr] at HX r1
  rw [hs] at HX r2
  rw [hp, hq, hr, hs]
  clear hp hq hr hs
  go_wp2_with fail
  refine (refEpoch_any l _ H1.out).mono ?_
  rintro _ w2 ⟨rfl, rfl⟩
  go_wp2_with fail
  refine (refEpoch_any m _ H2.out).mono ?_
  rintro _ w2 ⟨rfl, rfl⟩
  obtain ⟨i, hi⟩ : ∃ x, Vm.num (Vm.ep l) = x := ⟨_, rfl⟩
  obtain ⟨j, hj⟩ : ∃ x, Vm.num (Vm.ep m) = x := ⟨_, rfl⟩
  rw [hi, hj] at HX
  rw [hi, hj]
  clear hi hj
  go_wp2_with fail
  refine (refSign_any _ _ _).mono ?_
  rintro _ w2 ⟨rfl, rfl⟩
  obtain ⟨c, hc⟩ : ∃ c, Vm.sgn (i : Int) (j : Int) = c := ⟨_, rfl⟩
  rw [hc] at HX
  rw [hc]
  clear hc
  cases h0 : c == 0
  · have n1 : (c != 0) = true := by rw [bne, h0]; rfl
    have HB : Hid (Vm.cmpV l m = c) := by show _ = _; rw [HX.out, Vm.both, h0]; rfl
    clear h0 HX
    go_wp2_with fail
    go_ret
    exact ⟨by rw [HB.out]; rfl, Below.refl _ _⟩
  · have n1 : (c != 0) = false := by rw [bne, h0]; rfl
    have HB : Hid (Vm.cmpV l m = Vm.both (Vm.cmpP 41 p q) (Vm.cmpP 41 (if r.isEmpty then [48] else r) (if s.isEmpty then [48] else s))) := by show _ = _; rw [HX.out, Vm.both, h0]; rfl
    clear h0 HX
    go_wp2_with fail
    refine (refHeld_any 41 p q _ (by omega) p1 p2).mono ?_
    rintro _ w2 ⟨rfl, hb⟩
    obtain ⟨d, hd⟩ : ∃ c, Vm.cmpP 41 p q = c := ⟨_, rfl⟩
    rw [hd] at HB
    rw [hd]
    clear hd
    cases h0 : d == 0
    · have n2 : (d != 0) = true := by rw [bne, h0]; rfl
      have HC : Hid (Vm.cmpV l m = d) := by show _ = _; rw [HB.out, Vm.both, h0]; rfl
      clear h0 HB
      go_wp2_with fail
      go_ret
      exact ⟨by rw [HC.out]; rfl, hb⟩
    · have n2 : (d != 0) = false := by rw [bne, h0]; rfl
      have HC : Hid (Vm.cmpV l m = Vm.cmpP 41 (if r.isEmpty then [48] else r) (if s.isEmpty then [48] else s)) := by show _ = _; rw [HB.out, Vm.both, h0]; rfl
      clear h0 HB
      have HB2 := Lib.hid hb
      clear hb
      cases hr : r.isEmpty
      · cases hs : s.isEmpty
        · have HD : Hid (Vm.cmpV l m = Vm.cmpP 41 r s) := by show _ = _; rw [HC.out, hr, hs]; rfl
          clear HC
          go_wp2_with fail
          refine (refHeld_any 41 r s _ (by omega) (by first | assumption | decide) (by first | assumption | decide)).mono ?_
          rintro _ w3 ⟨rfl, hb⟩
          have HB3 := Lib.hid (HB2.out.trans (hb.mono HB2.out.size))
          clear hb
          rw [← HD.out]
          go_wp2_with fail
          go_ret
          exact ⟨rfl, HB3.out⟩
        · have HD : Hid (Vm.cmpV l m = Vm.cmpP 41 r [48]) := by show _ = _; rw [HC.out, hr, hs]; rfl
          clear HC
          go_wp2_with fail
          refine (refHeld_any 41 r [48] _ (by omega) (by first | assumption | decide) (by first | assumption | decide)).mono ?_
          rintro _ w3 ⟨rfl, hb⟩
          have HB3 := Lib.hid (HB2.out.trans (hb.mono HB2.out.size))
          clear hb
          rw [← HD.out]
          go_wp2_with fail
          go_ret
          exact ⟨rfl, HB3.out⟩
      · cases hs : s.isEmpty
        · have HD : Hid (Vm.cmpV l m = Vm.cmpP 41 [48] s) := by show _ = _; rw [HC.out, hr, hs]; rfl
          clear HC
          go_wp2_with fail
          refine (refHeld_any 41 [48] s _ (by omega) (by first | assumption | decide) (by first | assumption | decide)).mono ?_
          rintro _ w3 ⟨rfl, hb⟩
          have HB3 := Lib.hid (HB2.out.trans (hb.mono HB2.out.size))
          clear hb
          rw [← HD.out]
          go_wp2_with fail
          go_ret
          exact ⟨rfl, HB3.out⟩
        · have HD : Hid (Vm.cmpV l m = Vm.cmpP 41 [48] [48]) := by show _ = _; rw [HC.out, hr, hs]; rfl
          clear HC
          go_wp2_with fail
          refine (refHeld_any 41 [48] [48] _ (by omega) (by first | assumption | decide) (by first | assumption | decide)).mono ?_
          rintro _ w3 ⟨rfl, hb⟩
          have HB3 := Lib.hid (HB2.out.trans (hb.mono HB2.out.size))
          clear hb
          rw [← HD.out]
          go_wp2_with fail
          go_ret
          exact ⟨rfl, HB3.out⟩
end Go.Proofs.YtkdildgdodnbbaaGreatDoor
