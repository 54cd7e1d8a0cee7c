/- The reference's WeightText. -/
import Derived.Test.YtaghhdgiegcimaaDoorWt
import Derived.Test.YtaghhdgiegcimaaDoorWi
namespace Go.Proofs.YtaghhdgiegcimaaDoor
open Go.RowKit

namespace Wm
theorem fracB (n : Bool) (r : Nat) (h : r < 9223372036854775808) : bits .and .u64 (word n r : Nat) 4503599627370495 = ((r % 4503599627370496 : Nat) : Int) := by
  have h1 := u64_and_nat (word n r) 4503599627370495 (rung_word n h).2.2 (by decide)
  refine h1.trans ?_
  rw [show (4503599627370495 : Nat) = 2 ^ 52 - 1 from rfl, Nat.and_two_pow_sub_one_eq_mod]
  congr 1
  unfold word; cases n <;> simp <;> omega
theorem topB (f : Nat) (hf : f < 4503599627370496) : bits .or .u64 (f : Int) 4503599627370496 = ((4503599627370496 + f : Nat) : Int) := by
  have := setB false 1 f (by decide) hf
  exact this
theorem sgnShift (n : Bool) (r : Nat) (h : r < 9223372036854775808) : ((word n r : Int) / 9223372036854775808 == 1) = n := by
  unfold word
  cases n <;> rw [Bool.eq_iff_iff] <;> simp <;> omega
end Wm
set_option maxHeartbeats 800000 in
theorem word_any (n : Int) (h1 : -5000 ≤ n) (h2 : n ≤ 5000) (w : World) :
    Calls Tryd.prog 66 #[.int .i64 n] w fun e w' => e = .returned (.string ⟨(Lib.itoa n).toArray⟩) ∧ Below w.heap.size w w' := by
  have hl := Lib.nDigits_le20 n.natAbs (by omega)
  rw [← Lib.decDigits_length] at hl
  by_cases hn : n < 0
  · obtain ⟨k, rfl⟩ : ∃ k : Nat, n = -(k : Int) := ⟨n.natAbs, by omega⟩
    have HV : Hid (Lib.itoa (-(k : Int)) = 45 :: Lib.decDigits k) := by show _ = _; unfold Lib.itoa; rw [if_pos hn]; congr 2; omega
    rw [show (-(k : Int)).natAbs = k from by omega] at hl
    go_enter Tryd.func66, Tryd.ntmps66
    go_wp2_with fail
    rw [show -(-(k : Int) + 1) + 1 = (k : Int) from by omega]
    refine (decimalW_any k (by omega) _).mono ?_
    rintro _ w1 ⟨rfl, hb⟩
    have HD := Lib.hid hb
    clear hb
    go_wp2_with fail
    go_ret
    refine ⟨?_, HD.out⟩
    rw [HV.out]
    show Ending.returned (.string (ByteArray.mk ([45] : List UInt8).toArray ++ ByteArray.mk (Lib.decDigits k).toArray)) = _
    rw [ByteArray.mk_append_mk]; rfl
  · obtain ⟨k, rfl⟩ : ∃ k : Nat, n = (k : Int) := ⟨n.natAbs, by omega⟩
    have HV : Hid (Lib.itoa (k : Int) = Lib.decDigits k) := by show _ = _; unfold Lib.itoa; rw [if_neg hn]; rfl
    go_enter Tryd.func66, Tryd.ntmps66
    go_wp2_with fail
    refine (decimalW_any k (by omega) _).mono ?_
    rintro _ w1 ⟨rfl, hb⟩
    go_wp2_with fail
    go_ret
    exact ⟨by rw [HV.out]; rfl, hb⟩
def sgnTxt (n : Bool) : List UInt8 := if n then [45] else []
theorem textW_ref (n : Bool) {r : Nat} (h : Fin r) : Wm.textW (Wm.word n r) = sgnTxt n ++ (Lib.decDigits (Wm.kOf r) ++ 112 :: Lib.itoa (Wm.eOf r)) := by
  rw [textW_fin n h]
  unfold Wm.textF Lib.itoa Wm.sg sgnTxt
  have hk := (Wm.kOf_spec h.1 h.2).1
  cases n
  · rw [if_neg (by first | (simp; done) | (simp; omega))]
    simp
  · rw [if_pos (by first | (simp; done) | (simp; omega))]
    simp
/-- The digits m and the power e still to be made odd. -/
def OddSt (r m : Nat) (e : Int) : Prop := 0 < m ∧ m < 9007199254740992 ∧ Wm.od m = Wm.kOf r ∧ e + (Wm.tz m : Int) = Wm.eOf r
theorem oddSt_start {r : Nat} (h : 0 < r) : OddSt r (Wm.magOf r) (-1074 + (Wm.upOf r : Int)) := by
  obtain ⟨e1, e2⟩ := Wm.kOf_eq h
  exact ⟨Wm.magOf_pos h, Wm.magOf_lt r, e1.symm, e2.symm⟩
theorem oddSt_next {r m : Nat} {e : Int} (h : OddSt r m e) (h2 : m % 2 = 0) : OddSt r (m / 2) (e + 1) := by
  obtain ⟨h0, h1, h3, h4⟩ := h
  have hk : 0 < m / 2 := by omega
  have e1 := Wm.od_mul hk 1
  have e2 := Wm.tz_mul hk 1
  rw [show m / 2 * 2 ^ 1 = m from by omega] at e1 e2
  exact ⟨hk, by omega, by rw [← h3, e1], by omega⟩
theorem oddSt_end {r m : Nat} {e : Int} (h : OddSt r m e) (h2 : m % 2 = 1) : m = Wm.kOf r ∧ e = Wm.eOf r := by
  obtain ⟨h0, h1, h3, h4⟩ := h
  rw [Wm.od_odd h2] at h3
  rw [Wm.tz_odd h2] at h4
  exact ⟨h3, by omega⟩
theorem cat4 (n : Bool) (d t : List UInt8) : ByteArray.mk (sgnTxt n).toArray ++ ByteArray.mk d.toArray ++ ByteArray.mk #[112] ++ ByteArray.mk t.toArray = ByteArray.mk (sgnTxt n ++ (d ++ 112 :: t)).toArray := by
  rw [show (#[112] : Array UInt8) = ([112] : List UInt8).toArray from rfl, ByteArray.mk_append_mk, ByteArray.mk_append_mk, ByteArray.mk_append_mk]
  simp
theorem oddSt_bounds {r m : Nat} {e : Int} (h : OddSt r m e) (hr : Fin r) : e ≤ 1023 ∧ Wm.eOf r ≤ 1023 ∧ -1074 ≤ Wm.eOf r := by
  obtain ⟨_, _, s3, s4, _⟩ := Wm.kOf_spec hr.1 hr.2
  have := h.2.2.2
  omega
set_option maxHeartbeats 4000000 in
theorem refText_fin (n : Bool) (r : Nat) (h : Fin r) (w : World) :
    Calls Tryd.prog 31 #[.float .f64 (Wm.word n r)] w fun e w' => e = .returned (.string ⟨(Wm.textW (Wm.word n r)).toArray⟩) ∧ Below w.heap.size w w' := by
  have HV := Lib.hid (textW_ref n h)
  have h2 := h.2
  have hfb := tb_run
  have e1 := Wm.sgnShift n r (by omega)
  have e2 := Wm.fracB n r (by omega)
  have e3 := Wm.expB n r (by omega)
  have HS0 := Lib.hid (oddSt_start h.1)
  have HF := Lib.hid h
  have hmp := Wm.magOf_pos h.1
  have hq : r / 4503599627370496 < 2047 := by omega
  have hm : (4503599627370496 ≤ r ∧ Wm.magOf r = 4503599627370496 + r % 4503599627370496 ∧ Wm.upOf r = r / 4503599627370496 - 1) ∨ (r < 4503599627370496 ∧ r / 4503599627370496 = 0 ∧ r % 4503599627370496 = Wm.magOf r ∧ Wm.upOf r = 0) := by
    by_cases c : r < 4503599627370496
    · right; refine ⟨c, by omega, ?_, ?_⟩
      · unfold Wm.magOf; rw [if_pos c]; omega
      · unfold Wm.upOf; rw [if_pos c]
    · left; exact ⟨by omega, (Wm.mag_norm (by omega)).1, (Wm.mag_norm (by omega)).2⟩
  have hz : ((Wm.magOf r : Int) == 0) = false := by rw [beq_eq_false_iff_ne]; omega
  have hk53 := (Wm.kOf_spec h.1 h.2).2.1
  have hb := oddSt_bounds HS0.out h
  rcases hm with ⟨c, m1, m2⟩ | ⟨c, m0, m1, m2⟩
  · have e4 := Wm.topB (r % 4503599627370496) (by omega)
    rw [← m1] at e4
    have hq0 : 0 < r / 4503599627370496 := by omega
    have hq2 : (((r / 4503599627370496 : Nat) : Int) == 2047) = false := by rw [beq_eq_false_iff_ne]; omega
    rw [m2] at HS0
    rw [show (-1074 : Int) + ((r / 4503599627370496 - 1 : Nat) : Int) = (r / 4503599627370496 : Nat) - 1075 from by omega] at HS0
    clear m1 m2 c h2 h
    generalize r / 4503599627370496 = q at *
    generalize r % 4503599627370496 = f at *
    generalize Wm.magOf r = m at *
    cases n
    all_goals
      go_enter Tryd.func31, Tryd.ntmps31
      go_wp2_with fail
      clear hq hq0 hq2 hz e1 e2 e3 e4 hfb
      go_loop [5, 7] (fun a b => ∃ (x : Nat) (e : Int), a = .int .u64 x ∧ b = .int .i64 e ∧ Hid (OddSt r x e)) (fun a _ => (intOf a).toNat)
      case atStart => exact ⟨m, _, rfl, rfl, HS0⟩
      case round =>
        clear HS0
        obtain ⟨x, e, rfl, rfl, HS⟩ := hrel
        have hbx := oddSt_bounds HS.out HF.out
        have hx0 := HS.out.1
        have hx1 := HS.out.2.1
        have htz := HS.out.2.2.2
        have he : -2000 ≤ e := by have := Wm.tz_lt hx0 (show x < 2 ^ 53 from hx1); omega
        clear htz
        by_cases hx : x % 2 = 0
        · have h0 : ((x : Int) % 2 == 0) = true := by rw [beq_iff_eq]; omega
          have HN := Lib.hid (oddSt_next HS.out hx)
          clear HS hx
          go_wp2_with fail
          go_round
          case rel => exact ⟨x / 2, e + 1, by go_num, rfl, HN⟩
          case measure => simp [intOf]; omega
        · have h0 : ((x : Int) % 2 == 0) = false := by rw [beq_eq_false_iff_ne]; omega
          have HE := Lib.hid (oddSt_end HS.out (by omega))
          clear HS hx
          go_wp2_with fail
          have hl1 := Lib.nDigits_le20 x (by omega)
          rw [← Lib.decDigits_length] at hl1
          have hl2 := Lib.itoa_length_le e (by omega) (by omega)
          refine (decimalW_any x (by omega) _).mono ?_
          rintro _ w1 ⟨rfl, hb1⟩
          have HB1 := Lib.hid hb1
          clear hb1
          go_wp2_with fail
          refine (word_any e (by omega) (by omega) _).mono ?_
          rintro _ w2 ⟨rfl, hb2⟩
          have HB2 := Lib.hid (HB1.out.trans (hb2.mono HB1.out.size))
          clear hb2
          go_wp2_with fail
          go_ret
          refine ⟨?_, HB2.out⟩
          rw [HV.out, ← HE.out.1, ← HE.out.2]
          refine congrArg (fun x => Ending.returned (Value.string x)) ?_
          first | exact cat4 false _ _ | exact cat4 true _ _
  · have hq2 : (((0 : Nat) : Int) == 2047) = false := rfl
    rw [m2] at HS0
    rw [show (-1074 : Int) + ((0 : Nat) : Int) = -1074 from rfl] at HS0
    rw [m0] at e3
    rw [m1] at e2
    clear m0 m1 m2 c h2 h hq
    generalize Wm.magOf r = m at *
    cases n
    all_goals
      go_enter Tryd.func31, Tryd.ntmps31
      go_wp2_with fail
      clear hq2 hz e1 e2 e3 hfb
      go_loop [5, 7] (fun a b => ∃ (x : Nat) (e : Int), a = .int .u64 x ∧ b = .int .i64 e ∧ Hid (OddSt r x e)) (fun a _ => (intOf a).toNat)
      case atStart => exact ⟨m, _, rfl, rfl, HS0⟩
      case round =>
        clear HS0
        obtain ⟨x, e, rfl, rfl, HS⟩ := hrel
        have hbx := oddSt_bounds HS.out HF.out
        have hx0 := HS.out.1
        have hx1 := HS.out.2.1
        have htz := HS.out.2.2.2
        have he : -2000 ≤ e := by have := Wm.tz_lt hx0 (show x < 2 ^ 53 from hx1); omega
        clear htz
        by_cases hx : x % 2 = 0
        · have h0 : ((x : Int) % 2 == 0) = true := by rw [beq_iff_eq]; omega
          have HN := Lib.hid (oddSt_next HS.out hx)
          clear HS hx
          go_wp2_with fail
          go_round
          case rel => exact ⟨x / 2, e + 1, by go_num, rfl, HN⟩
          case measure => simp [intOf]; omega
        · have h0 : ((x : Int) % 2 == 0) = false := by rw [beq_eq_false_iff_ne]; omega
          have HE := Lib.hid (oddSt_end HS.out (by omega))
          clear HS hx
          go_wp2_with fail
          have hl1 := Lib.nDigits_le20 x (by omega)
          rw [← Lib.decDigits_length] at hl1
          have hl2 := Lib.itoa_length_le e (by omega) (by omega)
          refine (decimalW_any x (by omega) _).mono ?_
          rintro _ w1 ⟨rfl, hb1⟩
          have HB1 := Lib.hid hb1
          clear hb1
          go_wp2_with fail
          refine (word_any e (by omega) (by omega) _).mono ?_
          rintro _ w2 ⟨rfl, hb2⟩
          have HB2 := Lib.hid (HB1.out.trans (hb2.mono HB1.out.size))
          clear hb2
          go_wp2_with fail
          go_ret
          refine ⟨?_, HB2.out⟩
          rw [HV.out, ← HE.out.1, ← HE.out.2]
          refine congrArg (fun x => Ending.returned (Value.string x)) ?_
          first | exact cat4 false _ _ | exact cat4 true _ _
end Go.Proofs.YtaghhdgiegcimaaDoor
