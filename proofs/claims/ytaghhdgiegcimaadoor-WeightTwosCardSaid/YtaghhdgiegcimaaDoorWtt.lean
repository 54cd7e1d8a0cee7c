/- WeightTwos: the law. -/
import Derived.Test.YtaghhdgiegcimaaDoorWtw
namespace Go.Proofs.YtaghhdgiegcimaaDoor
open Go.RowKit

namespace Wm
/-- 0 - f of a positive number. -/
theorem sub_zero {r : Nat} (h : 0 < r) (hi : r < 9218868437227405312) : Ieee.double.sub 0 r = some (word true r) := by
  obtain ⟨a1, a2, a3⟩ := rung_word false (r := r) (by omega)
  have a1' : rung r = r := a1
  have a2' : neg r = false := a2
  have e0 : Ieee.double.read 0 = .number false 0 (-1074) := by
    have := read_number 0 (by decide) (by decide)
    exact this
  have e1 := read_number r a3 (by rw [a1']; exact hi)
  rw [a1', a2'] at e1
  unfold Ieee.Format.sub
  rw [e0, e1]
  have hmin : min (-1074 : Int) (-1074 + (upOf r : Int)) = -1074 := by omega
  have hm := magOf_pos h
  unfold Ieee.Datum.opposite Ieee.Datum.sum
  simp only [hmin, signed_eq]
  have t1 : ((-1074 : Int) - -1074).toNat = 0 := rfl
  have t2 : ((-1074 : Int) + (upOf r : Int) - -1074).toNat = upOf r := by omega
  rw [t1, t2]
  have hp : 0 < magOf r * 2 ^ upOf r := Nat.mul_pos hm (Nat.two_pow_pos _)
  have tot : (if false = true then (-1 : Int) else 1) * ((0 * 2 ^ 0 : Nat) : Int) + (if (!false) = true then (-1 : Int) else 1) * ((magOf r * 2 ^ upOf r : Nat) : Int) = -((magOf r * 2 ^ upOf r : Nat) : Int) := by simp
  rw [tot]
  generalize hM : magOf r * 2 ^ upOf r = M at *
  rw [if_neg (by omega), decide_eq_true (by omega), Int.natAbs_neg, Int.natAbs_natCast]
  show some (Ieee.double.nearest true M (-1074)) = _
  rw [← hM]
  have hu : upOf r ≤ 2045 := by unfold upOf; split <;> omega
  have hlog := log2_lt53 hm (magOf_lt r)
  rw [nearest_exact true (magOf r) (upOf r) (-1074) hm (magOf_lt r) (by omega) (by omega), rungOf_self h]
theorem log2_half {v : Nat} (h : 2 ≤ v) : v.log2 = (v / 2).log2 + 1 := by
  have h0 : 0 < v / 2 := by omega
  refine log2_eq ?_ ?_
  · have := log2_lo h0; rw [Nat.pow_succ]; omega
  · have := log2_hi (v / 2); rw [Nat.pow_succ] at *; omega
end Wm
/-- The bits counted so far, and those of v still to be counted. -/
def BitSt (n v b : Nat) : Prop := (if v = 0 then b else b + (v.log2 + 1)) = n.log2 + 1 ∧ v ≤ n
theorem bitSt_start {n : Nat} (h : 0 < n) : BitSt n n 0 := by
  refine ⟨?_, Nat.le_refl _⟩
  rw [if_neg (by omega)]; omega
theorem bitSt_next {n v b : Nat} (h : BitSt n v b) (hv : 0 < v) : BitSt n (v / 2) (b + 1) := by
  obtain ⟨h1, h2⟩ := h
  rw [if_neg (by omega)] at h1
  refine ⟨?_, by omega⟩
  by_cases c : v = 1
  · subst c; rw [if_pos (by decide)]; have : (1 : Nat).log2 = 0 := by decide
    omega
  · rw [if_neg (by omega)]
    have := Wm.log2_half (v := v) (by omega)
    omega
theorem toList_mk (l : List UInt8) : (ByteArray.mk l.toArray).toList = l := by
  rw [ByteArray.toList_eq]
set_option maxHeartbeats 4000000 in
theorem weightTwos_any (m : Nat) (e : Int) (hm : m ≤ 4294967295) (he : -32768 ≤ e ∧ e ≤ 32767) (w : World) (hk : KOk w) :
    Calls Tryd.prog 11 #[.int .u32 m, .int .i16 e] w fun e' w' => e' = .returned (.bool true) ∧ Below w.heap.size w w' := by
  have hor : bits .or .u64 (m : Int) 1 = ((m ||| 1 : Nat) : Int) := u64_or_nat m 1 (by omega) (by decide)
  have hodd : (m ||| 1) % 2 = 1 := by
    have h := Nat.or_mod_two_eq_one (a := m) (b := 1)
    exact h.2 (Or.inr rfl)
  have hle : m ||| 1 ≤ 4294967295 := by
    have := Nat.or_lt_two_pow (x := m) (y := 1) (n := 32) (by omega) (by decide)
    omega
  generalize m ||| 1 = n at *
  have hn0 : 0 < n := by omega
  have hn53 : n < 2 ^ 53 := by omega
  go_enter Tryd.func11, Tryd.ntmps11
  go_wp2_with fail
  refine (known_any w hk).mono ?_
  rintro _ w1 ⟨rfl, h1⟩
  have hk1 := kOk_below hk h1
  have HD := Lib.hid h1
  clear h1 hk
  have hcv : floatOfInt .f64 (n : Int) = Wm.word false (Wm.rungOf n 0) := by
    have := Wm.ofInt_eq (n : Int) (by omega) (by simpa using hn53)
    rw [decide_eq_false (by omega), Int.natAbs_natCast] at this
    exact this
  have hr0 := Wm.rung0 hn0 hn53
  have hrl := Wm.rungOf_lt (e := 0) hn0 hn53 (by have := Wm.log2_lt53 hn0 hn53; omega)
  have hfin : Fin (Wm.rungOf n 0) := hrl
  have hfl := Wm.ldx_lt false (r := Wm.rungOf n 0) (e := e)
  have hlog := Wm.log2_lt53 hn0 hn53
  have hE : Wm.ldE (Wm.rungOf n 0) e = (n.log2 : Int) + e := by unfold Wm.ldE; rw [hr0.1]; omega
  have hover : 1023 < (n.log2 : Int) + e → Wm.ldx false (Wm.rungOf n 0) e = 9218868437227405312 := fun h => Wm.ldx_over (by rw [hE]; exact h)
  have hex : -1074 ≤ e → (n.log2 : Int) + e ≤ 1023 → Wm.ldx false (Wm.rungOf n 0) e = Wm.word false (Wm.rungOf n e) := fun h1 h2 => Wm.ldx_exact false hn0 hn53 h1 h2
  have HO := Lib.hid hover
  have HX := Lib.hid hex
  clear hover hex hE
  go_wp2_with fail
  refine (ldexp_any false (Wm.rungOf n 0) e hfin hr0.2.2 (by omega) _).mono ?_
  rintro _ w2 ⟨g1, g2⟩; subst g2; subst g1
  clear hcv hr0 hrl hfin
  generalize Wm.ldx false (Wm.rungOf n 0) e = f at *
  go_wp2_with fail
  go_loop [7, 8] (fun b v => ∃ (x y : Nat), b = .int .i64 y ∧ v = .int .u64 x ∧ Hid (BitSt n x y)) (fun _ v => (intOf v).toNat)
  case atStart => exact ⟨n, 0, rfl, rfl, bitSt_start hn0⟩
  case round =>
    obtain ⟨x, y, rfl, rfl, HS⟩ := hrel
    have hxn := HS.out.2
    have hy : y ≤ 60 := by
      have h1 := HS.out.1
      split at h1 <;> omega
    by_cases hx : 0 < x
    · have HN := Lib.hid (bitSt_next HS.out hx)
      clear HS
      go_wp2_with fail
      go_round
      case rel => exact ⟨x / 2, y + 1, by go_num, by go_num, HN⟩
      case measure => simp [intOf]; omega
    · obtain rfl : x = 0 := by omega
      have hyv : (y : Int) = n.log2 + 1 := by have := HS.out.1; simp at this; omega
      clear HS hx hxn hor
      by_cases c1 : 1023 < (n.log2 : Int) + e
      · have hf := HO.out c1
        subst hf
        clear HO HX
        go_wp2_with fail
        refine (text_at 9218868437227405312 [105, 110, 102] _ hk1 (by decide) (by decide +kernel)).mono ?_
        rintro _ w3 ⟨g1, g2⟩; subst g1
        have HD2 := Lib.hid (HD.out.trans (g2.mono HD.out.size))
        clear g2 HD hk1
        go_wp2_with fail
        go_ret
        exact ⟨rfl, HD2.out⟩
      by_cases c2 : e < -1074
      · clear HO HX
        go_wp2_with fail
        refine (text_w f hfl _ hk1).mono ?_
        rintro _ w3 ⟨g1, g2⟩; subst g1
        have HD2 := Lib.hid (HD.out.trans (g2.mono HD.out.size))
        clear g2 HD hk1
        go_wp2_with fail
        go_ret
        exact ⟨rfl, HD2.out⟩
      have hf := HX.out (by omega) (by omega)
      clear HO HX
      have hlo : -1074 ≤ e := by omega
      have hhi : (n.log2 : Int) + e ≤ 1023 := by omega
      have hfr := Wm.rungOf_lt hn0 hn53 hhi
      have hff : Fin (Wm.rungOf n e) := hfr
      have ht := textW_prod false hodd hn53 hlo hhi
      have ht2 := textW_prod true hodd hn53 hlo hhi
      obtain ⟨p1, p2⟩ := parse_prod false hodd hn53 hlo hhi
      have hsub : ∀ W : World, (binOp .sub 39 (.float .f64 0) (.float .f64 f)).run Tryd.prog W = .ok (.float .f64 (Wm.word true (Wm.rungOf n e))) W :=
        fun W => run_float_arith W .sub _ .f64 0 f _ (by rw [hf]; exact Wm.sub_zero hfr.1 hfr.2)
      have oeq : (FloatKind.f64.format.order f f == some .eq) = true := by
        rw [Wm.ord_eq f f hfl hfl, hf, (fin_word hff false).2.1]; simp
      rw [← hf] at ht p2
      rw [show Wm.sg false n = (n : Int) from by unfold Wm.sg; simp] at ht p1 p2
      rw [show Wm.sg true n = -(n : Int) from by unfold Wm.sg; simp] at ht2
      have hlen := Lib.itoa_length_le (n : Int) (by omega) (by omega)
      have hlen2 := Lib.itoa_length_le e (by omega) (by omega)
      have hm2 := (fin_word hff true).1
      have HI : Hid (Lib.itoa (-(n : Int)) = 45 :: Lib.itoa n) := by
        show _ = _; unfold Lib.itoa
        rw [if_pos (by omega), if_neg (by omega), Int.natAbs_neg, Int.natAbs_natCast, Int.toNat_natCast]
      rw [HI.out] at ht2
      clear hf hfr hff
      generalize Wm.word true (Wm.rungOf n e) = f2 at *
      go_wp2_with fail
      refine (text_at f _ _ hk1 hfl ht).mono ?_
      rintro _ w3 ⟨g1, g2⟩; subst g1
      have HD2 := Lib.hid (HD.out.trans (g2.mono HD.out.size))
      have hk2 := kOk_below hk1 g2
      clear g2 HD hk1
      go_wp2_with fail
      refine (parse_at _ f 0 _ hk2 (by simp; omega) p2 p1).mono ?_
      rintro _ w4 ⟨g1, g2⟩; subst g1
      have HD3 := Lib.hid (HD2.out.trans (g2.mono HD2.out.size))
      have hk3 := kOk_below hk2 g2
      clear g2 HD2 hk2 p1 p2
      go_wp2_with fail
      refine (decL_any (n : Int) (by omega) (by omega) _).mono ?_
      rintro _ w5 ⟨g1, g2⟩; subst g1
      have HD4 := Lib.hid (HD3.out.trans (g2.mono HD3.out.size))
      have hk4 := kOk_below hk3 g2
      clear g2 HD3 hk3
      go_wp2_with fail
      refine (decL_any e (by omega) (by omega) _).mono ?_
      rintro _ w6 ⟨g1, g2⟩; subst g1
      have HD5 := Lib.hid (HD4.out.trans (g2.mono HD4.out.size))
      have hk5 := kOk_below hk4 g2
      clear g2 HD4 hk4
      have heq : (ByteArray.mk (Lib.itoa (n : Int)).toArray ++ ByteArray.mk #[112] ++ ByteArray.mk (Lib.itoa e).toArray).toList = Lib.itoa (n : Int) ++ 112 :: Lib.itoa e := by
        rw [show (#[112] : Array UInt8) = ([112] : List UInt8).toArray from rfl, ByteArray.mk_append_mk, ByteArray.mk_append_mk, toList_mk]
        simp
      have heq2 : (ByteArray.mk #[45] ++ ByteArray.mk (Lib.itoa (n : Int) ++ 112 :: Lib.itoa e).toArray).toList = 45 :: Lib.itoa (n : Int) ++ 112 :: Lib.itoa e := by
        rw [show (#[45] : Array UInt8) = ([45] : List UInt8).toArray from rfl, ByteArray.mk_append_mk, toList_mk]
        rfl
      go_wp2_with fail
      refine (text_at f2 _ _ hk5 hm2 ht2).mono ?_
      rintro _ w7 ⟨g1, g2⟩; subst g1
      have HD6 := Lib.hid (HD5.out.trans (g2.mono HD5.out.size))
      clear g2 HD5 hk5
      go_wp2_with fail
      go_ret
      exact ⟨by first | rfl | simp, HD6.out⟩
end Go.Proofs.YtaghhdgiegcimaaDoor
