/- Floats by their bits: what the words of a float64 stand for, in whole numbers. No program is named here. -/
import Derived.Laws.FloatArith
namespace Go.Proofs.YtaghhdgiegcimaaDoor.Wm
open Ieee

/-- The bits below the sign. -/
def rung (b : Nat) : Nat := b % 9223372036854775808
def neg (b : Nat) : Bool := decide (9223372036854775808 ≤ b)
def nan (b : Nat) : Bool := decide (9218868437227405312 < rung b)
/-- A number's place among the others (both zeros at one), infinities at the ends. -/
def sk (b : Nat) : Int := if neg b then -(rung b : Int) else (rung b : Int)
def W : Nat := 18446744073709551616

/-- What a rung stands for, in units of the least float. -/
def val (r : Nat) : Nat := if r < 4503599627370496 then r else (4503599627370496 + r % 4503599627370496) * 2 ^ (r / 4503599627370496 - 1)
def magOf (r : Nat) : Nat := if r < 4503599627370496 then r else 4503599627370496 + r % 4503599627370496
def upOf (r : Nat) : Nat := if r < 4503599627370496 then 0 else r / 4503599627370496 - 1

theorem val_eq (r : Nat) : val r = magOf r * 2 ^ upOf r := by
  unfold val magOf upOf; split <;> simp
theorem mul_pow_lt {a b i j : Nat} (h : a < 2 ^ 53) (hb : 2 ^ 52 ≤ b) (hij : i < j) : a * 2 ^ i < b * 2 ^ j := by
  have h1 : 2 ^ (i + 1) ≤ 2 ^ j := Nat.pow_le_pow_right (by omega) hij
  have h2 : 2 ^ (i + 1) = 2 * 2 ^ i := by rw [Nat.pow_succ]; omega
  have h3 : 0 < 2 ^ i := Nat.two_pow_pos i
  calc a * 2 ^ i < 2 ^ 53 * 2 ^ i := Nat.mul_lt_mul_of_pos_right h h3
    _ = 2 ^ 52 * 2 ^ (i + 1) := by rw [h2]; omega
    _ ≤ b * 2 ^ j := Nat.mul_le_mul hb h1
theorem val_lt {r s : Nat} (h : r < s) : val r < val s := by
  unfold val
  split
  · rename_i h1
    split
    · exact h
    · have : 0 < 2 ^ (s / 4503599627370496 - 1) := Nat.two_pow_pos _
      calc r < 4503599627370496 := h1
        _ ≤ 4503599627370496 + s % 4503599627370496 := by omega
        _ = (4503599627370496 + s % 4503599627370496) * 1 := by omega
        _ ≤ _ := Nat.mul_le_mul_left _ this
  · rename_i h1
    rw [if_neg (by omega)]
    by_cases hq : r / 4503599627370496 = s / 4503599627370496
    · rw [hq]
      exact Nat.mul_lt_mul_of_pos_right (by omega) (Nat.two_pow_pos _)
    · exact mul_pow_lt (by omega) (by omega) (by omega)
theorem val_le {r s : Nat} (h : r ≤ s) : val r ≤ val s := by
  rcases Nat.lt_or_eq_of_le h with h | rfl
  · exact Nat.le_of_lt (val_lt h)
  · exact Nat.le_refl _

theorem read_number (b : Nat) (hb : b < W) (h : rung b < 9218868437227405312) : double.read b = .number (neg b) (magOf (rung b)) (-1074 + (upOf (rung b) : Int)) := by
  have hn : (b / 9223372036854775808 % 2 == 1) = neg b := by
    unfold neg; unfold W at hb
    rw [Bool.eq_iff_iff]; simp; omega
  unfold Format.read
  simp only [show double.signWeight = 9223372036854775808 from rfl, show double.binade = 4503599627370496 from rfl, show double.infRung = 9218868437227405312 from rfl, show double.leastPlace = -1074 from rfl, hn, show b % 9223372036854775808 = rung b from rfl]
  unfold magOf upOf
  split
  · rfl
  · first | rfl | rw [if_pos h]
theorem read_inf (b : Nat) (hb : b < W) (h : rung b = 9218868437227405312) : double.read b = .infinity (neg b) := by
  have hn : (b / 9223372036854775808 % 2 == 1) = neg b := by
    unfold neg; unfold W at hb
    rw [Bool.eq_iff_iff]; simp; omega
  unfold Format.read
  simp only [show double.signWeight = 9223372036854775808 from rfl, show double.binade = 4503599627370496 from rfl, show double.infRung = 9218868437227405312 from rfl, show double.leastPlace = -1074 from rfl, hn, show b % 9223372036854775808 = rung b from rfl, h]
  rfl
theorem read_nan (b : Nat) (h : nan b = true) : ∃ s t, double.read b = .nan s t := by
  unfold nan at h
  have h' := of_decide_eq_true h
  refine ⟨b / 9223372036854775808 % 2 == 1, rung b - 9218868437227405312, ?_⟩
  unfold Format.read
  simp only [show double.signWeight = 9223372036854775808 from rfl, show double.binade = 4503599627370496 from rfl, show double.infRung = 9218868437227405312 from rfl, show double.leastPlace = -1074 from rfl, show b % 9223372036854775808 = rung b from rfl]
  rw [if_neg (by omega), if_neg (by omega), if_neg (by omega)]

/-- A float's value in units of the least one, infinities beyond all. -/
def sv (b : Nat) : Int := if neg b then -(val (rung b) : Int) else (val (rung b) : Int)
theorem compare_sv (x y : Nat) : compare (sv x) (sv y) = compare (sk x) (sk y) := by
  have hlt : ∀ {r s : Nat}, r < s ↔ val r < val s := fun {r s} => ⟨val_lt, fun h => Nat.lt_of_not_le fun h2 => absurd (val_le h2) (Nat.not_le_of_gt h)⟩
  have h1 := @hlt (rung x) (rung y)
  have h2 := @hlt (rung y) (rung x)
  have h0 : ∀ r, val r = 0 ↔ r = 0 := fun r => ⟨fun h => by
    rcases Nat.eq_zero_or_pos r with h3 | h3
    · exact h3
    · have := val_lt h3; rw [h] at this; simp at this, fun h => by subst h; rfl⟩
  have h3 := h0 (rung x)
  have h4 := h0 (rung y)
  simp only [compare, compareOfLessAndEq]
  unfold sv sk
  cases neg x <;> cases neg y <;> simp only [Bool.false_eq_true, if_false, if_true] <;> (congr 1 <;> first | (apply propext; omega) | (congr 1; apply propext; omega) | skip)

theorem signed_eq (n : Bool) (m up : Nat) : signed n m up = (if n then -1 else 1) * ((m * 2 ^ up : Nat) : Int) := by
  unfold signed; rw [Nat.shiftLeft_eq]; cases n <;> simp
theorem compare_scale (k : Nat) (a b : Int) : compare (a * (2 ^ k : Nat)) (b * (2 ^ k : Nat)) = compare a b := by
  have hp : (0 : Int) < ((2 ^ k : Nat) : Int) := by exact_mod_cast Nat.two_pow_pos k
  have h1 : a * (2 ^ k : Nat) < b * (2 ^ k : Nat) ↔ a < b := ⟨fun h => Int.lt_of_mul_lt_mul_right h (Int.le_of_lt hp), fun h => Int.mul_lt_mul_of_pos_right h hp⟩
  have h2 : a * (2 ^ k : Nat) = b * (2 ^ k : Nat) ↔ a = b := ⟨fun h => Int.eq_of_mul_eq_mul_right (by omega) h, fun h => by rw [h]⟩
  simp only [compare, compareOfLessAndEq, h1, h2]
theorem order_numbers (s t : Bool) (m n a c : Nat) :
    (Datum.number s m (-1074 + (a : Int))).order (.number t n (-1074 + (c : Int))) = some (compare ((if s then -1 else 1) * ((m * 2 ^ a : Nat) : Int)) ((if t then -1 else 1) * ((n * 2 ^ c : Nat) : Int))) := by
  unfold Datum.order
  simp only [signed_eq]
  congr 1
  have e1 : a = (-1074 + (a : Int) - min (-1074 + (a : Int)) (-1074 + (c : Int))).toNat + min a c := by omega
  have e2 : c = (-1074 + (c : Int) - min (-1074 + (a : Int)) (-1074 + (c : Int))).toNat + min a c := by omega
  generalize (-1074 + (a : Int) - min (-1074 + (a : Int)) (-1074 + (c : Int))).toNat = p at *
  generalize (-1074 + (c : Int) - min (-1074 + (a : Int)) (-1074 + (c : Int))).toNat = q at *
  generalize min a c = k at *
  subst e1 e2
  have hx : ∀ (x : Int) (u : Nat), x * ((u * 2 ^ k : Nat) : Int) = x * (u : Int) * ((2 ^ k : Nat) : Int) := fun x u => by rw [Int.natCast_mul, Int.mul_assoc]
  rw [Nat.pow_add, Nat.pow_add, ← Nat.mul_assoc, ← Nat.mul_assoc, hx _ (m * 2 ^ p), hx _ (n * 2 ^ q), compare_scale]
theorem sv_eq (b : Nat) : (if neg b then -1 else 1) * ((magOf (rung b) * 2 ^ upOf (rung b) : Nat) : Int) = sv b := by
  rw [← val_eq]; unfold sv; cases neg b <;> simp
theorem cmp_lt {a b : Int} (h : a < b) : compare a b = .lt := by simp only [compare, compareOfLessAndEq, if_pos h]
theorem cmp_gt {a b : Int} (h : b < a) : compare a b = .gt := by simp only [compare, compareOfLessAndEq]; rw [if_neg (by omega), if_neg (by omega)]
theorem rung_lt (b : Nat) : rung b < 9223372036854775808 := Nat.mod_lt _ (by decide)
/-- How two floats stand to each other: by their rungs, with their signs. -/
theorem order_eq (x y : Nat) (hx : x < W) (hy : y < W) : double.order x y = if nan x || nan y then none else some (compare (sk x) (sk y)) := by
  unfold Format.order
  cases hnx : nan x
  · cases hny : nan y
    · have h1 : rung x ≤ 9218868437227405312 := by unfold nan at hnx; simpa using hnx
      have h2 : rung y ≤ 9218868437227405312 := by unfold nan at hny; simpa using hny
      simp only [Bool.or_self, Bool.false_eq_true, if_false]
      rcases Nat.lt_or_eq_of_le h1 with h1 | h1
      · rw [read_number x hx h1]
        rcases Nat.lt_or_eq_of_le h2 with h2 | h2
        · rw [read_number y hy h2, order_numbers, sv_eq, sv_eq, compare_sv]
        · rw [read_inf y hy h2]
          have e : compare (sk x) (sk y) = if neg y then .gt else .lt := by
            unfold sk
            cases neg y <;> cases neg x <;> simp only [Bool.false_eq_true, if_false, if_true] <;> first | exact cmp_lt (by omega) | exact cmp_gt (by omega)
          rw [e]; rfl
      · rw [read_inf x hx h1]
        rcases Nat.lt_or_eq_of_le h2 with h2 | h2
        · rw [read_number y hy h2]
          have e : compare (sk x) (sk y) = if neg x then .lt else .gt := by
            unfold sk
            cases neg y <;> cases neg x <;> simp only [Bool.false_eq_true, if_false, if_true] <;> first | exact cmp_lt (by omega) | exact cmp_gt (by omega)
          rw [e]; rfl
        · rw [read_inf y hy h2]
          have e : compare (sk x) (sk y) = compare (neg y).toNat (neg x).toNat := by
            unfold sk; rw [h1, h2]
            cases neg y <;> cases neg x <;> decide
          rw [e]; rfl
    · obtain ⟨s, t, h⟩ := read_nan y hny
      rw [h]
      cases double.read x <;> rfl
  · obtain ⟨s, t, h⟩ := read_nan x hnx
    rw [h]
    cases double.read y <;> rfl

/-! Writing a number that the format has. -/
theorem log2_eq {k l : Nat} (h1 : 2 ^ l ≤ k) (h2 : k < 2 ^ (l + 1)) : k.log2 = l := by
  have h0 : k ≠ 0 := by have := Nat.two_pow_pos l; omega
  have a := (Nat.le_log2 h0).2 h1
  have b := (Nat.log2_lt h0).2 h2
  omega
theorem log2_lo {k : Nat} (h : 0 < k) : 2 ^ k.log2 ≤ k := (Nat.le_log2 (by omega)).1 (Nat.le_refl _)
theorem log2_hi (k : Nat) : k < 2 ^ (k.log2 + 1) := Nat.lt_log2_self
theorem log2_mul (k t : Nat) (h : 0 < k) : (k * 2 ^ t).log2 = k.log2 + t := by
  refine log2_eq ?_ ?_
  · rw [Nat.pow_add]; exact Nat.mul_le_mul_right _ (log2_lo h)
  · rw [show k.log2 + t + 1 = (k.log2 + 1) + t from by omega, Nat.pow_add]; exact Nat.mul_lt_mul_of_pos_right (log2_hi k) (Nat.two_pow_pos t)
theorem log2_lt53 {k : Nat} (h : 0 < k) (h2 : k < 2 ^ 53) : k.log2 ≤ 52 := by
  have := (Nat.log2_lt (by omega : k ≠ 0)).2 h2; omega
theorem cut_whole (neg : Bool) (n : Nat) : Toward.even.cut neg n 0 = n := by
  have h1 : n % 1 = 0 := Nat.mod_one n
  unfold Toward.cut
  simp [Nat.shiftLeft_eq, h1]
theorem cut_exact (neg : Bool) (k d : Nat) (h : 0 < k) : Toward.even.cut neg (k * 2 ^ d) d = k := by
  have hp := Nat.two_pow_pos d
  have h1 : min d ((k * 2 ^ d).log2 + 2) = d := by rw [log2_mul k d h]; omega
  have h2 : (k * 2 ^ d) / 2 ^ d = k := Nat.mul_div_cancel _ hp
  have h3 : (k * 2 ^ d) % 2 ^ d = 0 := Nat.mul_mod_left _ _
  unfold Toward.cut
  simp only [h1, Nat.shiftLeft_eq, Nat.one_mul, h2, h3]
  simp
/-- The rung of k * 2 ^ e. -/
def rungOf (k : Nat) (e : Int) : Nat :=
  if (k.log2 : Int) + e ≤ -1022 then k * 2 ^ (e + 1074).toNat else ((k.log2 : Int) + e + 1022).toNat * 4503599627370496 + k * 2 ^ (52 - k.log2)
def word (n : Bool) (r : Nat) : Nat := if n then 9223372036854775808 + r else r
theorem word_eq (n : Bool) (r : Nat) : double.word n r = word n r := rfl
theorem norm_lo {k : Nat} (h : 0 < k) (h2 : k < 2 ^ 53) : 4503599627370496 ≤ k * 2 ^ (52 - k.log2) ∧ k * 2 ^ (52 - k.log2) < 9007199254740992 := by
  have hl := log2_lt53 h h2
  have hp := Nat.two_pow_pos (52 - k.log2)
  constructor
  · calc 4503599627370496 = 2 ^ k.log2 * 2 ^ (52 - k.log2) := by rw [← Nat.pow_add, show k.log2 + (52 - k.log2) = 52 from by omega]
      _ ≤ _ := Nat.mul_le_mul_right _ (log2_lo h)
  · calc k * 2 ^ (52 - k.log2) < 2 ^ (k.log2 + 1) * 2 ^ (52 - k.log2) := Nat.mul_lt_mul_of_pos_right (log2_hi k) hp
      _ = 9007199254740992 := by rw [← Nat.pow_add, show k.log2 + 1 + (52 - k.log2) = 53 from by omega]
theorem rungOf_lt {k : Nat} {e : Int} (h : 0 < k) (h2 : k < 2 ^ 53) (hi : (k.log2 : Int) + e ≤ 1023) : 0 < rungOf k e ∧ rungOf k e < 9218868437227405312 := by
  have hl := log2_lt53 h h2
  have hn := norm_lo h h2
  unfold rungOf
  split
  · have hp := Nat.two_pow_pos (e + 1074).toNat
    refine ⟨Nat.mul_pos h hp, ?_⟩
    have : k * 2 ^ (e + 1074).toNat < 2 ^ (k.log2 + 1) * 2 ^ (e + 1074).toNat := Nat.mul_lt_mul_of_pos_right (log2_hi k) hp
    rw [← Nat.pow_add] at this
    have h3 : 2 ^ (k.log2 + 1 + (e + 1074).toNat) ≤ 2 ^ 53 := Nat.pow_le_pow_right (by omega) (by omega)
    omega
  · omega
theorem nearest_exact (n : Bool) (k t : Nat) (p : Int) (h : 0 < k) (h2 : k < 2 ^ 53) (lo : -1074 ≤ p + t) (hi : (k.log2 : Int) + (p + t) ≤ 1023) :
    double.nearest n (k * 2 ^ t) p = word n (rungOf k (p + t)) := by
  have hl := log2_lt53 h h2
  have hr := (rungOf_lt h h2 hi).2
  have h0 : k * 2 ^ t ≠ 0 := by have := Nat.mul_pos h (Nat.two_pow_pos t); omega
  unfold Format.nearest
  rw [if_neg h0]
  simp only [show double.fractionBits = 52 from rfl, show double.leastPlace = -1074 from rfl, show double.binade = 4503599627370496 from rfl, show double.infRung = 9218868437227405312 from rfl, log2_mul k t h, word_eq]
  congr 1
  unfold rungOf at hr ⊢
  by_cases c : (k.log2 : Int) + (p + t) ≤ -1022
  · rw [if_pos c] at hr ⊢
    have hm : max (p + ((k.log2 + t : Nat) : Int) - (52 : Nat)) (-1074) = -1074 := by omega
    rw [hm]
    have e : Toward.even.cut n ((k * 2 ^ t) <<< (p - -1074).toNat) (-1074 - p).toNat = k * 2 ^ (p + t + 1074).toNat := by
      rw [Nat.shiftLeft_eq]
      by_cases hp : -1074 ≤ p
      · rw [show (-1074 - p).toNat = 0 from by omega, cut_whole, Nat.mul_assoc, ← Nat.pow_add, show t + (p - -1074).toNat = (p + t + 1074).toNat from by omega]
      · rw [show (p - -1074).toNat = 0 from by omega, Nat.pow_zero, Nat.mul_one, show t = (p + t + 1074).toNat + (-1074 - p).toNat from by omega, Nat.pow_add, ← Nat.mul_assoc, cut_exact _ _ _ (Nat.mul_pos h (Nat.two_pow_pos _))]
        congr 2; omega
    rw [e]
    have : ((-1074 : Int) - -1074).toNat * 4503599627370496 + k * 2 ^ (p + t + 1074).toNat = k * 2 ^ (p + t + 1074).toNat := by simp
    rw [this]; omega
  · rw [if_neg c] at hr ⊢
    have hm : max (p + ((k.log2 + t : Nat) : Int) - (52 : Nat)) (-1074) = p + ((k.log2 + t : Nat) : Int) - 52 := by omega
    rw [hm]
    have e : Toward.even.cut n ((k * 2 ^ t) <<< (p - (p + ((k.log2 + t : Nat) : Int) - 52)).toNat) (p + ((k.log2 + t : Nat) : Int) - 52 - p).toNat = k * 2 ^ (52 - k.log2) := by
      rw [Nat.shiftLeft_eq]
      by_cases hp : k.log2 + t ≤ 52
      · rw [show (p + ((k.log2 + t : Nat) : Int) - 52 - p).toNat = 0 from by omega, cut_whole, Nat.mul_assoc, ← Nat.pow_add, show t + (p - (p + ((k.log2 + t : Nat) : Int) - 52)).toNat = 52 - k.log2 from by omega]
      · rw [show (p - (p + ((k.log2 + t : Nat) : Int) - 52)).toNat = 0 from by omega, Nat.pow_zero, Nat.mul_one]
        have ed : (p + ((k.log2 + t : Nat) : Int) - 52 - p).toNat = k.log2 + t - 52 := by omega
        rw [ed]
        have et : k * 2 ^ t = k * 2 ^ (52 - k.log2) * 2 ^ (k.log2 + t - 52) := by rw [Nat.mul_assoc, ← Nat.pow_add]; congr 2; omega
        rw [et, cut_exact _ _ _ (Nat.mul_pos h (Nat.two_pow_pos _))]
    rw [e, show (p + ((k.log2 + t : Nat) : Int) - 52 - -1074).toNat = ((k.log2 : Int) + (p + t) + 1022).toNat from by omega]
    omega
/-- An integer of at most 53 bits as a float. -/
theorem ofInt_eq (n : Int) (h : n ≠ 0) (h2 : n.natAbs < 2 ^ 53) : FloatKind.f64.nearest n = word (decide (n < 0)) (rungOf n.natAbs 0) := by
  have hk : 0 < n.natAbs := by omega
  have hl := log2_lt53 hk h2
  have := nearest_exact (decide (n < 0)) n.natAbs 0 0 hk h2 (by simp) (by simp; omega)
  simp at this
  exact this
theorem rung_word (n : Bool) {r : Nat} (h : r < 9223372036854775808) : rung (word n r) = r ∧ neg (word n r) = n ∧ word n r < W := by
  unfold rung neg word W
  cases n <;> simp <;> omega
/-- Above the least binade: the digits and the exponent. -/
theorem mag_norm {r : Nat} (h : 4503599627370496 ≤ r) : magOf r = 4503599627370496 + r % 4503599627370496 ∧ upOf r = r / 4503599627370496 - 1 := by
  unfold magOf upOf; rw [if_neg (by omega), if_neg (by omega)]; exact ⟨rfl, rfl⟩
/-- A float times a power of two that the format has. -/
theorem mul_word (n m : Bool) (r s : Nat) (hr : r < 9218868437227405312) (hs : s < 9218868437227405312) :
    double.mul (word n r) (word m s) = some (double.nearest (n ^^ m) (magOf r * magOf s) (-1074 + (upOf r : Int) + (-1074 + (upOf s : Int)))) := by
  obtain ⟨a1, a2, a3⟩ := rung_word n (r := r) (by omega)
  obtain ⟨b1, b2, b3⟩ := rung_word m (r := s) (by omega)
  unfold Format.mul
  rw [read_number _ a3 (by rw [a1]; exact hr), read_number _ b3 (by rw [b1]; exact hs), a1, a2, b1, b2]
  rfl

/-! Odd numbers and powers of two. -/
def tz (m : Nat) : Nat := if h : m = 0 ∨ m % 2 = 1 then 0 else tz (m / 2) + 1
termination_by m
decreasing_by omega
def od (m : Nat) : Nat := m / 2 ^ tz m
theorem tz_odd {k : Nat} (h : k % 2 = 1) : tz k = 0 := by rw [tz, dif_pos (Or.inr h)]
theorem tz_two {k : Nat} (h : 0 < k) : tz (2 * k) = tz k + 1 := by
  rw [tz, dif_neg (by omega), show 2 * k / 2 = k from by omega]
theorem tz_mul {k : Nat} (h : 0 < k) (t : Nat) : tz (k * 2 ^ t) = tz k + t := by
  induction t with
  | zero => simp
  | succ t ih => rw [Nat.pow_succ, Nat.mul_comm (2 ^ t) 2, ← Nat.mul_assoc, Nat.mul_comm k 2, Nat.mul_assoc, tz_two (Nat.mul_pos h (Nat.two_pow_pos t)), ih]; omega
theorem od_mul {k : Nat} (h : 0 < k) (t : Nat) : od (k * 2 ^ t) = od k := by
  unfold od; rw [tz_mul h, Nat.pow_add, Nat.mul_div_mul_right _ _ (Nat.two_pow_pos t)]
theorem od_odd {k : Nat} (h : k % 2 = 1) : od k = k := by unfold od; rw [tz_odd h]; simp
theorem od_spec : ∀ (n m : Nat), m ≤ n → 0 < m → od m % 2 = 1 ∧ m = od m * 2 ^ tz m
  | 0, m, h, h0 => by omega
  | n + 1, m, h, h0 => by
    by_cases ho : m % 2 = 1
    · rw [od_odd ho, tz_odd ho]; simp [ho]
    · obtain ⟨k, rfl⟩ : ∃ k, m = 2 * k := ⟨m / 2, by omega⟩
      have hk : 0 < k := by omega
      obtain ⟨i1, i2⟩ := od_spec n k (by omega) hk
      have e1 := od_mul hk 1
      rw [show k * 2 ^ 1 = 2 * k from by omega] at e1
      rw [e1, tz_two hk, Nat.pow_succ]
      refine ⟨i1, ?_⟩
      rw [← Nat.mul_assoc, ← i2]; omega
theorem od_pos {m : Nat} (h : 0 < m) : 0 < od m := by have := (od_spec m m (Nat.le_refl _) h).1; omega
theorem od_le (m : Nat) : od m ≤ m := Nat.div_le_self _ _

/-- The odd number and the power of two that a rung stands for. -/
def kOf (r : Nat) : Nat := od (val r)
def eOf (r : Nat) : Int := -1074 + (tz (val r) : Int)
theorem val_rungOf {k : Nat} {e : Int} (h : 0 < k) (h2 : k < 2 ^ 53) (lo : -1074 ≤ e) : val (rungOf k e) = k * 2 ^ (e + 1074).toNat := by
  have hl := log2_lt53 h h2
  have hn := norm_lo h h2
  unfold rungOf
  split
  · rename_i c
    have h3 : k * 2 ^ (e + 1074).toNat < 9007199254740992 := by
      have hp := Nat.two_pow_pos (e + 1074).toNat
      have : k * 2 ^ (e + 1074).toNat < 2 ^ (k.log2 + 1) * 2 ^ (e + 1074).toNat := Nat.mul_lt_mul_of_pos_right (log2_hi k) hp
      rw [← Nat.pow_add] at this
      have h3 : 2 ^ (k.log2 + 1 + (e + 1074).toNat) ≤ 2 ^ 53 := Nat.pow_le_pow_right (by omega) (by omega)
      omega
    generalize k * 2 ^ (e + 1074).toNat = m at *
    unfold val
    split
    · rfl
    · rw [show m / 4503599627370496 - 1 = 0 from by omega]; omega
  · rename_i c
    have e1 : k * 2 ^ (e + 1074).toNat = k * 2 ^ (52 - k.log2) * 2 ^ ((k.log2 : Int) + e + 1022).toNat := by
      rw [Nat.mul_assoc, ← Nat.pow_add]; congr 2; omega
    rw [e1]
    generalize k * 2 ^ (52 - k.log2) = K at *
    generalize ((k.log2 : Int) + e + 1022).toNat = u at *
    unfold val
    rw [if_neg (by omega), show (u * 4503599627370496 + K) / 4503599627370496 - 1 = u from by omega]
    congr 1; omega
theorem kOf_rungOf {k : Nat} {e : Int} (ho : k % 2 = 1) (h2 : k < 2 ^ 53) (lo : -1074 ≤ e) : kOf (rungOf k e) = k ∧ eOf (rungOf k e) = e := by
  have h : 0 < k := by omega
  unfold kOf eOf
  rw [val_rungOf h h2 lo, od_mul h, od_odd ho, tz_mul h, tz_odd ho]
  omega
theorem magOf_lt (r : Nat) : magOf r < 2 ^ 53 := by unfold magOf; split <;> omega
theorem magOf_pos {r : Nat} (h : 0 < r) : 0 < magOf r := by unfold magOf; split <;> omega
theorem rungOf_self {r : Nat} (h : 0 < r) : rungOf (magOf r) (-1074 + (upOf r : Int)) = r := by
  unfold rungOf magOf upOf
  by_cases c : r < 4503599627370496
  · have hl : r.log2 < 52 := (Nat.log2_lt (by omega)).2 (by omega)
    simp only [if_pos c]
    rw [if_pos (by omega)]; simp
  · simp only [if_neg c]
    have hl : (4503599627370496 + r % 4503599627370496).log2 = 52 := log2_eq (by omega) (by omega)
    rw [hl]
    split
    · rename_i c2
      rw [show (-1074 + ((r / 4503599627370496 - 1 : Nat) : Int) + 1074).toNat = r / 4503599627370496 - 1 from by omega]
      rw [show r / 4503599627370496 - 1 = 0 from by omega]; omega
    · simp only [Nat.sub_self, Nat.pow_zero, Nat.mul_one]
      omega
theorem kOf_eq {r : Nat} (h : 0 < r) : kOf r = od (magOf r) ∧ eOf r = -1074 + (upOf r : Int) + (tz (magOf r) : Int) := by
  have hm := magOf_pos h
  unfold kOf eOf
  rw [val_eq, od_mul hm, tz_mul hm]
  omega
theorem kOf_spec {r : Nat} (h : 0 < r) (hi : r < 9218868437227405312) : kOf r % 2 = 1 ∧ kOf r < 2 ^ 53 ∧ -1074 ≤ eOf r ∧ ((kOf r).log2 : Int) + eOf r ≤ 1023 ∧ rungOf (kOf r) (eOf r) = r := by
  have hm := magOf_pos h
  have hm2 := magOf_lt r
  obtain ⟨e1, e2⟩ := kOf_eq h
  obtain ⟨s1, s2⟩ := od_spec (magOf r) (magOf r) (Nat.le_refl _) hm
  have hle := od_le (magOf r)
  have hp := od_pos hm
  have hL : (magOf r).log2 = (od (magOf r)).log2 + tz (magOf r) := by rw [s2, od_mul hp, od_odd s1, tz_mul hp, tz_odd s1, log2_mul _ _ hp]; omega
  have hl := log2_lt53 hm hm2
  have self := rungOf_self h
  have hu : upOf r ≤ 2045 := by unfold upOf; split <;> omega
  rw [e1, e2]
  refine ⟨s1, by omega, by omega, ?_, ?_⟩
  · by_cases c : r < 4503599627370496
    · have : upOf r = 0 := by unfold upOf; rw [if_pos c]
      omega
    · omega
  · refine Eq.trans ?_ self
    clear self
    generalize magOf r = m at *
    generalize upOf r = u at *
    unfold rungOf
    have c : ((od m).log2 : Int) + (-1074 + (u : Int) + (tz m : Int)) = (m.log2 : Int) + (-1074 + (u : Int)) := by omega
    rw [c]
    split
    · conv => rhs; rw [s2]
      rw [Nat.mul_assoc, ← Nat.pow_add]; congr 2; omega
    · congr 1
      conv => rhs; rw [s2]
      rw [Nat.mul_assoc, ← Nat.pow_add]; congr 2
      rw [← s2]; omega

/-! What Ldexp and Frexp compute. -/
/-- A power of two by its exponent field. -/
theorem pow_field (q : Nat) (h : 1 ≤ q) : magOf (q * 4503599627370496) = 4503599627370496 ∧ upOf (q * 4503599627370496) = q - 1 := by
  unfold magOf upOf; rw [if_neg (by omega), if_neg (by omega)]; omega
theorem mul_pow (n : Bool) (q r : Nat) (h1 : 1 ≤ q) (h2 : q ≤ 2046) (h0 : 0 < r) (hr : r < 9218868437227405312)
    (lo : -1074 ≤ -1074 + (upOf r : Int) + (q - 1023)) (hi : ((magOf r).log2 : Int) + (-1074 + (upOf r : Int) + (q - 1023)) ≤ 1023) :
    double.mul (word n r) (q * 4503599627370496) = some (word n (rungOf (magOf r) (-1074 + (upOf r : Int) + (q - 1023)))) ∧
    double.mul (q * 4503599627370496) (word n r) = some (word n (rungOf (magOf r) (-1074 + (upOf r : Int) + (q - 1023)))) := by
  obtain ⟨p1, p2⟩ := pow_field q h1
  have hs : q * 4503599627370496 < 9218868437227405312 := by omega
  have e := nearest_exact n (magOf r) 52 (-1074 + (upOf r : Int) + (q - 1075)) (magOf_pos h0) (magOf_lt r) (by omega) (by omega)
  rw [show -1074 + (upOf r : Int) + (q - 1075) + ((52 : Nat) : Int) = -1074 + (upOf r : Int) + (q - 1023) from by omega] at e
  have w0 : q * 4503599627370496 = word false (q * 4503599627370496) := rfl
  constructor
  · rw [w0, mul_word n false r _ hr hs, p1, p2, Bool.xor_false, ← e, show (4503599627370496 : Nat) = 2 ^ 52 from rfl]
    congr 2; omega
  · rw [w0, mul_word false n _ r hs hr, p1, p2, Bool.false_xor, ← e, show (4503599627370496 : Nat) = 2 ^ 52 from rfl, Nat.mul_comm]
    congr 2; omega
/-- A number made normal: times 2 ^ 52 where it is below the least normal one. -/
def nrm (r : Nat) : Nat := if r < 4503599627370496 then r.log2 * 4503599627370496 + r * 2 ^ (52 - r.log2) else r
theorem nrm_lo {r : Nat} (h : 0 < r) (hi : r < 9218868437227405312) : 4503599627370496 ≤ nrm r ∧ nrm r < 9218868437227405312 := by
  unfold nrm
  split
  · have := norm_lo h (by omega)
    have hl : r.log2 < 52 := (Nat.log2_lt (by omega)).2 (by omega)
    omega
  · omega
theorem mul_nrm (n : Bool) {r : Nat} (h : 0 < r) (c : r < 4503599627370496) : double.mul (word n r) 4841369599423283200 = some (word n (nrm r)) := by
  have e := (mul_pow n 1075 r (by omega) (by omega) h (by omega) (by omega) (by
    have : (magOf r).log2 ≤ 52 := log2_lt53 (magOf_pos h) (magOf_lt r)
    have : upOf r = 0 := by unfold upOf; rw [if_pos c]
    omega)).1
  have hu : upOf r = 0 := by unfold upOf; rw [if_pos c]
  have hm : magOf r = r := by unfold magOf; rw [if_pos c]
  have hl : r.log2 < 52 := (Nat.log2_lt (by omega)).2 (by omega)
  rw [hu, hm] at e
  rw [show (1075 : Nat) * 4503599627370496 = 4841369599423283200 from rfl] at e
  rw [e]
  congr 2
  unfold rungOf nrm
  rw [if_pos c]
  split
  · rename_i c2
    have h1 : r = 1 := by
      have := log2_hi r
      rw [show r.log2 = 0 from by omega] at this; omega
    subst h1; decide
  · congr 2; omega
theorem mul_one (n : Bool) {r : Nat} (h : 4503599627370496 ≤ r) (hi : r < 9218868437227405312) : double.mul 4607182418800017408 (word n r) = some (word n r) := by
  have hu : upOf r ≤ 2045 := by unfold upOf; split <;> omega
  have e := (mul_pow n 1023 r (by omega) (by omega) (by omega) hi (by omega) (by
    have : (magOf r).log2 ≤ 52 := log2_lt53 (magOf_pos (by omega)) (magOf_lt r)
    omega)).2
  rw [show (1023 : Nat) * 4503599627370496 = 4607182418800017408 from rfl] at e
  rw [e, show -1074 + (upOf r : Int) + (((1023 : Nat) : Int) - 1023) = -1074 + (upOf r : Int) from by omega, rungOf_self (by omega)]
/-- Below the least normal number: rounded. -/
def deno (n : Bool) (r : Nat) : Nat := double.nearest n (4503599627370496 * magOf r) (-105 + (-1074 + (upOf r : Int)))
theorem mul_deno (n : Bool) {r : Nat} (hi : r < 9218868437227405312) : double.mul 4368491638549381120 (word n r) = some (deno n r) ∧ deno n r < W := by
  have w0 : (4368491638549381120 : Nat) = word false 4368491638549381120 := rfl
  constructor
  · rw [w0, mul_word false n _ r (by decide) hi, Bool.false_xor]
    rfl
  · exact double.nearest_lt n _ _
/-- Ldexp of a normal number. -/
def ldE (r : Nat) (e : Int) : Int := (r / 4503599627370496 : Nat) - 1023 + e
def ldx (n : Bool) (r : Nat) (e : Int) : Nat :=
  if ldE r e < -1075 then word n 0 else if 1023 < ldE r e then word n 9218868437227405312
  else if ldE r e < -1022 then deno n ((ldE r e + 1076).toNat * 4503599627370496 + r % 4503599627370496)
  else word n ((ldE r e + 1023).toNat * 4503599627370496 + r % 4503599627370496)
theorem ldx_lt (n : Bool) {r : Nat} {e : Int} : ldx n r e < W := by
  unfold ldx
  split
  · cases n <;> decide
  · split
    · cases n <;> decide
    · split
      · exact double.nearest_lt n _ _
      · exact (rung_word n (by omega)).2.2
theorem ldx_over {n : Bool} {r : Nat} {e : Int} (h : 1023 < ldE r e) : ldx n r e = word n 9218868437227405312 := by
  unfold ldx; rw [if_neg (by omega), if_pos h]
theorem rung0 {k : Nat} (h : 0 < k) (h2 : k < 2 ^ 53) : rungOf k 0 / 4503599627370496 = k.log2 + 1023 ∧ rungOf k 0 % 4503599627370496 = k * 2 ^ (52 - k.log2) - 4503599627370496 ∧ 4503599627370496 ≤ rungOf k 0 := by
  have hn := norm_lo h h2
  unfold rungOf
  rw [if_neg (by omega)]
  omega
theorem ldx_exact (n : Bool) {k : Nat} {e : Int} (h : 0 < k) (h2 : k < 2 ^ 53) (lo : -1074 ≤ e) (hi : (k.log2 : Int) + e ≤ 1023) : ldx n (rungOf k 0) e = word n (rungOf k e) := by
  obtain ⟨r1, r2, r3⟩ := rung0 h h2
  have hl := log2_lt53 h h2
  have hn := norm_lo h h2
  unfold ldx ldE
  rw [r1, r2]
  rw [if_neg (by omega), if_neg (by omega)]
  split
  · rename_i c
    have e1 : (((k.log2 + 1023 : Nat) : Int) - 1023 + e + 1076).toNat * 4503599627370496 + (k * 2 ^ (52 - k.log2) - 4503599627370496) ≥ 4503599627370496 := by omega
    unfold deno
    rw [(mag_norm e1).1, (mag_norm e1).2]
    have e2 : 4503599627370496 + ((((k.log2 + 1023 : Nat) : Int) - 1023 + e + 1076).toNat * 4503599627370496 + (k * 2 ^ (52 - k.log2) - 4503599627370496)) % 4503599627370496 = k * 2 ^ (52 - k.log2) := by omega
    have e3 : ((((k.log2 + 1023 : Nat) : Int) - 1023 + e + 1076).toNat * 4503599627370496 + (k * 2 ^ (52 - k.log2) - 4503599627370496)) / 4503599627370496 - 1 = ((k.log2 : Int) + e + 1075).toNat := by omega
    rw [e2, e3]
    have e4 : 4503599627370496 * (k * 2 ^ (52 - k.log2)) = k * 2 ^ (104 - k.log2) := by
      rw [show (4503599627370496 : Nat) = 2 ^ 52 from rfl, Nat.mul_comm, Nat.mul_assoc, ← Nat.pow_add, show 52 - k.log2 + 52 = 104 - k.log2 from by omega]
    rw [e4, nearest_exact n k (104 - k.log2) _ h h2 (by omega) (by omega)]
    exact congrArg (fun x => word n (rungOf k x)) (by omega)
  · rename_i c
    refine congrArg (word n) ?_
    unfold rungOf
    split
    · rename_i c2
      rw [show (e + 1074).toNat = 52 - k.log2 from by omega]; omega
    · omega
/-- A normal number's digits as an integer. -/
theorem ldx_53 (n : Bool) (f : Nat) (hf : f < 4503599627370496) : ldx n (4602678819172646912 + f) 53 = word n (4841369599423283200 + f) := by
  unfold ldx ldE
  rw [show (4602678819172646912 + f) / 4503599627370496 = 1022 from by omega, show (4602678819172646912 + f) % 4503599627370496 = f from by omega]
  simp
theorem toInt_word (n : Bool) (f : Nat) (hf : f < 4503599627370496) : floatToIntVal .f64 (word n (4841369599423283200 + f)) .i64 = some ((if n then -1 else 1) * ((4503599627370496 + f : Nat) : Int)) := by
  obtain ⟨a1, a2, a3⟩ := rung_word n (r := 4841369599423283200 + f) (by omega)
  unfold floatToIntVal
  have e : FloatKind.f64.decode (word n (4841369599423283200 + f)) = .number n (4503599627370496 + f) 0 := by
    show double.read _ = _
    rw [read_number _ a3 (by rw [a1]; omega), a1, a2, (mag_norm (by omega)).1, (mag_norm (by omega)).2]
    rw [show (4841369599423283200 + f) % 4503599627370496 = f from by omega, show (4841369599423283200 + f) / 4503599627370496 - 1 = 1074 from by omega]
    rfl
  rw [e]
  have e2 : (Datum.number n (4503599627370496 + f) 0).toInt .zero = some ((if n then -1 else 1) * ((4503599627370496 + f : Nat) : Int)) := by
    unfold Datum.toInt Datum.integral
    have : Toward.zero.cut n ((4503599627370496 + f) <<< (0 : Int).toNat) (-(0 : Int)).toNat = 4503599627370496 + f := by
      unfold Toward.cut
      simp [Nat.shiftLeft_eq]
    simp only [this, signed_eq]
    simp
  rw [e2]
  simp only
  rw [if_pos]
  cases n <;> simp [IntKind.min, IntKind.max, IntKind.signed, IntKind.bits] <;> omega
/-- Frexp's digits and power. -/
def fOf (r : Nat) : Nat := nrm r % 4503599627370496
def xOf (r : Nat) : Int := (nrm r / 4503599627370496 : Nat) - 1022 - (if r < 4503599627370496 then 52 else 0)
theorem fOf_lt (r : Nat) : fOf r < 4503599627370496 := Nat.mod_lt _ (by decide)
set_option maxRecDepth 20000 in
theorem fx_spec {r : Nat} (h : 0 < r) : od (4503599627370496 + fOf r) = kOf r ∧ xOf r - 53 + (tz (4503599627370496 + fOf r) : Int) = eOf r := by
  obtain ⟨e1, e2⟩ := kOf_eq h
  rw [e1, e2]
  unfold fOf xOf nrm
  by_cases c : r < 4503599627370496
  · have hn := norm_lo h (by omega)
    have hl : r.log2 < 52 := (Nat.log2_lt (by omega)).2 (by omega)
    have hu : upOf r = 0 := by unfold upOf; rw [if_pos c]
    have hm : magOf r = r := by unfold magOf; rw [if_pos c]
    simp only [if_pos c]
    rw [hu, hm]
    have e3 : 4503599627370496 + (r.log2 * 4503599627370496 + r * 2 ^ (52 - r.log2)) % 4503599627370496 = r * 2 ^ (52 - r.log2) := by omega
    rw [e3, od_mul h, tz_mul h]
    refine ⟨rfl, ?_⟩
    omega
  · simp only [if_neg c]
    obtain ⟨m1, m2⟩ := mag_norm (r := r) (by omega)
    rw [m1, m2]
    refine ⟨rfl, ?_⟩
    omega

/-! The tests of the program and of the reference on floats, in the words of their bits. -/
theorem compare_cases (a b : Int) : compare a b = if a < b then .lt else if b < a then .gt else .eq := by
  by_cases h : a < b
  · rw [if_pos h]; exact cmp_lt h
  · rw [if_neg h]
    by_cases h2 : b < a
    · rw [if_pos h2]; exact cmp_gt h2
    · rw [if_neg h2]
      obtain rfl : a = b := by omega
      simp [compare, compareOfLessAndEq]
theorem ord_ne (x y : Nat) (hx : x < W) (hy : y < W) : (FloatKind.f64.format.order x y != some .eq) = (nan x || nan y || decide (sk x ≠ sk y)) := by
  show (double.order x y != some .eq) = _
  rw [order_eq x y hx hy, compare_cases]
  cases nan x <;> cases nan y <;> simp only [Bool.or_true, Bool.or_false, Bool.true_or, Bool.false_or, if_true, Bool.false_eq_true, if_false]
  · by_cases h : sk x < sk y
    · rw [if_pos h, decide_eq_true (by omega)]; rfl
    · rw [if_neg h]
      by_cases h2 : sk y < sk x
      · rw [if_pos h2, decide_eq_true (by omega)]; rfl
      · rw [if_neg h2, decide_eq_false (by omega)]; rfl
  all_goals rfl
theorem ord_eq (x y : Nat) (hx : x < W) (hy : y < W) : (FloatKind.f64.format.order x y == some .eq) = (!nan x && !nan y && decide (sk x = sk y)) := by
  have h := ord_ne x y hx hy
  rw [bne] at h
  rw [← Bool.not_not (FloatKind.f64.format.order x y == some .eq), h]
  cases nan x <;> cases nan y <;> simp
theorem ord_lt (x y : Nat) (hx : x < W) (hy : y < W) : (FloatKind.f64.format.order x y == some .lt) = (!nan x && !nan y && decide (sk x < sk y)) := by
  show (double.order x y == some .lt) = _
  rw [order_eq x y hx hy, compare_cases]
  cases nan x <;> cases nan y <;> simp only [Bool.or_true, Bool.or_false, Bool.true_or, Bool.false_or, if_true, Bool.false_eq_true, if_false, Bool.not_false, Bool.not_true, Bool.true_and, Bool.false_and]
  · by_cases h : sk x < sk y
    · rw [if_pos h, decide_eq_true h]; rfl
    · rw [if_neg h, decide_eq_false h]
      split <;> rfl
  all_goals rfl
theorem ord_gt (x y : Nat) (hx : x < W) (hy : y < W) : (FloatKind.f64.format.order x y == some .gt) = (!nan x && !nan y && decide (sk y < sk x)) := by
  show (double.order x y == some .gt) = _
  rw [order_eq x y hx hy, compare_cases]
  cases nan x <;> cases nan y <;> simp only [Bool.or_true, Bool.or_false, Bool.true_or, Bool.false_or, if_true, Bool.false_eq_true, if_false, Bool.not_false, Bool.not_true, Bool.true_and, Bool.false_and]
  · by_cases h : sk x < sk y
    · rw [if_pos h, decide_eq_false (by omega)]; rfl
    · rw [if_neg h]
      by_cases h2 : sk y < sk x
      · rw [if_pos h2, decide_eq_true h2]; rfl
      · rw [if_neg h2, decide_eq_false h2]; rfl
  all_goals rfl
theorem ord_self (x : Nat) (hx : x < W) : (FloatKind.f64.format.order x x != some .eq) = nan x := by
  rw [ord_ne x x hx hx]; cases nan x <;> simp
end Go.Proofs.YtaghhdgiegcimaaDoor.Wm
