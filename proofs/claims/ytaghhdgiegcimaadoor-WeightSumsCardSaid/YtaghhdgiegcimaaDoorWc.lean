/- The bits of a float's word: sign, exponent, digits. No program is named here. -/
import Derived.Test.YtaghhdgiegcimaaDoorWm
import Derived.Laws.BitsAllLaws
import Derived.Laws.BitsLemmas
namespace Go.Proofs.YtaghhdgiegcimaaDoor.Wm

theorem tb_hi {x i j : Nat} (h : x < 2 ^ i) (hj : i ≤ j) : x.testBit j = false := Nat.testBit_lt_two_pow (Nat.lt_of_lt_of_le h (Nat.pow_le_pow_right (by decide) hj))
theorem word_or (n : Bool) {r : Nat} (h : r < 9223372036854775808) : word n r = (if n then 2 ^ 63 else 0) ||| r := by
  unfold word
  cases n
  · simp
  · rw [if_pos rfl, if_pos rfl, show (9223372036854775808 : Nat) = 2 ^ 63 from rfl]
    exact Nat.two_pow_add_eq_or_of_lt (i := 63) h 1 |>.symm ▸ by simp
theorem tb_word (n : Bool) {r : Nat} (h : r < 9223372036854775808) (i : Nat) : (word n r).testBit i = if i = 63 then n else r.testBit i := by
  rw [word_or n h, Nat.testBit_or]
  by_cases hi : i = 63
  · subst hi
    rw [if_pos rfl, tb_hi (i := 63) h (Nat.le_refl _)]
    cases n
    · simp
    · rw [if_pos rfl, Nat.testBit_two_pow_self]; rfl
  · rw [if_neg hi]
    cases n
    · simp
    · rw [if_pos rfl, Nat.testBit_two_pow_of_ne (Ne.symm hi), Bool.false_or]
theorem word_of (b : Nat) (hb : b < W) : b = word (neg b) (rung b) := by
  unfold word neg rung W at *
  split
  · rename_i h; have := of_decide_eq_true h; omega
  · rename_i h; have : ¬ 9223372036854775808 ≤ b := fun hh => h (decide_eq_true hh); omega
theorem fields (p f i : Nat) (hf : f < 2 ^ 52) : (p * 4503599627370496 + f).testBit i = if i < 52 then f.testBit i else p.testBit (i - 52) := by
  rw [show p * 4503599627370496 + f = 2 ^ 52 * p + f from by omega]
  exact Nat.testBit_two_pow_mul_add p hf i
theorem and_sign (n : Bool) {r : Nat} (h : r < 9223372036854775808) : word n r &&& 9223372036854775808 = if n then 9223372036854775808 else 0 := by
  refine Nat.eq_of_testBit_eq fun i => ?_
  rw [Nat.testBit_and, tb_word n h, show (9223372036854775808 : Nat) = 2 ^ 63 from rfl]
  by_cases hi : i = 63
  · subst hi
    rw [if_pos rfl, Nat.testBit_two_pow_self]
    cases n
    · simp
    · rw [if_pos rfl, Nat.testBit_two_pow_self]; rfl
  · rw [if_neg hi, Nat.testBit_two_pow_of_ne (Ne.symm hi), Bool.and_false]
    cases n
    · simp
    · rw [if_pos rfl, Nat.testBit_two_pow_of_ne (Ne.symm hi)]
theorem andNot_sign (n : Bool) {r : Nat} (h : r < 9223372036854775808) : word n r &&& 9223372036854775807 = r := by
  rw [show (9223372036854775807 : Nat) = 2 ^ 63 - 1 from rfl, Nat.and_two_pow_sub_one_eq_mod]
  have := (rung_word n h).1
  unfold rung at this; exact this
theorem or_sign {r : Nat} (h : r < 9223372036854775808) : r ||| 9223372036854775808 = 9223372036854775808 + r := by
  have := word_or true h
  rw [if_pos rfl] at this
  rw [Nat.or_comm, show (9223372036854775808 : Nat) = 2 ^ 63 from rfl, ← this]; rfl
theorem or_max (n : Bool) {r : Nat} (h : r < 9223372036854775808) : word n r ||| 9223372036854775807 = word n 9223372036854775807 := by
  refine Nat.eq_of_testBit_eq fun i => ?_
  rw [Nat.testBit_or, tb_word n h, tb_word n (by decide), show (9223372036854775807 : Nat) = 2 ^ 63 - 1 from rfl, Nat.testBit_two_pow_sub_one]
  by_cases hi : i = 63
  · simp [hi]
  · simp only [if_neg hi]
    by_cases h2 : i < 63
    · simp [h2]
    · rw [tb_hi (i := 63) h (by omega)]; simp [h2]
theorem xor_max {b : Nat} (hb : b < W) : 18446744073709551615 ^^^ b = 18446744073709551615 - b := by
  refine Nat.eq_of_testBit_eq fun i => ?_
  rw [Nat.testBit_xor, show 18446744073709551615 - b = 2 ^ 64 - (b + 1) from by unfold W at hb; omega, Nat.testBit_two_pow_sub_succ hb, show (18446744073709551615 : Nat) = 2 ^ 64 - 1 from rfl, Nat.testBit_two_pow_sub_one]
  by_cases h2 : i < 64
  · simp [h2]
  · rw [tb_hi (i := 64) hb (by omega)]; simp [h2]
/-- The exponent field taken out, another one put in. -/
theorem clear_exp (n : Bool) {r : Nat} (h : r < 9223372036854775808) : word n r &&& 9227875636482146303 = word n (r % 4503599627370496) := by
  have hr : r = (r / 4503599627370496) * 4503599627370496 + r % 4503599627370496 := by omega
  refine Nat.eq_of_testBit_eq fun i => ?_
  rw [Nat.testBit_and, tb_word n h, tb_word n (by omega), show (9227875636482146303 : Nat) = word true (2 ^ 52 - 1) from rfl, tb_word true (by decide), Nat.testBit_two_pow_sub_one, hr, fields _ _ _ (Nat.mod_lt _ (by decide)), ← hr]
  by_cases hi : i = 63
  · simp [hi]
  · simp only [if_neg hi]
    by_cases h2 : i < 52
    · simp [h2]
    · rw [tb_hi (i := 52) (x := r % 4503599627370496) (Nat.mod_lt _ (by decide)) (by omega)]; simp [h2]
theorem set_exp (n : Bool) {q f : Nat} (hq : q < 2048) (hf : f < 4503599627370496) : word n f ||| q * 4503599627370496 = word n (q * 4503599627370496 + f) := by
  refine Nat.eq_of_testBit_eq fun i => ?_
  rw [Nat.testBit_or, tb_word n (by omega), tb_word n (by omega), fields q f i hf]
  have e := fields q 0 i (by decide)
  rw [Nat.add_zero] at e
  rw [e]
  by_cases hi : i = 63
  · subst hi
    simp only [if_true]
    rw [if_neg (by decide), tb_hi (i := 11) hq (by decide)]; simp
  · simp only [if_neg hi]
    by_cases h2 : i < 52
    · simp [h2]
    · rw [tb_hi (i := 52) hf (by omega)]; simp [h2]

/-! The same in the words of the walk. -/
theorem sgnB (b : Nat) (hb : b < W) : bits .and .u64 (b : Int) 9223372036854775808 = if neg b then 9223372036854775808 else 0 := by
  have h := u64_and_nat b 9223372036854775808 hb (by decide)
  have e := and_sign (neg b) (rung_lt b)
  rw [← word_of b hb] at e
  rw [e] at h
  refine h.trans ?_
  cases neg b <;> rfl
theorem absB (b : Nat) (hb : b < W) : bits .andNot .u64 (b : Int) 9223372036854775808 = (rung b : Int) := by
  have h := u64_andNot_nat b 9223372036854775808 hb (by decide)
  have e := andNot_sign (neg b) (rung_lt b)
  rw [← word_of b hb] at e
  refine h.trans ?_
  rw [show (18446744073709551615 - 9223372036854775808 : Nat) = 9223372036854775807 from rfl, e]
theorem maxB (b : Nat) (hb : b < W) : bits .or .u64 (b : Int) 9223372036854775807 = (word (neg b) 9223372036854775807 : Nat) := by
  have h := u64_or_nat b 9223372036854775807 hb (by decide)
  have e := or_max (neg b) (rung_lt b)
  rw [← word_of b hb] at e
  exact h.trans (by rw [e])
theorem signB (r : Nat) (h : r < 9223372036854775808) : bits .or .u64 (r : Int) 9223372036854775808 = (9223372036854775808 + r : Nat) := by
  have h1 := u64_or_nat r 9223372036854775808 (by omega) (by decide)
  exact h1.trans (by rw [or_sign h])
theorem xorB (b : Nat) (hb : b < W) : bits .xor .u64 18446744073709551615 (b : Int) = (18446744073709551615 - b : Nat) := by
  have h1 := u64_xor_nat 18446744073709551615 b (by decide) hb
  exact h1.trans (by rw [xor_max hb])
theorem clearB (n : Bool) (r : Nat) (h : r < 9223372036854775808) : bits .andNot .u64 (word n r : Nat) 9218868437227405312 = (word n (r % 4503599627370496) : Nat) := by
  have h1 := u64_andNot_nat (word n r) 9218868437227405312 (rung_word n h).2.2 (by decide)
  refine h1.trans ?_
  rw [show (18446744073709551615 - 9218868437227405312 : Nat) = 9227875636482146303 from rfl, clear_exp n h]
theorem setB (n : Bool) (q f : Nat) (hq : q < 2048) (hf : f < 4503599627370496) : bits .or .u64 (word n f : Nat) ((q * 4503599627370496 : Nat) : Int) = (word n (q * 4503599627370496 + f) : Nat) := by
  have h1 := u64_or_nat (word n f) (q * 4503599627370496) (rung_word n (by omega)).2.2 (by omega)
  exact h1.trans (by rw [set_exp n hq hf])
theorem word_div (n : Bool) {r : Nat} (h : r < 9223372036854775808) : word n r / 4503599627370496 = (if n then 2048 else 0) + r / 4503599627370496 ∧ r / 4503599627370496 < 2048 := by
  unfold word; cases n <;> simp <;> omega
theorem expB (n : Bool) (r : Nat) (h : r < 9223372036854775808) : bits .and .u64 ((word n r : Int) / 4503599627370496) 2047 = ((r / 4503599627370496 : Nat) : Int) := by
  obtain ⟨d1, d2⟩ := word_div n h
  have h1 := u64_and_nat (word n r / 4503599627370496) 2047 (by rw [d1]; cases n <;> simp <;> omega) (by decide)
  have e : ((word n r : Int) / 4503599627370496) = ((word n r / 4503599627370496 : Nat) : Int) := by omega
  rw [e]
  refine h1.trans ?_
  rw [show (2047 : Nat) = 2 ^ 11 - 1 from rfl, Nat.and_two_pow_sub_one_eq_mod, d1]
  congr 1
  cases n <;> simp <;> omega
theorem expI (n : Bool) (r : Nat) (h : r < 9223372036854775808) : bits .and .i64 ((word n r : Int) / 4503599627370496) 2047 = ((r / 4503599627370496 : Nat) : Int) := by
  obtain ⟨d1, d2⟩ := word_div n h
  have e : ((word n r : Int) / 4503599627370496) = ((word n r / 4503599627370496 : Nat) : Int) := by omega
  have hlt : word n r / 4503599627370496 < 4096 := by rw [d1]; cases n <;> simp <;> omega
  have h1 := bits_mask .i64 63 (by decide) (fun m h0 h1 => by rw [IntKind.wrap_i64]; omega) 11 (by decide) ((word n r / 4503599627370496 : Nat) : Int) (by omega) (by omega)
  rw [e]
  refine (show bits .and .i64 ((word n r / 4503599627370496 : Nat) : Int) 2047 = _ from h1).trans ?_
  rw [d1]
  cases n <;> simp <;> omega
/-- The place of a float in the row, as an unsigned number. -/
def placeN (b : Nat) : Nat := if nan b then (if neg b then 0 else 18446744073709551615) else (if neg b then 18446744073709551615 - b else 9223372036854775808 + b)
theorem neg_rung {b : Nat} (hb : b < W) (h : neg b = false) : rung b = b ∧ b < 9223372036854775808 := by
  unfold neg rung W at *
  have := of_decide_eq_false h; omega
end Go.Proofs.YtaghhdgiegcimaaDoor.Wm
