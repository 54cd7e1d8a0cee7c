/- The word that the reference puts together of its parts. No program is named here. -/
import Derived.Test.YtaghhdgiegcimaaDoorWc
namespace Go.Proofs.YtaghhdgiegcimaaDoor.Wm

def top (n : Bool) : Int := if n then 9223372036854775808 else 0
theorem orTop (n : Bool) (r : Nat) (h : r < 9223372036854775808) : bits .or .u64 (top n) (r : Int) = (word n r : Nat) := by
  cases n
  · have h1 := u64_or_nat 0 r (by decide) (by omega)
    rw [Nat.zero_or] at h1
    exact h1
  · have h1 := u64_or_nat 9223372036854775808 r (by decide) (by omega)
    rw [Nat.or_comm, or_sign h] at h1
    exact h1
theorem wrapU (r : Nat) (h : r < 18446744073709551616) : IntKind.u64.wrap (r : Int) = r := by rw [IntKind.wrap_u64]; omega
theorem subRung {m : Nat} {E : Int} (h : 0 < m) (h2 : m < 2 ^ 53) (hi : (m.log2 : Int) + E ≤ -1022) : (m : Int) * 2 ^ (E + 1074).toNat = ((rungOf m E : Nat) : Int) ∧ rungOf m E < 9218868437227405312 := by
  refine ⟨?_, (rungOf_lt h h2 (by omega)).2⟩
  unfold rungOf
  rw [if_pos hi, Int.natCast_mul, Int.natCast_pow]; rfl
theorem finS (n : Bool) {m : Nat} {E : Int} (h : 0 < m) (h2 : m < 2 ^ 53) (hi : (m.log2 : Int) + E ≤ -1022) : (bits .or .u64 (top n) ((m : Int) * 2 ^ (E + 1074).toNat)).toNat = word n (rungOf m E) := by
  obtain ⟨e, hl⟩ := subRung h h2 hi
  rw [e, orTop n _ (by omega)]; rfl
theorem finSw (n : Bool) {m : Nat} {E : Int} (h : 0 < m) (h2 : m < 2 ^ 53) (hi : (m.log2 : Int) + E ≤ -1022) : (bits .or .u64 (top n) (IntKind.u64.wrap ((m : Int) * 2 ^ (E + 1074).toNat))).toNat = word n (rungOf m E) := by
  obtain ⟨e, hl⟩ := subRung h h2 hi
  rw [e, wrapU _ (by omega), orTop n _ (by omega)]; rfl
theorem set_low (n : Bool) {q f : Nat} (hq : q < 2048) (hf : f < 4503599627370496) : word n (q * 4503599627370496) ||| f = word n (q * 4503599627370496 + f) := by
  have e0 := set_exp n (q := q) (f := 0) hq (by decide)
  have e1 := word_or n (r := 0) (by decide)
  have e2 := word_or n (r := f) (by omega)
  rw [Nat.or_zero] at e1
  rw [← set_exp n hq hf, e2, ← Nat.add_zero (q * 4503599627370496), ← e0, e1, Nat.or_assoc, Nat.or_comm (q * 4503599627370496) f, ← Nat.or_assoc, Nat.add_zero]
theorem finN (n : Bool) {m : Nat} {E : Int} (h : 0 < m) (h2 : m < 2 ^ 53) (lo : -1022 ≤ (m.log2 : Int) + E) (hi : (m.log2 : Int) + E ≤ 1023) :
    (bits .or .u64 (bits .or .u64 (top n) (((m.log2 : Int) + 1 + E - 1 + 1023) * 4503599627370496)) (bits .and .u64 (IntKind.u64.wrap ((m : Int) * 2 ^ (52 - m.log2))) 4503599627370495)).toNat = word n (rungOf m E) := by
  have hn := norm_lo h h2
  obtain ⟨q, hq⟩ : ∃ q : Nat, (m.log2 : Int) + E + 1023 = q := ⟨((m.log2 : Int) + E + 1023).toNat, by omega⟩
  have hK : (m : Int) * 2 ^ (52 - m.log2) = ((m * 2 ^ (52 - m.log2) : Nat) : Int) := by rw [Int.natCast_mul, Int.natCast_pow]; rfl
  have hr : rungOf m E = q * 4503599627370496 + (m * 2 ^ (52 - m.log2) - 4503599627370496) := by
    unfold rungOf
    split
    · rw [show (E + 1074).toNat = 52 - m.log2 from by have := log2_lt53 h h2; omega]; omega
    · omega
  rw [hK, hr]
  generalize m * 2 ^ (52 - m.log2) = K at *
  rw [wrapU K (by omega), show ((m.log2 : Int) + 1 + E - 1 + 1023) * 4503599627370496 = ((q * 4503599627370496 : Nat) : Int) from by omega, orTop n _ (by omega)]
  have h3 : bits .and .u64 (K : Int) 4503599627370495 = ((K % 4503599627370496 : Nat) : Int) := by
    have h1 := u64_and_nat K 4503599627370495 (by omega) (by decide)
    refine h1.trans ?_
    rw [show (4503599627370495 : Nat) = 2 ^ 52 - 1 from rfl, Nat.and_two_pow_sub_one_eq_mod]
  rw [h3, show K % 4503599627370496 = K - 4503599627370496 from by omega]
  have h4 := u64_or_nat (word n (q * 4503599627370496)) (K - 4503599627370496) (rung_word n (by omega)).2.2 (by omega)
  rw [h4, set_low n (by omega) (by omega)]; rfl
end Go.Proofs.YtaghhdgiegcimaaDoor.Wm
