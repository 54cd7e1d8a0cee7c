/- Numbers in words as the library reads and writes them, plain. -/
import Derived.Test.YtoioeekfnnoaoaaGreatDoorEc
import Derived.Lib.AtoiTie
import Derived.Lib.ItoaNum
namespace Go.Proofs.YtoioeekfnnoaoaaGreatDoor.Cl
open Sz
theorem dec_digits : ∀ (k n : Nat), n < 10 ^ (k + 1) → decF k n = Lib.decDigits n
  | 0, n, h => by
    rw [Lib.decDigits, dif_pos (by simpa using h)]
    show [dg n] = _
    unfold dg
    rw [Nat.mod_eq_of_lt (by simpa using h)]
  | k + 1, n, h => by
    rw [decF_succ, Lib.decDigits]
    by_cases h10 : n < 10
    · rw [if_pos h10, dif_pos h10]
      unfold dg
      rw [Nat.mod_eq_of_lt h10]
    · rw [if_neg h10, dif_neg h10, dec_digits k (n / 10) (by rw [Nat.pow_succ] at h; omega)]
      rfl
theorem decT_digits {n : Nat} (h : n < 1000000000000000000000) : decT n = Lib.decDigits n := dec_digits 20 n (by simpa using h)
theorem itoa_word {x : Int} (h : x.natAbs < 1000000000000000000000) : Lib.itoa x = wordZ x := by
  unfold Lib.itoa wordZ
  split
  · rw [decT_digits h]
  · rw [decT_digits h]
    congr 1; omega
theorem decFrom_all : ∀ (l : List UInt8) (acc : Nat), l.all digB = true → Lib.decFrom acc l = some (l.foldl (fun n c => 10 * n + (c.toNat - 48)) acc)
  | [], _, _ => rfl
  | c :: r, acc, h => by
    rw [List.all_cons, Bool.and_eq_true] at h
    have hd : Lib.digitVal c = some (c.toNat - 48) := by
      unfold Lib.digitVal
      have := h.1
      unfold digB at this
      simp only [Bool.and_eq_true, decide_eq_true_eq] at this
      rw [if_pos this]
    unfold Lib.decFrom
    rw [hd]
    show Lib.decFrom (acc * 10 + (c.toNat - 48)) r = _
    rw [decFrom_all r _ h.2, Nat.mul_comm acc 10]
    rfl
theorem decNat_dec {n : Nat} (h : n < 1000000000000000000000) : Lib.decNat (decT n) = some n := by
  unfold Lib.decNat
  have : (decT n).isEmpty = false := by
    cases hd : decT n with
    | nil => exact absurd hd (dec_some 20 n)
    | cons _ _ => rfl
  rw [this, if_neg (by decide), decFrom_all (decT n) 0 (dec_all 20 n)]
  exact congrArg some (num_dec 20 n (by simpa using h))
theorem atoi_word {x : Int} (h : x.natAbs < 1000000) : Lib.atoi (wordZ x) = some x := by
  have hd := decNat_dec (n := x.natAbs) (by omega)
  unfold wordZ
  split
  · show (Lib.decNat (decT x.natAbs)).map _ = _
    rw [hd]
    exact congrArg some (by show -(x.natAbs : Int) = x; omega)
  · match hc : decT x.natAbs with
    | [] => exact absurd hc (dec_some 20 _)
    | c :: r =>
      have hm : c ∈ decT x.natAbs := by rw [hc]; simp
      have h45 : (c == 45) = false := by
        rw [beq_eq_false_iff_ne]; rintro rfl; exact dec_not _ 45 (by decide) hm
      have h43 : (c == 43) = false := by
        rw [beq_eq_false_iff_ne]; rintro rfl; exact dec_not _ 43 (by decide) hm
      show (if (c == 45) = true then _ else if (c == 43) = true then _ else (Lib.decNat (c :: r)).map fun (m : Nat) => (m : Int)) = _
      rw [h45, h43, ← hc, hd]
      exact congrArg some (by show (x.natAbs : Int) = x; omega)
theorem word_len {x : Int} (h : x.natAbs < 1000000) : (wordZ x).length ≤ 7 := by
  have := dec_len 20 x.natAbs 5 (by simpa using h)
  unfold wordZ
  split
  · rw [List.length_cons]; exact Nat.succ_le_succ this
  · exact Nat.le_succ_of_le this
theorem atoiAll_word {x : Int} (h : x.natAbs < 1000000) : Lib.atoiAll (wordZ x) = .ok x := by
  rw [Lib.atoiAll_short _ (Nat.le_trans (word_len h) (by decide)), atoi_word h]
  rfl
/-- What a word tells: a number of at most six digits, written as it is written. -/
def numW (s : List UInt8) : Option Int := match Lib.atoiAll s with
  | .ok n => if Lib.itoa n = s ∧ n.natAbs < 1000000 then some n else none
  | _ => none
theorem numW_some {s : List UInt8} {n : Int} : numW s = some n ↔ wordZ n = s ∧ n.natAbs < 1000000 := by
  constructor
  · intro h
    unfold numW at h
    split at h
    · split at h
      · rename_i hc
        obtain rfl := Option.some.inj h
        exact ⟨by rw [← itoa_word (by omega)]; exact hc.1, hc.2⟩
      · cases h
    · cases h
  · rintro ⟨rfl, h⟩
    unfold numW
    rw [atoiAll_word h]
    show (if _ then _ else _) = _
    rw [if_pos ⟨itoa_word (by omega), h⟩]
theorem numW_lit {s : List UInt8} : litP s = (numW s).bind fun x => if x = 0 then none else some x := by
  cases hn : numW s with
  | none =>
    show litP s = none
    cases hl : litP s with
    | none => rfl
    | some x =>
      obtain ⟨h1, _, h3⟩ := litP_back hl
      rw [numW_some.2 ⟨h1, h3⟩] at hn; cases hn
  | some x =>
    obtain ⟨h1, h2⟩ := numW_some.1 hn
    show litP s = if x = 0 then none else some x
    by_cases h0 : x = 0
    · rw [if_pos h0]
      cases hl : litP s with
      | none => rfl
      | some y =>
        obtain ⟨g1, g2, g3⟩ := litP_back hl
        have := numW_some.2 ⟨g1, g3⟩
        rw [hn] at this
        exact absurd (Option.some.inj this).symm (by rw [h0]; exact g2)
    · rw [if_neg h0, ← h1, litP_word h0 h2]
theorem word_nat (n : Nat) : wordZ (n : Int) = decT n := by
  unfold wordZ; rw [if_neg (by omega), Int.natAbs_natCast]
theorem numW_num {s : List UInt8} : numP s = (numW s).bind fun x => if x < 0 then none else some x.toNat := by
  cases hn : numW s with
  | none =>
    show numP s = none
    cases hl : numP s with
    | none => rfl
    | some n =>
      obtain ⟨h1, h2⟩ := numP_back hl
      rw [(numW_some (s := s) (n := (n : Int))).2 ⟨by rw [word_nat]; exact h1, by omega⟩] at hn; cases hn
  | some x =>
    obtain ⟨h1, h2⟩ := numW_some.1 hn
    show numP s = if x < 0 then none else some x.toNat
    by_cases h0 : x < 0
    · rw [if_pos h0]
      cases hl : numP s with
      | none => rfl
      | some n =>
        obtain ⟨g1, g2⟩ := numP_back hl
        have := (numW_some (s := s) (n := (n : Int))).2 ⟨by rw [word_nat]; exact g1, by omega⟩
        rw [hn] at this
        have := Option.some.inj this
        omega
    · rw [if_neg h0]
      obtain ⟨n, rfl⟩ : ∃ n : Nat, x = n := ⟨x.toNat, by omega⟩
      rw [← h1, word_nat, numP_dec (by omega), Int.toNat_natCast]
theorem atoi_in64 {s : List UInt8} {n : Int} (h : Lib.atoiAll s = .ok n) : -9223372036854775808 ≤ n ∧ n ≤ 9223372036854775807 := by
  unfold Lib.atoiAll at h
  split at h
  · cases h
  · dsimp only at h
    split at h
    · cases h
    · cases h
    · split at h
      · cases h
      · split at h
        · cases h
        · rename_i h1 h2
          have := Lib.NumEnd.ok.inj h
          subst this
          split
          · rename_i h3
            have : ¬ (9223372036854775808 : Nat) < _ := fun h4 => h2 ⟨h3, h4⟩
            omega
          · rename_i h3
            have : ¬ (9223372036854775808 : Nat) ≤ _ := fun h4 => h1 ⟨h3, h4⟩
            omega
end Go.Proofs.YtoioeekfnnoaoaaGreatDoor.Cl
