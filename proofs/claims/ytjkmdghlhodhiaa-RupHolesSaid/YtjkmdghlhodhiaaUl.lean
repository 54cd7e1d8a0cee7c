/- The reference's Decimal, walked, for the texts of stanzas: a number in digits, exactly. -/
import Derived.Test.YtjkmdghlhodhiaaBa
import Derived.Laws.IdiomStrings
namespace Go.Proofs.Ytjkmdghlhodhiaa.Sz
open Go.RowKit

/-- The digit of a number below ten. -/
def dg (n : Nat) : UInt8 := UInt8.ofNat (48 + n % 10)
theorem dg_nat (n : Nat) : (dg n).toNat = 48 + n % 10 := by
  unfold dg
  rw [UInt8.toNat_ofNat']
  omega
/-- A number's digits, no more than k + 1. -/
def decF : Nat → Nat → List UInt8
  | 0, n => [dg n]
  | k + 1, n => if n < 10 then [dg n] else decF k (n / 10) ++ [dg n]
theorem decF_succ (k n : Nat) : decF (k + 1) n = if n < 10 then [dg n] else decF k (n / 10) ++ [dg n] := rfl
/-- A number in digits. -/
def decT (n : Nat) : List UInt8 := decF 20 n
/-- What Decimal's loop keeps: what is left, what is written. -/
def DcSt (n m : Nat) (d : List UInt8) : Prop := ∃ k, d.length + k = 21 ∧ m < 10 ^ k ∧ decT n = if m < 10 then d else decF (k - 1) (m / 10) ++ d
theorem dcSt_start {n : Nat} (hn : n < 10000000000000000000) : DcSt n n [dg n] :=
  ⟨20, rfl, by have : (10 : Nat) ^ 20 = 100000000000000000000 := by decide
               omega, rfl⟩
theorem dcSt_next {n m : Nat} {d : List UInt8} (h : DcSt n m d) (hm : 10 ≤ m) : DcSt n (m / 10) (dg (m / 10) :: d) ∧ d.length < 20 := by
  obtain ⟨k, hk, hp, he⟩ := h
  rw [if_neg (by omega)] at he
  match k, hk, hp, he with
  | 0, _, hp, _ => simp at hp; omega
  | 1, _, hp, _ => simp at hp; omega
  | k + 2, hk, hp, he =>
    refine ⟨⟨k + 1, by rw [List.length_cons]; omega, ?_, ?_⟩, by omega⟩
    · rw [Nat.pow_succ] at hp; omega
    · rw [he]
      show decF (k + 1) (m / 10) ++ d = if m / 10 < 10 then dg (m / 10) :: d else decF k (m / 10 / 10) ++ dg (m / 10) :: d
      rw [decF_succ]
      by_cases h : m / 10 < 10
      · rw [if_pos h, if_pos h]; rfl
      · rw [if_neg h, if_neg h, List.append_assoc]; rfl
theorem decF_all : ∀ k n, ∀ c ∈ decF k n, 48 ≤ c.toNat ∧ c.toNat ≤ 57
  | 0, n, c, h => by
    rw [List.mem_singleton.1 h, dg_nat]; omega
  | k + 1, n, c, h => by
    rw [decF_succ] at h
    split at h
    · rw [List.mem_singleton.1 h, dg_nat]; omega
    · rcases List.mem_append.1 h with h | h
      · exact decF_all k _ c h
      · rw [List.mem_singleton.1 h, dg_nat]; omega
theorem decF_len : ∀ k n, (decF k n).length ≤ k + 1
  | 0, n => Nat.le_refl _
  | k + 1, n => by
    rw [decF_succ]
    split
    · simp
    · rw [List.length_append]
      have := decF_len k (n / 10)
      simp; omega
end Go.Proofs.Ytjkmdghlhodhiaa.Sz
