/- The reference's order of floats. -/
import Derived.Test.YtaghhdgiegcimaaDoorWb
namespace Go.Proofs.YtaghhdgiegcimaaDoor
open Go.RowKit

def keyN (b : Nat) : Int := if Wm.nan b then (if Wm.neg b then -3 else 3) else if Wm.sk b < 0 then -2 else if 0 < Wm.sk b then 2 else if Wm.neg b then -1 else 1
/-- The order of two floats, by their places. -/
def cmpW (a b : Nat) : Int := Vm.sgn (Wm.placeN a) (Wm.placeN b)
def refCmpW (a b : Nat) : Int := if keyN a ≠ keyN b then Vm.sgn (keyN a) (keyN b) else if Wm.nan a || Wm.nan b then 0 else Vm.sgn (Wm.sk a) (Wm.sk b)
theorem parts_of (b : Nat) (hb : b < Wm.W) : (Wm.neg b = false ∧ Wm.rung b = b ∧ b < 9223372036854775808) ∨ (Wm.neg b = true ∧ b = 9223372036854775808 + Wm.rung b ∧ Wm.rung b < 9223372036854775808) := by
  unfold Wm.neg Wm.rung Wm.W at *
  by_cases h : 9223372036854775808 ≤ b
  · right; exact ⟨decide_eq_true h, by omega, by omega⟩
  · left; exact ⟨decide_eq_false h, by omega, by omega⟩
theorem sgn_eq (a b : Int) : (a < b ∧ Vm.sgn a b = -1) ∨ (b < a ∧ Vm.sgn a b = 1) ∨ (a = b ∧ Vm.sgn a b = 0) := by
  unfold Vm.sgn
  by_cases h1 : a < b
  · left; exact ⟨h1, by rw [if_pos h1]⟩
  · by_cases h2 : b < a
    · right; left; exact ⟨h2, by rw [if_neg h1, if_pos h2]⟩
    · right; right; exact ⟨by omega, by rw [if_neg h1, if_neg h2]⟩
/-- A float's class and place. -/
theorem class_of (b : Nat) (hb : b < Wm.W) :
    (Wm.nan b = true ∧ keyN b = -3 ∧ Wm.placeN b = 0) ∨ (Wm.nan b = true ∧ keyN b = 3 ∧ Wm.placeN b = 18446744073709551615) ∨
    (Wm.nan b = false ∧ (Wm.placeN b : Int) = (if Wm.neg b then 9223372036854775807 else 9223372036854775808) + Wm.sk b ∧ Wm.sk b ≤ 9218868437227405312 ∧ -9218868437227405312 ≤ Wm.sk b ∧ (Wm.neg b = true → Wm.sk b ≤ 0) ∧ (Wm.neg b = false → 0 ≤ Wm.sk b) ∧
      ((Wm.sk b < 0 ∧ keyN b = -2) ∨ (0 < Wm.sk b ∧ keyN b = 2) ∨ (Wm.sk b = 0 ∧ Wm.neg b = true ∧ keyN b = -1) ∨ (Wm.sk b = 0 ∧ Wm.neg b = false ∧ keyN b = 1))) := by
  have hr : Wm.nan b = false → Wm.rung b ≤ 9218868437227405312 := fun h => by unfold Wm.nan at h; simpa using h
  cases hn : Wm.nan b
  · have hr := hr hn
    right; right
    refine ⟨rfl, ?_⟩
    have hk : keyN b = (if Wm.sk b < 0 then -2 else if 0 < Wm.sk b then 2 else if Wm.neg b then -1 else 1) := by unfold keyN; rw [hn]; rfl
    have hk' : (Wm.sk b < 0 ∧ keyN b = -2) ∨ (0 < Wm.sk b ∧ keyN b = 2) ∨ (Wm.sk b = 0 ∧ Wm.neg b = true ∧ keyN b = -1) ∨ (Wm.sk b = 0 ∧ Wm.neg b = false ∧ keyN b = 1) := by
      rw [hk]
      by_cases c1 : Wm.sk b < 0
      · left; exact ⟨c1, by rw [if_pos c1]⟩
      · by_cases c2 : 0 < Wm.sk b
        · right; left; exact ⟨c2, by rw [if_neg c1, if_pos c2]⟩
        · right; right
          cases Wm.neg b
          · right; exact ⟨by omega, rfl, by rw [if_neg c1, if_neg c2]; rfl⟩
          · left; exact ⟨by omega, rfl, by rw [if_neg c1, if_neg c2]; rfl⟩
    refine ⟨?_, ?_, ?_, ?_, ?_, hk'⟩
    all_goals clear hk hk'
    all_goals unfold Wm.sk
    all_goals try unfold Wm.placeN
    all_goals try rw [hn]
    all_goals
      rcases parts_of b hb with ⟨h1, h2, h3⟩ | ⟨h1, h2, h3⟩
      · rw [h1]
        try rw [h2]
        rw [h2] at hr
        simp only [Bool.false_eq_true, if_false, false_implies, forall_const]
        try omega
      · rw [h1]
        simp only [Bool.true_eq_false, Bool.false_eq_true, if_false, if_true, false_implies, forall_const]
        try omega
  · unfold keyN Wm.placeN
    rw [hn]
    cases Wm.neg b
    · right; left; exact ⟨rfl, rfl, rfl⟩
    · left; exact ⟨rfl, rfl, rfl⟩
theorem refCmpW_eq (a b : Nat) (ha : a < Wm.W) (hb : b < Wm.W) : refCmpW a b = cmpW a b := by
  have s1 := sgn_eq (keyN a) (keyN b)
  have s2 := sgn_eq (Wm.sk a) (Wm.sk b)
  have s3 := sgn_eq (Wm.placeN a) (Wm.placeN b)
  have ca := class_of a ha
  have cb := class_of b hb
  unfold refCmpW cmpW
  generalize Vm.sgn (keyN a) (keyN b) = x at *
  generalize Vm.sgn (Wm.sk a) (Wm.sk b) = y at *
  generalize Vm.sgn (Wm.placeN a) (Wm.placeN b) = z at *
  generalize keyN a = ka at *
  generalize keyN b = kb at *
  generalize Wm.placeN a = pa at *
  generalize Wm.placeN b = pb at *
  generalize Wm.sk a = sa at *
  generalize Wm.sk b = sb at *
  generalize Wm.nan a = na at *
  generalize Wm.nan b = nb at *
  generalize Wm.neg a = ga at *
  generalize Wm.neg b = gb at *
  have hg : (if ka ≠ kb then x else if na || nb then 0 else y) = (if ka = kb then (if na || nb then 0 else y) else x) := by
    by_cases hk : ka = kb
    · rw [if_pos hk, if_neg (fun h => h hk)]
    · rw [if_neg hk, if_pos hk]
  rw [hg]
  clear hg
  by_cases hk : ka = kb
  · rw [if_pos hk]
    cases na <;> cases nb <;> cases ga <;> cases gb <;> simp only [Bool.false_eq_true, Bool.true_eq_false, Bool.or_true, Bool.or_false, if_false, if_true, false_and, true_and, and_false, or_false, false_or, false_implies, forall_const] at * <;> omega
  · rw [if_neg hk]
    cases na <;> cases nb <;> cases ga <;> cases gb <;> simp only [Bool.false_eq_true, Bool.true_eq_false, Bool.or_true, Bool.or_false, if_false, if_true, false_and, true_and, and_false, or_false, false_or, false_implies, forall_const] at * <;> omega
end Go.Proofs.YtaghhdgiegcimaaDoor
