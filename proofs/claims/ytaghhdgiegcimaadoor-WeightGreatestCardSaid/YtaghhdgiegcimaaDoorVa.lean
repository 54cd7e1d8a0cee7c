/- The leaves of the versions' functions: which byte is a digit, a letter, another; how a byte of a run stands. -/
import Derived.Test.YtaghhdgiegcimaaDoorRows
import Derived.Test.YtaghhdgiegcimaaDoorVm
import Derived.WalkKit
import Derived.Lib.Hide
import Derived.WalkSpells
import Derived.WalkLawsBesides
namespace Go.Proofs.YtaghhdgiegcimaaDoor
open Go.RowKit

theorem beq46 (c : UInt8) : ((c.toNat : Int) == 46) = (c.toNat == 46) := by rw [Bool.eq_iff_iff]; simp; omega
theorem beq43 (c : UInt8) : ((c.toNat : Int) == 43) = (c.toNat == 43) := by rw [Bool.eq_iff_iff]; simp; omega
theorem beq126 (c : UInt8) : ((c.toNat : Int) == 126) = (c.toNat == 126) := by rw [Bool.eq_iff_iff]; simp; omega
theorem byte_lt (c : UInt8) : (c.toNat : Int) < 256 := by have := c.toNat_lt; omega


set_option maxHeartbeats 400000 in
theorem isDigit_any (c : UInt8) (w : World) :
    Calls Tryd.prog 96 #[.int .u8 c.toNat] w fun e w' => e = .returned (.bool (Vm.dig c)) ∧ w = w' := by
  unfold Vm.dig
  by_cases h1 : 48 ≤ c.toNat <;> by_cases h2 : c.toNat ≤ 57
  all_goals
    go_enter Tryd.func96, Tryd.ntmps96
    go_wp2
  all_goals
    go_ret
    exact ⟨by first | (simp [h1, h2]; done) | (simp [h1, h2]; omega), rfl⟩
set_option maxHeartbeats 400000 in
theorem refDigit_any (c : UInt8) (w : World) :
    Calls Tryd.prog 78 #[.int .u8 c.toNat] w fun e w' => e = .returned (.bool (Vm.dig c)) ∧ w = w' := by
  unfold Vm.dig
  by_cases h1 : 48 ≤ c.toNat <;> by_cases h2 : c.toNat ≤ 57
  all_goals
    go_enter Tryd.func78, Tryd.ntmps78
    go_wp2
  all_goals
    go_ret
    exact ⟨by first | (simp [h1, h2]; done) | (simp [h1, h2]; omega), rfl⟩
set_option maxHeartbeats 400000 in
theorem isLetter_any (c : UInt8) (w : World) :
    Calls Tryd.prog 120 #[.int .u8 c.toNat] w fun e w' => e = .returned (.bool (Vm.ltr c)) ∧ w = w' := by
  unfold Vm.ltr
  by_cases h1 : 97 ≤ c.toNat <;> by_cases h2 : c.toNat ≤ 122 <;> by_cases h3 : 65 ≤ c.toNat <;> by_cases h4 : c.toNat ≤ 90
  all_goals
    go_enter Tryd.func120, Tryd.ntmps120
    go_wp2
  all_goals
    go_ret
    exact ⟨by first | (simp [h1, h2, h3, h4]; done) | (simp [h1, h2, h3, h4]; omega), rfl⟩
set_option maxHeartbeats 400000 in
theorem refLetter_any (c : UInt8) (w : World) :
    Calls Tryd.prog 101 #[.int .u8 c.toNat] w fun e w' => e = .returned (.bool (Vm.ltr c)) ∧ w = w' := by
  unfold Vm.ltr
  by_cases h1 : 97 ≤ c.toNat <;> by_cases h2 : c.toNat ≤ 122 <;> by_cases h3 : 65 ≤ c.toNat <;> by_cases h4 : c.toNat ≤ 90
  all_goals
    go_enter Tryd.func101, Tryd.ntmps101
    go_wp2
  all_goals
    go_ret
    exact ⟨by first | (simp [h1, h2, h3, h4]; done) | (simp [h1, h2, h3, h4]; omega), rfl⟩
set_option maxHeartbeats 400000 in
theorem isOther_any (c : UInt8) (w : World) :
    Calls Tryd.prog 97 #[.int .u8 c.toNat] w fun e w' => e = .returned (.bool (Vm.oth c)) ∧ w = w' := by
  go_enter Tryd.func97, Tryd.ntmps97
  go_wp2_with fail
  refine (isLetter_any c _).mono ?_
  rintro e w' ⟨rfl, rfl⟩
  cases hl : Vm.ltr c
  all_goals
    have HL := Lib.hid hl
    clear hl
    go_wp2
  all_goals
    go_ret
    refine ⟨?_, rfl⟩
    have hl := HL.out
    clear HL
    unfold Vm.oth
    rw [hl]
    first | (simp [beq46, beq43, beq126]; done) | (simp [beq46, beq43, beq126]; omega) | (simp [beq46, beq43, beq126, Bool.or_assoc]; done)
theorem wrap_byte (c : UInt8) : wrap64 (c.toNat : Int) = c.toNat := IntWalk.wrap64_in _ ⟨by omega, by have := byte_lt c; omega⟩
theorem wrap_256 (c : UInt8) : wrap64 (256 + (c.toNat : Int)) = 256 + c.toNat := IntWalk.wrap64_in _ ⟨by omega, by have := byte_lt c; omega⟩
theorem mark_end (l : List UInt8) (i : Nat) (h : l.length ≤ i) : Vm.mark l i = 0 := by simp [Vm.mark, h]
theorem mark_at (l : List UInt8) (i : Nat) (h : i < l.length) : Vm.mark l i = Vm.markB l[i] := by
  unfold Vm.mark Vm.markB
  rw [if_neg (by omega)]
  simp [h]
/-- The byte at i, under a name of its own: the walk writes the name. -/
theorem byte_at (l : List UInt8) (i : Nat) (h : i < l.length) : ∃ c, ({ data := l.toArray } : ByteArray)[i]'(by rw [ByteArray.size_mk']; simpa using h) = c ∧ l[i] = c := ⟨l[i], rfl, rfl⟩
set_option maxHeartbeats 400000 in
theorem rank_any (l : List UInt8) (i : Nat) (w : World) :
    Calls Tryd.prog 131 #[.string ⟨l.toArray⟩, .int .i64 i] w fun e w' => e = .returned (.int .i64 (Vm.mark l i)) ∧ w = w' := by
  by_cases h : i < l.length
  · obtain ⟨c, hc, hc'⟩ := byte_at l i h
    have H := Lib.hid (mark_at l i h)
    rw [hc'] at H
    clear hc'
    by_cases h1 : c.toNat = 126
    · have h2 : ((c.toNat : Int) == 126) = true := by simp [h1]
      have H1 := Lib.hid h1
      clear h1
      go_enter Tryd.func131, Tryd.ntmps131
      go_wp2_with fail
      go_ret
      exact ⟨by rw [H.out]; simp [Vm.markB, H1.out], rfl⟩
    · have h2 : ((c.toNat : Int) == 126) = false := by simp; omega
      go_enter Tryd.func131, Tryd.ntmps131
      go_wp2_with fail
      refine (isLetter_any c _).mono ?_
      rintro e w' ⟨rfl, rfl⟩
      cases hl : Vm.ltr c
      all_goals
        have HL := Lib.hid hl
        clear hl
        go_wp2
      all_goals
        go_ret
        exact ⟨by rw [H.out]; simp [Vm.markB, HL.out, h1, wrap_byte, wrap_256], rfl⟩
  · have H := Lib.hid (mark_end l i (by omega))
    go_enter Tryd.func131, Tryd.ntmps131
    go_wp2_with fail
    go_ret
    exact ⟨by rw [H.out]; rfl, rfl⟩
end Go.Proofs.YtaghhdgiegcimaaDoor
