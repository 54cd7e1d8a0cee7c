/- Rows and grids that are laid by hand; the closed examples of unit propagation; the law's own of these: walked. -/
import Derived.Test.YtjkmdghlhodhiaaOk
import Derived.Test.YtjkmdghlhodhiaaEu
namespace Go.Proofs.Ytjkmdghlhodhiaa.Up
open Go.RowKit Cl
/-- The example's clauses. -/
def ex1 : List (List Int) := [[-1, 2], [-2, -1, -4], [3, 3]]
theorem ex1_der (s : List Int) (h : (1 : Int) ∈ s) : Der ex1 s 1 ∧ Der ex1 s 2 ∧ Der ex1 s 3 ∧ Der ex1 s (-4) := by
  have h1 : Der ex1 s 1 := .lit h
  have h2 : Der ex1 s 2 := .cl (c := [-1, 2]) (by simp [ex1]) (by simp) fun y hy hne => by
    have : y = -1 := by simp at hy; omega
    subst this; exact h1
  refine ⟨h1, h2, .cl (c := [3, 3]) (by simp [ex1]) (by simp) fun y hy hne => ?_, .cl (c := [-2, -1, -4]) (by simp [ex1]) (by simp) fun y hy hne => ?_⟩
  · have : y = 3 := by simpa using hy
    exact absurd this hne
  · have : y = -2 ∨ y = -1 := by simp at hy; omega
    rcases this with rfl | rfl
    · exact h2
    · exact h1
instance (n : Nat) (x : Int) : Decidable (LitOf n x) := inferInstanceAs (Decidable (_ ∧ _))
theorem ex1_lits : ∀ c ∈ ex1, ∀ x ∈ c, LitOf 4 x := fun c hc x hx => by
  simp [ex1] at hc
  rcases hc with rfl | rfl | rfl <;> (simp at hx; unfold LitOf; omega)
theorem ex1_one : IsClose ex1 [1] [1, 2, 3, -4] false := by
  obtain ⟨h1, h2, h3, h4⟩ := ex1_der [1] (by simp)
  refine close_done (fun x hx => by simp at hx; simp [hx]) (fun x hx => ?_) (by unfold Up; decide) (by decide) (fun c hc => ?_)
  · simp at hx
    rcases hx with rfl | rfl | rfl | rfl <;> assumption
  · simp [ex1] at hc
    rcases hc with rfl | rfl | rfl
    · exact .inl ⟨2, by simp, by simp⟩
    · exact .inl ⟨-4, by simp, by simp⟩
    · exact .inl ⟨3, by simp, by simp⟩
theorem ex1_two : Contra ex1 [1, 4] := by
  obtain ⟨h1, h2, _, _⟩ := ex1_der [1, 4] (by simp)
  refine .inr ⟨[-2, -1, -4], by simp [ex1], fun y hy => ?_⟩
  simp at hy
  rcases hy with rfl | rfl | rfl
  · exact h2
  · exact h1
  · exact .lit (by simp)
theorem ex_three : Contra [] [1, -1] := .inl ⟨1, .lit (by simp), .lit (by simp)⟩
theorem ex_four : Contra [[]] [] := .inr ⟨[], by simp, fun y h => absurd h (by simp)⟩
theorem close_contra {l : List (List Int)} {s out : List Int} {b : Bool} (h : IsClose l s out b) (hc : Contra l s) : out = [] ∧ b = true := by
  rcases h with ⟨e, o, _⟩ | ⟨_, c, _⟩
  · exact ⟨o, e⟩
  · exact absurd hc c
end Go.Proofs.Ytjkmdghlhodhiaa.Up
namespace Go.Proofs.Ytjkmdghlhodhiaa
open Go.RowKit Cl Up
attribute [local go_sem ↓] Go.wp_at_zero Go.wp_at_succ
end Go.Proofs.Ytjkmdghlhodhiaa
