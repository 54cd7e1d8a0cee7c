/- What the laws of proofs ask of the program; any clauses, any steps: the law walked. -/
import Derived.Test.YtebeemnpamgmlaaOj
import Derived.Test.YtebeemnpamgmlaaOl
namespace Go.Proofs.Ytebeemnpamgmlaa.Up
open Go.RowKit Cl
theorem fewG_of {t : List (List Int)} (h : fewG t = true) : t.length ≤ 200 ∧ ∀ c ∈ t, c.length ≤ 300 := by
  unfold fewG at h
  rw [Bool.and_eq_true, decide_eq_true_iff, List.all_eq_true] at h
  exact ⟨h.1, fun c hc => of_decide_eq_true (h.2 c hc)⟩
theorem fol_one {l : List (List Int)} {c : List Int} {a b : Bool} (h1 : a = true ↔ Fol l c) (h2 : b = true ↔ Fol l c) : a = b := by
  rw [Bool.eq_iff_iff, h1, h2]
end Go.Proofs.Ytebeemnpamgmlaa.Up
namespace Go.Proofs.Ytebeemnpamgmlaa
open Go.RowKit Cl Up
attribute [local go_sem ↓] Go.wp_at_zero Go.wp_at_succ
end Go.Proofs.Ytebeemnpamgmlaa
