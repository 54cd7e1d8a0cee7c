/- The closed examples of proofs; the law's own of these: walked. -/
import Derived.Test.YtebeemnpamgmlaaOp
namespace Go.Proofs.Ytebeemnpamgmlaa.Up
open Go.RowKit Cl
def ex2 : List (List Int) := [[1, 2], [1, -2], [-1, 2], [-1, -2]]
theorem ex2_lits : ∀ c ∈ ex2, ∀ x ∈ c, LitOf 2 x := by decide
theorem ex2_ok : (checkAll 2 ex2).2 = 0 := by decide
theorem ex2_both {l : List (List Int)} {s : List Int} {x a b : Int} (h : Der l s x) (h1 : [a, 2] ∈ l) (h2 : [a, -2] ∈ l) (hx : x = -a) (_h3 : a ≠ 2) (_h4 : a ≠ -2) (_ : b = a) : Contra l s := by
  subst hx
  refine .inl ⟨2, .cl h1 (by simp) fun y hy hne => ?_, .cl h2 (by simp) fun y hy hne => ?_⟩
  · have : y = a := by simp at hy; omega
    rw [this]; exact h
  · have : y = a := by simp at hy; omega
    rw [this]; exact h
theorem ex2_f1 : Fol ex2 [1] := ex2_both (x := -1) (a := 1) (b := 1) (.lit (by simp [neg])) (by simp [ex2]) (by simp [ex2]) (by decide) (by decide) (by decide) rfl
theorem ex2_f2 : ¬ Fol ex2 [] := (closed_all (T := fun _ => False) (fun x hx => by simp [neg] at hx) (fun x h _ => h) (fun c hc => by
  simp [ex2] at hc
  rcases hc with rfl | rfl | rfl | rfl
  · exact .inr ⟨1, by simp, 2, by simp, by decide, id, id⟩
  · exact .inr ⟨1, by simp, -2, by simp, by decide, id, id⟩
  · exact .inr ⟨-1, by simp, 2, by simp, by decide, id, id⟩
  · exact .inr ⟨-1, by simp, -2, by simp, by decide, id, id⟩)).2
theorem ex2_f3 : Fol (ex2 ++ [[1]]) [] := ex2_both (x := 1) (a := -1) (b := -1) (.cl (c := [1]) (by simp) (by simp) fun y hy hne => absurd (by simpa using hy) hne) (by simp [ex2]) (by simp [ex2]) (by decide) (by decide) (by decide) rfl
theorem ex2_t0 (p : List (List Int)) : Taken 2 ex2 p 0 := fun q hq h => absurd h (by omega)
theorem ex2_t1 (p : List (List Int)) : Taken 2 ex2 ([1] :: p) 1 := taken_more (c := [1]) (ex2_t0 _) (by simp) rfl (by decide) (by simpa using ex2_f1)
theorem ex2_p1 : proofP 2 ex2 [[1], []] = (0, 0) := proof_ok ex2_ok (taken_more (c := []) (ex2_t1 _) (by simp) rfl (by decide) ex2_f3)
theorem ex2_p2 : proofP 2 ex2 [[1], [3]] = (1, 11) := proof_err (c := [3]) ex2_ok (ex2_t1 _) (by simp) rfl (by decide)
theorem ex2_p3 : proofP 2 ex2 [[]] = (0, 13) := proof_not (c := []) ex2_ok (ex2_t0 _) (by simp) rfl (by decide) (by simpa using ex2_f2)
theorem ex2_p4 : proofP 2 ex2 [[1]] = (0, 0) := proof_ok ex2_ok (ex2_t1 [])
theorem ex2_e1 : endsB 2 ex2 [[1], []] [] = true := by unfold endsB; rw [ex2_p1]; decide
theorem ex2_e2 : endsB 2 ex2 [[1]] [] = false := by unfold endsB; rw [ex2_p4]; decide
theorem ex2_e3 : endsB 2 ex2 [] [] = false := by unfold endsB; rw [show decide (0 < ([] : List (List Int)).length) = false by decide, Bool.false_and, Bool.and_false]
end Go.Proofs.Ytebeemnpamgmlaa.Up
namespace Go.Proofs.Ytebeemnpamgmlaa
open Go.RowKit Cl Up
attribute [local go_sem ↓] Go.wp_at_zero Go.wp_at_succ
end Go.Proofs.Ytebeemnpamgmlaa
