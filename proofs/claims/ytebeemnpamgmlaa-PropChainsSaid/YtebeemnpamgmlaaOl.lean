/- Rows and grids that are laid by hand; the closed examples of unit propagation; the law's own of these: walked. -/
import Derived.Test.YtebeemnpamgmlaaOk
import Derived.Test.YtebeemnpamgmlaaEu
namespace Go.Proofs.Ytebeemnpamgmlaa.Up
open Go.RowKit Cl
/-- The example's clauses. -/
def ex1 : List (List Int) := [[-1, 2], [-2, -1, -4], [3, 3]]
theorem ex1_der (s : List Int) (h : (1 : Int) ∈ s) : Der ex1 s 1 ∧ Der ex1 s 2 ∧ Der ex1 s 3 ∧ Der ex1 s (-4) := by
  have h1 : Der ex1 s 1 := .lit h
  have h2 : Der ex1 s 2 := .cl (c := [-1, 2]) (by simp [ex1]) (by simp) fun y hy hne => by
    have : y = -1 := by simp at hy; omega
    subst this; exact h1
  refine ⟨h1, h2, .cl (c := [3, 3]) (by simp [ex1]) (by simp) fun y hy hne => ?_, .cl (c := [-2, -1, -4]) (by simp [ex1]) (by simp) fun y hy hne => ?_⟩
  · have : y = 3 := by simpa using hy
    exact absurd this hne
  · have : y = -2 ∨ y = -1 := by simp at hy; omega
    rcases this with rfl | rfl
    · exact h2
    · exact h1
instance (n : Nat) (x : Int) : Decidable (LitOf n x) := inferInstanceAs (Decidable (_ ∧ _))
theorem ex1_lits : ∀ c ∈ ex1, ∀ x ∈ c, LitOf 4 x := fun c hc x hx => by
  simp [ex1] at hc
  rcases hc with rfl | rfl | rfl <;> (simp at hx; unfold LitOf; omega)
theorem ex1_one : IsClose ex1 [1] [1, 2, 3, -4] false := by
  obtain ⟨h1, h2, h3, h4⟩ := ex1_der [1] (by simp)
  refine close_done (fun x hx => by simp at hx; simp [hx]) (fun x hx => ?_) (by unfold Up; decide) (by decide) (fun c hc => ?_)
  · simp at hx
    rcases hx with rfl | rfl | rfl | rfl <;> assumption
  · simp [ex1] at hc
    rcases hc with rfl | rfl | rfl
    · exact .inl ⟨2, by simp, by simp⟩
    · exact .inl ⟨-4, by simp, by simp⟩
    · exact .inl ⟨3, by simp, by simp⟩
theorem ex1_two : Contra ex1 [1, 4] := by
  obtain ⟨h1, h2, _, _⟩ := ex1_der [1, 4] (by simp)
  refine .inr ⟨[-2, -1, -4], by simp [ex1], fun y hy => ?_⟩
  simp at hy
  rcases hy with rfl | rfl | rfl
  · exact h2
  · exact h1
  · exact .lit (by simp)
theorem ex_three : Contra [] [1, -1] := .inl ⟨1, .lit (by simp), .lit (by simp)⟩
theorem ex_four : Contra [[]] [] := .inr ⟨[], by simp, fun y h => absurd h (by simp)⟩
theorem close_contra {l : List (List Int)} {s out : List Int} {b : Bool} (h : IsClose l s out b) (hc : Contra l s) : out = [] ∧ b = true := by
  rcases h with ⟨e, o, _⟩ | ⟨_, c, _⟩
  · exact ⟨o, e⟩
  · exact absurd hc c
end Go.Proofs.Ytebeemnpamgmlaa.Up
namespace Go.Proofs.Ytebeemnpamgmlaa
open Go.RowKit Cl Up
attribute [local go_sem ↓] Go.wp_at_zero Go.wp_at_succ
set_option maxRecDepth 100000 in
set_option maxHeartbeats 6400000 in
theorem known15_any (HCL : CloseC) (HUN : UnitsC) : KnownC15 := fun w => by
  have HCLC := Lib.hid HCL
  have HUNC := Lib.hid HUN
  clear HCL HUN
  obtain ⟨b1, hb1⟩ : ∃ b, w.heap.size = b := ⟨_, rfl⟩
  obtain ⟨W1, hW1⟩ : ∃ W, w.alloc (.cells #[.int .i64 (-1), .int .i64 2] 3) = W := ⟨_, rfl⟩
  have HRW1 : Hid (IRow W1 (some ⟨b1, 0, none⟩) [-1, 2]) := by show IRow _ _ _; rw [← hW1, ← hb1]; exact irow_new _ _ _ _ rfl
  have HBW1 : Hid (Below w.heap.size w W1 ∧ w.heap.size ≤ W1.heap.size) := by rw [← hW1]; exact ⟨(Below.refl _ _).alloc (Nat.le_refl _) _, by simp⟩
  obtain ⟨b2, hb2⟩ : ∃ b, W1.heap.size = b := ⟨_, rfl⟩
  obtain ⟨W2, hW2⟩ : ∃ W, W1.alloc (.cells #[.int .i64 (-2), .int .i64 (-1), .int .i64 (-4)] 3) = W := ⟨_, rfl⟩
  have HRW2 : Hid (IRow W2 (some ⟨b2, 0, none⟩) [-2, -1, -4]) := by show IRow _ _ _; rw [← hW2, ← hb2]; exact irow_new _ _ _ _ rfl
  have HBW2 : Hid (Below W1.heap.size W1 W2 ∧ W1.heap.size ≤ W2.heap.size) := by rw [← hW2]; exact ⟨(Below.refl _ _).alloc (Nat.le_refl _) _, by simp⟩
  obtain ⟨b3, hb3⟩ : ∃ b, W2.heap.size = b := ⟨_, rfl⟩
  obtain ⟨W3, hW3⟩ : ∃ W, W2.alloc (.cells #[.int .i64 3, .int .i64 3] 3) = W := ⟨_, rfl⟩
  have HRW3 : Hid (IRow W3 (some ⟨b3, 0, none⟩) [3, 3]) := by show IRow _ _ _; rw [← hW3, ← hb3]; exact irow_new _ _ _ _ rfl
  have HBW3 : Hid (Below W2.heap.size W2 W3 ∧ W2.heap.size ≤ W3.heap.size) := by rw [← hW3]; exact ⟨(Below.refl _ _).alloc (Nat.le_refl _) _, by simp⟩
  obtain ⟨b4, hb4⟩ : ∃ b, W3.heap.size = b := ⟨_, rfl⟩
  obtain ⟨W4, hW4⟩ : ∃ W, W3.alloc (.cells #[.slice (some ⟨b1, 0, none⟩) 2 2, .slice (some ⟨b2, 0, none⟩) 3 3, .slice (some ⟨b3, 0, none⟩) 2 2] 42) = W := ⟨_, rfl⟩
  have HDW4 : Hid (Rg.Row encO 1 W4 (some ⟨b4, 0, none⟩) [(some ⟨b1, 0, none⟩, 2, 2), (some ⟨b2, 0, none⟩, 3, 3), (some ⟨b3, 0, none⟩, 2, 2)]) := by show Rg.Row _ _ _ _ _; rw [← hW4, ← hb4]; exact drow_new _ _ _ _ rfl
  have HBW4 : Hid (Below W3.heap.size W3 W4 ∧ W3.heap.size ≤ W4.heap.size) := by rw [← hW4]; exact ⟨(Below.refl _ _).alloc (Nat.le_refl _) _, by simp⟩
  have HG1 : Hid (CRow W4 (some ⟨b4, 0, none⟩) ex1) := crow_of HDW4.out rfl (in_cons rfl (irow_below HRW1.out (below2 (below2 HBW2.out HBW3.out) HBW4.out).1) (in_cons rfl (irow_below HRW2.out (below2 HBW3.out HBW4.out).1) (in_cons rfl (irow_below HRW3.out HBW4.out.1) (in_nil _)))) (caps_cons (Nat.le_refl _) (caps_cons (Nat.le_refl _) (caps_cons (Nat.le_refl _) caps_nil)))
  obtain ⟨b5, hb5⟩ : ∃ b, W4.heap.size = b := ⟨_, rfl⟩
  obtain ⟨W5, hW5⟩ : ∃ W, W4.alloc (.cells #[.int .i64 1] 3) = W := ⟨_, rfl⟩
  have HRW5 : Hid (IRow W5 (some ⟨b5, 0, none⟩) [1]) := by show IRow _ _ _; rw [← hW5, ← hb5]; exact irow_new _ _ _ _ rfl
  have HBW5 : Hid (Below W4.heap.size W4 W5 ∧ W4.heap.size ≤ W5.heap.size) := by rw [← hW5]; exact ⟨(Below.refl _ _).alloc (Nat.le_refl _) _, by simp⟩
  have HQ1 := Lib.hid (HCLC.out 4 _ _ 3 1 3 1 ex1 [1] W5 rfl (crow_below HG1.out HBW5.out.1) rfl HRW5.out (by decide) ex1_lits (by decide) (by decide) (by decide) (by decide))
  go_enter Try.func7, Try.ntmps7
  go_wp2_with (go_at_call 10; refine HQ1.out.mono ?_)
  rintro _ u1 ⟨v1, out1, bad1, rfl, hcl, ho, hb, hz⟩
  obtain ⟨e1, e2⟩ := close_one hcl ex1_one
  subst e1
  subst e2
  obtain ⟨C1, d1, rfl, hr⟩ := iown_row ho
  have HR1 := Lib.hid hr
  have HBu1 := Lib.hid (And.intro hb hz)
  have HG2 := Lib.hid (crow_below (crow_below HG1.out HBW5.out.1) hb)
  clear hcl ho hb hz hr HQ1
  clear hW1 hW2 hW3 hW4 hW5 hb1 hb2 hb3 hb4 hb5
  obtain ⟨b6, hb6⟩ : ∃ b, u1.heap.size = b := ⟨_, rfl⟩
  obtain ⟨W6, hW6⟩ : ∃ W, u1.alloc (.cells #[.int .i64 1, .int .i64 4] 3) = W := ⟨_, rfl⟩
  have HRW6 : Hid (IRow W6 (some ⟨b6, 0, none⟩) [1, 4]) := by show IRow _ _ _; rw [← hW6, ← hb6]; exact irow_new _ _ _ _ rfl
  have HBW6 : Hid (Below u1.heap.size u1 W6 ∧ u1.heap.size ≤ W6.heap.size) := by rw [← hW6]; exact ⟨(Below.refl _ _).alloc (Nat.le_refl _) _, by simp⟩
  have HQ2 := Lib.hid (HCLC.out 4 _ _ 3 2 3 2 ex1 [1, 4] W6 rfl (crow_below HG2.out HBW6.out.1) rfl HRW6.out (by decide) ex1_lits (by decide) (by decide) (by decide) (by decide))
  go_wp2_with (go_at_call 10; refine HQ2.out.mono ?_)
  rintro _ u2 ⟨v2, out2, bad2, rfl, hcl, ho, hb, hz⟩
  obtain ⟨rfl, rfl⟩ := close_contra hcl ex1_two
  obtain ⟨C2, d2, rfl, _⟩ := iown_row ho
  have HBu2 := Lib.hid (And.intro hb hz)
  clear hcl ho hb hz HQ2 hW6 hb6
  obtain ⟨b7, hb7⟩ : ∃ b, u2.heap.size = b := ⟨_, rfl⟩
  obtain ⟨W7, hW7⟩ : ∃ W, u2.alloc (.cells #[.int .i64 1, .int .i64 (-1)] 3) = W := ⟨_, rfl⟩
  have HRW7 : Hid (IRow W7 (some ⟨b7, 0, none⟩) [1, -1]) := by show IRow _ _ _; rw [← hW7, ← hb7]; exact irow_new _ _ _ _ rfl
  have HBW7 : Hid (Below u2.heap.size u2 W7 ∧ u2.heap.size ≤ W7.heap.size) := by rw [← hW7]; exact ⟨(Below.refl _ _).alloc (Nat.le_refl _) _, by simp⟩
  have HQ3 := Lib.hid (HCLC.out 2 none _ 0 2 0 2 [] [1, -1] W7 rfl (crow_nil _ _) rfl HRW7.out (by decide) (fun c h => absurd h (by simp)) (by decide) (by decide) (by decide) (by decide))
  go_wp2_with (go_at_call 10; refine HQ3.out.mono ?_)
  rintro _ u3 ⟨v3, out3, bad3, rfl, hcl, ho, hb, hz⟩
  obtain ⟨rfl, rfl⟩ := close_contra hcl ex_three
  obtain ⟨C3, d3, rfl, _⟩ := iown_row ho
  have HBu3 := Lib.hid (And.intro hb hz)
  clear hcl ho hb hz HQ3 hW7 hb7
  obtain ⟨b8, hb8⟩ : ∃ b, u3.heap.size = b := ⟨_, rfl⟩
  obtain ⟨W8, hW8⟩ : ∃ W, u3.alloc (.cells #[.slice none 0 0] 42) = W := ⟨_, rfl⟩
  have HDW8 : Hid (Rg.Row encO 1 W8 (some ⟨b8, 0, none⟩) [(none, 0, 0)]) := by show Rg.Row _ _ _ _ _; rw [← hW8, ← hb8]; exact drow_new _ _ _ _ rfl
  have HBW8 : Hid (Below u3.heap.size u3 W8 ∧ u3.heap.size ≤ W8.heap.size) := by rw [← hW8]; exact ⟨(Below.refl _ _).alloc (Nat.le_refl _) _, by simp⟩
  have HQ4 := Lib.hid (HCLC.out 1 _ none 1 0 1 0 [[]] [] W8 rfl (crow_of HDW8.out rfl (in_cons rfl (irow_nil _ _) (in_nil _)) (caps_cons (Nat.le_refl _) caps_nil)) rfl (irow_nil _ _) (by decide) (by decide) (by decide) (by decide) (by decide) (by decide))
  go_wp2_with (go_at_call 10; refine HQ4.out.mono ?_)
  rintro _ u4 ⟨v4, out4, bad4, rfl, hcl, ho, hb, hz⟩
  obtain ⟨rfl, rfl⟩ := close_contra hcl ex_four
  obtain ⟨C4, d4, rfl, _⟩ := iown_row ho
  have HBu4 := Lib.hid (And.intro hb hz)
  have HBR := Lib.hid (below2 (below2 (below2 (below2 (below2 HBW6.out HBu2.out) HBW7.out) HBu3.out) HBW8.out) HBu4.out)
  clear hcl ho hb hz HQ4 hW8 hb8
  obtain ⟨b9, hb9⟩ : ∃ b, u4.heap.size = b := ⟨_, rfl⟩
  obtain ⟨W9, hW9⟩ : ∃ W, u4.alloc (.cells #[.int .i64 1, .int .i64 2, .int .i64 3, .int .i64 (-4)] 3) = W := ⟨_, rfl⟩
  have HRW9 : Hid (IRow W9 (some ⟨b9, 0, none⟩) [1, 2, 3, -4]) := by show IRow _ _ _; rw [← hW9, ← hb9]; exact irow_new _ _ _ _ rfl
  have HBW9 : Hid (Below u4.heap.size u4 W9 ∧ u4.heap.size ≤ W9.heap.size) := by rw [← hW9]; exact ⟨(Below.refl _ _).alloc (Nat.le_refl _) _, by simp⟩
  have HQ5 := Lib.hid (ints7_any C1 _ 4 4 d1 4 [1, 2, 3, -4] [1, 2, 3, -4] W9 rfl rfl (irow_below (irow_below HR1.out HBR.out.1) HBW9.out.1) HRW9.out (by decide))
  go_wp2_with (go_at_call 13; refine HQ5.out.mono ?_)
  rintro _ u5 ⟨rfl, hb⟩
  have HBu5 : Hid (Below W9.heap.size W9 u5 ∧ W9.heap.size ≤ u5.heap.size) := ⟨hb, hb.size⟩
  clear hb HQ5 hW9 hb9
  obtain ⟨b10, hb10⟩ : ∃ b, u5.heap.size = b := ⟨_, rfl⟩
  obtain ⟨W10, hW10⟩ : ∃ W, u5.alloc (.cells #[.int .i64 5] 3) = W := ⟨_, rfl⟩
  have HRW10 : Hid (IRow W10 (some ⟨b10, 0, none⟩) [5]) := by show IRow _ _ _; rw [← hW10, ← hb10]; exact irow_new _ _ _ _ rfl
  have HBW10 : Hid (Below u5.heap.size u5 W10 ∧ u5.heap.size ≤ W10.heap.size) := by rw [← hW10]; exact ⟨(Below.refl _ _).alloc (Nat.le_refl _) _, by simp⟩
  obtain ⟨b11, hb11⟩ : ∃ b, W10.heap.size = b := ⟨_, rfl⟩
  obtain ⟨W11, hW11⟩ : ∃ W, W10.alloc (.cells #[.int .i64 1, .int .i64 2] 3) = W := ⟨_, rfl⟩
  have HRW11 : Hid (IRow W11 (some ⟨b11, 0, none⟩) [1, 2]) := by show IRow _ _ _; rw [← hW11, ← hb11]; exact irow_new _ _ _ _ rfl
  have HBW11 : Hid (Below W10.heap.size W10 W11 ∧ W10.heap.size ≤ W11.heap.size) := by rw [← hW11]; exact ⟨(Below.refl _ _).alloc (Nat.le_refl _) _, by simp⟩
  obtain ⟨b12, hb12⟩ : ∃ b, W11.heap.size = b := ⟨_, rfl⟩
  obtain ⟨W12, hW12⟩ : ∃ W, W11.alloc (.cells #[.int .i64 (-3)] 3) = W := ⟨_, rfl⟩
  have HRW12 : Hid (IRow W12 (some ⟨b12, 0, none⟩) [-3]) := by show IRow _ _ _; rw [← hW12, ← hb12]; exact irow_new _ _ _ _ rfl
  have HBW12 : Hid (Below W11.heap.size W11 W12 ∧ W11.heap.size ≤ W12.heap.size) := by rw [← hW12]; exact ⟨(Below.refl _ _).alloc (Nat.le_refl _) _, by simp⟩
  obtain ⟨b13, hb13⟩ : ∃ b, W12.heap.size = b := ⟨_, rfl⟩
  obtain ⟨W13, hW13⟩ : ∃ W, W12.alloc (.cells #[.slice (some ⟨b10, 0, none⟩) 1 1, .slice (some ⟨b11, 0, none⟩) 2 2, .slice (some ⟨b12, 0, none⟩) 1 1] 42) = W := ⟨_, rfl⟩
  have HDW13 : Hid (Rg.Row encO 1 W13 (some ⟨b13, 0, none⟩) [(some ⟨b10, 0, none⟩, 1, 1), (some ⟨b11, 0, none⟩, 2, 2), (some ⟨b12, 0, none⟩, 1, 1)]) := by show Rg.Row _ _ _ _ _; rw [← hW13, ← hb13]; exact drow_new _ _ _ _ rfl
  have HBW13 : Hid (Below W12.heap.size W12 W13 ∧ W12.heap.size ≤ W13.heap.size) := by rw [← hW13]; exact ⟨(Below.refl _ _).alloc (Nat.le_refl _) _, by simp⟩
  have HQ6 := Lib.hid (HUNC.out _ 3 3 [[5], [1, 2], [-3]] W13 rfl (grid_of HDW13.out rfl (in_cons rfl (irow_below HRW10.out (below2 (below2 HBW11.out HBW12.out) HBW13.out).1) (in_cons rfl (irow_below HRW11.out (below2 HBW12.out HBW13.out).1) (in_cons rfl (irow_below HRW12.out HBW13.out.1) (in_nil _))))) (by decide))
  go_wp2_with (go_at_call 14; refine HQ6.out.mono ?_)
  rintro _ u6 ⟨v6, rfl, ho, hb, hz⟩
  obtain ⟨C6, d6, rfl, hr⟩ := iown_row ho
  have HR6 := Lib.hid hr
  have HBu6 := Lib.hid (And.intro hb hz)
  clear ho hb hz hr HQ6 hW10 hW11 hW12 hW13 hb10 hb11 hb12 hb13
  obtain ⟨b14, hb14⟩ : ∃ b, u6.heap.size = b := ⟨_, rfl⟩
  obtain ⟨W14, hW14⟩ : ∃ W, u6.alloc (.cells #[.int .i64 5, .int .i64 (-3)] 3) = W := ⟨_, rfl⟩
  have HRW14 : Hid (IRow W14 (some ⟨b14, 0, none⟩) [5, -3]) := by show IRow _ _ _; rw [← hW14, ← hb14]; exact irow_new _ _ _ _ rfl
  have HBW14 : Hid (Below u6.heap.size u6 W14 ∧ u6.heap.size ≤ W14.heap.size) := by rw [← hW14]; exact ⟨(Below.refl _ _).alloc (Nat.le_refl _) _, by simp⟩
  have HQ7 := Lib.hid (ints7_any C6 _ 2 2 d6 2 [5, -3] [5, -3] W14 rfl rfl (irow_below HR6.out HBW14.out.1) HRW14.out (by decide))
  go_wp2_with (go_at_call 13; refine HQ7.out.mono ?_)
  rintro _ u7 ⟨rfl, hb⟩
  have HBu7 : Hid (Below W14.heap.size W14 u7 ∧ W14.heap.size ≤ u7.heap.size) := ⟨hb, hb.size⟩
  clear hb HQ7 hW14 hb14
  go_wp2_with fail
  go_ret
  have hall := below2 (below2 (below2 (below2 (below2 (below2 (below2 (below2 (below2 (below2 (below2 (below2 (below2 (below2 (below2 HBW1.out HBW2.out) HBW3.out) HBW4.out) HBW5.out) HBu1.out) HBR.out) HBW9.out) HBu5.out) HBW10.out) HBW11.out) HBW12.out) HBW13.out) HBu6.out) HBW14.out) HBu7.out
  exact ⟨by simp, hall.1, hall.2⟩
end Go.Proofs.Ytebeemnpamgmlaa
