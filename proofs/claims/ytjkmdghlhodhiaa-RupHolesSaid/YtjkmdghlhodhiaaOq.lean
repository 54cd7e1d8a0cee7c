/- The closed examples of proofs; the law's own of these: walked. -/
import Derived.Test.YtjkmdghlhodhiaaOp
namespace Go.Proofs.Ytjkmdghlhodhiaa.Up
open Go.RowKit Cl
def ex2 : List (List Int) := [[1, 2], [1, -2], [-1, 2], [-1, -2]]
theorem ex2_lits : ∀ c ∈ ex2, ∀ x ∈ c, LitOf 2 x := by decide
theorem ex2_ok : (checkAll 2 ex2).2 = 0 := by decide
theorem ex2_both {l : List (List Int)} {s : List Int} {x a b : Int} (h : Der l s x) (h1 : [a, 2] ∈ l) (h2 : [a, -2] ∈ l) (hx : x = -a) (_h3 : a ≠ 2) (_h4 : a ≠ -2) (_ : b = a) : Contra l s := by
  subst hx
  refine .inl ⟨2, .cl h1 (by simp) fun y hy hne => ?_, .cl h2 (by simp) fun y hy hne => ?_⟩
  · have : y = a := by simp at hy; omega
    rw [this]; exact h
  · have : y = a := by simp at hy; omega
    rw [this]; exact h
theorem ex2_f1 : Fol ex2 [1] := ex2_both (x := -1) (a := 1) (b := 1) (.lit (by simp [neg])) (by simp [ex2]) (by simp [ex2]) (by decide) (by decide) (by decide) rfl
theorem ex2_f2 : ¬ Fol ex2 [] := (closed_all (T := fun _ => False) (fun x hx => by simp [neg] at hx) (fun x h _ => h) (fun c hc => by
  simp [ex2] at hc
  rcases hc with rfl | rfl | rfl | rfl
  · exact .inr ⟨1, by simp, 2, by simp, by decide, id, id⟩
  · exact .inr ⟨1, by simp, -2, by simp, by decide, id, id⟩
  · exact .inr ⟨-1, by simp, 2, by simp, by decide, id, id⟩
  · exact .inr ⟨-1, by simp, -2, by simp, by decide, id, id⟩)).2
theorem ex2_f3 : Fol (ex2 ++ [[1]]) [] := ex2_both (x := 1) (a := -1) (b := -1) (.cl (c := [1]) (by simp) (by simp) fun y hy hne => absurd (by simpa using hy) hne) (by simp [ex2]) (by simp [ex2]) (by decide) (by decide) (by decide) rfl
theorem ex2_t0 (p : List (List Int)) : Taken 2 ex2 p 0 := fun q hq h => absurd h (by omega)
theorem ex2_t1 (p : List (List Int)) : Taken 2 ex2 ([1] :: p) 1 := taken_more (c := [1]) (ex2_t0 _) (by simp) rfl (by decide) (by simpa using ex2_f1)
theorem ex2_p1 : proofP 2 ex2 [[1], []] = (0, 0) := proof_ok ex2_ok (taken_more (c := []) (ex2_t1 _) (by simp) rfl (by decide) ex2_f3)
theorem ex2_p2 : proofP 2 ex2 [[1], [3]] = (1, 11) := proof_err (c := [3]) ex2_ok (ex2_t1 _) (by simp) rfl (by decide)
theorem ex2_p3 : proofP 2 ex2 [[]] = (0, 13) := proof_not (c := []) ex2_ok (ex2_t0 _) (by simp) rfl (by decide) (by simpa using ex2_f2)
theorem ex2_p4 : proofP 2 ex2 [[1]] = (0, 0) := proof_ok ex2_ok (ex2_t1 [])
theorem ex2_e1 : endsB 2 ex2 [[1], []] [] = true := by unfold endsB; rw [ex2_p1]; decide
theorem ex2_e2 : endsB 2 ex2 [[1]] [] = false := by unfold endsB; rw [ex2_p4]; decide
theorem ex2_e3 : endsB 2 ex2 [] [] = false := by unfold endsB; rw [show decide (0 < ([] : List (List Int)).length) = false by decide, Bool.false_and, Bool.and_false]
end Go.Proofs.Ytjkmdghlhodhiaa.Up
namespace Go.Proofs.Ytjkmdghlhodhiaa
open Go.RowKit Cl Up
attribute [local go_sem ↓] Go.wp_at_zero Go.wp_at_succ
set_option maxRecDepth 100000 in
set_option maxHeartbeats 12800000 in
theorem known16_any (HCK : RupCheckC) (HEN : RupEndsC) (HFO : RupFollowsC) : KnownC16 := fun w => by
  have HCKC := Lib.hid HCK
  have HENC := Lib.hid HEN
  have HFOC := Lib.hid HFO
  clear HCK HEN HFO
  obtain ⟨b1, hb1⟩ : ∃ b, w.heap.size = b := ⟨_, rfl⟩
  obtain ⟨W1, hW1⟩ : ∃ W, w.alloc (.cells #[.int .i64 1, .int .i64 2] 3) = W := ⟨_, rfl⟩
  have HRW1 : Hid (IRow W1 (some ⟨b1, 0, none⟩) [1, 2]) := by show IRow _ _ _; rw [← hW1, ← hb1]; exact irow_new _ _ _ _ rfl
  have HBW1 : Hid (Below w.heap.size w W1 ∧ w.heap.size ≤ W1.heap.size) := by rw [← hW1]; exact ⟨(Below.refl _ _).alloc (Nat.le_refl _) _, by simp⟩
  obtain ⟨b2, hb2⟩ : ∃ b, W1.heap.size = b := ⟨_, rfl⟩
  obtain ⟨W2, hW2⟩ : ∃ W, W1.alloc (.cells #[.int .i64 1, .int .i64 (-2)] 3) = W := ⟨_, rfl⟩
  have HRW2 : Hid (IRow W2 (some ⟨b2, 0, none⟩) [1, -2]) := by show IRow _ _ _; rw [← hW2, ← hb2]; exact irow_new _ _ _ _ rfl
  have HBW2 : Hid (Below W1.heap.size W1 W2 ∧ W1.heap.size ≤ W2.heap.size) := by rw [← hW2]; exact ⟨(Below.refl _ _).alloc (Nat.le_refl _) _, by simp⟩
  obtain ⟨b3, hb3⟩ : ∃ b, W2.heap.size = b := ⟨_, rfl⟩
  obtain ⟨W3, hW3⟩ : ∃ W, W2.alloc (.cells #[.int .i64 (-1), .int .i64 2] 3) = W := ⟨_, rfl⟩
  have HRW3 : Hid (IRow W3 (some ⟨b3, 0, none⟩) [-1, 2]) := by show IRow _ _ _; rw [← hW3, ← hb3]; exact irow_new _ _ _ _ rfl
  have HBW3 : Hid (Below W2.heap.size W2 W3 ∧ W2.heap.size ≤ W3.heap.size) := by rw [← hW3]; exact ⟨(Below.refl _ _).alloc (Nat.le_refl _) _, by simp⟩
  obtain ⟨b4, hb4⟩ : ∃ b, W3.heap.size = b := ⟨_, rfl⟩
  obtain ⟨W4, hW4⟩ : ∃ W, W3.alloc (.cells #[.int .i64 (-1), .int .i64 (-2)] 3) = W := ⟨_, rfl⟩
  have HRW4 : Hid (IRow W4 (some ⟨b4, 0, none⟩) [-1, -2]) := by show IRow _ _ _; rw [← hW4, ← hb4]; exact irow_new _ _ _ _ rfl
  have HBW4 : Hid (Below W3.heap.size W3 W4 ∧ W3.heap.size ≤ W4.heap.size) := by rw [← hW4]; exact ⟨(Below.refl _ _).alloc (Nat.le_refl _) _, by simp⟩
  obtain ⟨b5, hb5⟩ : ∃ b, W4.heap.size = b := ⟨_, rfl⟩
  obtain ⟨W5, hW5⟩ : ∃ W, W4.alloc (.cells #[.slice (some ⟨b1, 0, none⟩) 2 2, .slice (some ⟨b2, 0, none⟩) 2 2, .slice (some ⟨b3, 0, none⟩) 2 2, .slice (some ⟨b4, 0, none⟩) 2 2] 47) = W := ⟨_, rfl⟩
  have HDW5 : Hid (Rg.Row encO 1 W5 (some ⟨b5, 0, none⟩) [(some ⟨b1, 0, none⟩, 2, 2), (some ⟨b2, 0, none⟩, 2, 2), (some ⟨b3, 0, none⟩, 2, 2), (some ⟨b4, 0, none⟩, 2, 2)]) := by show Rg.Row _ _ _ _ _; rw [← hW5, ← hb5]; exact drow_new _ _ _ _ rfl
  have HBW5 : Hid (Below W4.heap.size W4 W5 ∧ W4.heap.size ≤ W5.heap.size) := by rw [← hW5]; exact ⟨(Below.refl _ _).alloc (Nat.le_refl _) _, by simp⟩
  have HGW5 : Hid (CRow W5 (some ⟨b5, 0, none⟩) [[1, 2], [1, -2], [-1, 2], [-1, -2]]) := crow_of HDW5.out rfl (in_cons rfl (irow_below HRW1.out (below2 (below2 (below2 HBW2.out HBW3.out) HBW4.out) HBW5.out).1) (in_cons rfl (irow_below HRW2.out (below2 (below2 HBW3.out HBW4.out) HBW5.out).1) (in_cons rfl (irow_below HRW3.out (below2 HBW4.out HBW5.out).1) (in_cons rfl (irow_below HRW4.out HBW5.out.1) (in_nil _))))) (by repeat' first | exact caps_nil | refine caps_cons (Nat.le_refl _) ?_)
  have HGL0 : Hid (CRow W5 (some ⟨b5, 0, none⟩) ex2) := HGW5
  obtain ⟨b6, hb6⟩ : ∃ b, W5.heap.size = b := ⟨_, rfl⟩
  obtain ⟨W6, hW6⟩ : ∃ W, W5.alloc (.cells #[.int .i64 1] 3) = W := ⟨_, rfl⟩
  have HRW6 : Hid (IRow W6 (some ⟨b6, 0, none⟩) [1]) := by show IRow _ _ _; rw [← hW6, ← hb6]; exact irow_new _ _ _ _ rfl
  have HBW6 : Hid (Below W5.heap.size W5 W6 ∧ W5.heap.size ≤ W6.heap.size) := by rw [← hW6]; exact ⟨(Below.refl _ _).alloc (Nat.le_refl _) _, by simp⟩
  obtain ⟨b7, hb7⟩ : ∃ b, W6.heap.size = b := ⟨_, rfl⟩
  obtain ⟨W7, hW7⟩ : ∃ W, W6.alloc (.cells #[.slice (some ⟨b6, 0, none⟩) 1 1, .slice none 0 0] 47) = W := ⟨_, rfl⟩
  have HDW7 : Hid (Rg.Row encO 1 W7 (some ⟨b7, 0, none⟩) [(some ⟨b6, 0, none⟩, 1, 1), (none, 0, 0)]) := by show Rg.Row _ _ _ _ _; rw [← hW7, ← hb7]; exact drow_new _ _ _ _ rfl
  have HBW7 : Hid (Below W6.heap.size W6 W7 ∧ W6.heap.size ≤ W7.heap.size) := by rw [← hW7]; exact ⟨(Below.refl _ _).alloc (Nat.le_refl _) _, by simp⟩
  have HGW7 : Hid (CRow W7 (some ⟨b7, 0, none⟩) [[1], []]) := crow_of HDW7.out rfl (in_cons rfl (irow_below HRW6.out HBW7.out.1) (in_cons rfl (irow_nil _ _) (in_nil _))) (by repeat' first | exact caps_nil | refine caps_cons (Nat.le_refl _) ?_)
  have HGL1 : Hid (CRow W7 (some ⟨b5, 0, none⟩) ex2) := (crow_below HGL0.out (below2 HBW6.out HBW7.out).1)
  have HQ1 := Lib.hid (HCKC.out 2 _ _ 4 2 4 2 ex2 [[1], []] W7 rfl HGL1.out rfl HGW7.out (by decide) (by decide) (by decide) (by decide))
  rw [ex2_p1] at HQ1
  go_enter Try.func8, Try.ntmps8
  go_wp2_with (go_at_call 10; refine HQ1.out.mono ?_)
  first | rintro _ u1 rfl hb | rintro _ u1 ⟨rfl, hb⟩
  have HBu1 : Hid (Below W7.heap.size W7 u1 ∧ W7.heap.size ≤ u1.heap.size) := ⟨hb, hb.size⟩
  have HGM1 := Lib.hid (crow_below HGL1.out hb)
  clear hb HQ1
  clear hW1 hb1 hW2 hb2 hW3 hb3 hW4 hb4 hW5 hb5 hW6 hb6 hW7 hb7
  obtain ⟨b8, hb8⟩ : ∃ b, u1.heap.size = b := ⟨_, rfl⟩
  obtain ⟨W8, hW8⟩ : ∃ W, u1.alloc (.cells #[.int .i64 1] 3) = W := ⟨_, rfl⟩
  have HRW8 : Hid (IRow W8 (some ⟨b8, 0, none⟩) [1]) := by show IRow _ _ _; rw [← hW8, ← hb8]; exact irow_new _ _ _ _ rfl
  have HBW8 : Hid (Below u1.heap.size u1 W8 ∧ u1.heap.size ≤ W8.heap.size) := by rw [← hW8]; exact ⟨(Below.refl _ _).alloc (Nat.le_refl _) _, by simp⟩
  obtain ⟨b9, hb9⟩ : ∃ b, W8.heap.size = b := ⟨_, rfl⟩
  obtain ⟨W9, hW9⟩ : ∃ W, W8.alloc (.cells #[.int .i64 3] 3) = W := ⟨_, rfl⟩
  have HRW9 : Hid (IRow W9 (some ⟨b9, 0, none⟩) [3]) := by show IRow _ _ _; rw [← hW9, ← hb9]; exact irow_new _ _ _ _ rfl
  have HBW9 : Hid (Below W8.heap.size W8 W9 ∧ W8.heap.size ≤ W9.heap.size) := by rw [← hW9]; exact ⟨(Below.refl _ _).alloc (Nat.le_refl _) _, by simp⟩
  obtain ⟨b10, hb10⟩ : ∃ b, W9.heap.size = b := ⟨_, rfl⟩
  obtain ⟨W10, hW10⟩ : ∃ W, W9.alloc (.cells #[.slice (some ⟨b8, 0, none⟩) 1 1, .slice (some ⟨b9, 0, none⟩) 1 1] 47) = W := ⟨_, rfl⟩
  have HDW10 : Hid (Rg.Row encO 1 W10 (some ⟨b10, 0, none⟩) [(some ⟨b8, 0, none⟩, 1, 1), (some ⟨b9, 0, none⟩, 1, 1)]) := by show Rg.Row _ _ _ _ _; rw [← hW10, ← hb10]; exact drow_new _ _ _ _ rfl
  have HBW10 : Hid (Below W9.heap.size W9 W10 ∧ W9.heap.size ≤ W10.heap.size) := by rw [← hW10]; exact ⟨(Below.refl _ _).alloc (Nat.le_refl _) _, by simp⟩
  have HGW10 : Hid (CRow W10 (some ⟨b10, 0, none⟩) [[1], [3]]) := crow_of HDW10.out rfl (in_cons rfl (irow_below HRW8.out (below2 HBW9.out HBW10.out).1) (in_cons rfl (irow_below HRW9.out HBW10.out.1) (in_nil _))) (by repeat' first | exact caps_nil | refine caps_cons (Nat.le_refl _) ?_)
  have HGL2 : Hid (CRow W10 (some ⟨b5, 0, none⟩) ex2) := (crow_below HGM1.out (below2 (below2 HBW8.out HBW9.out) HBW10.out).1)
  have HQ2 := Lib.hid (HCKC.out 2 _ _ 4 2 4 2 ex2 [[1], [3]] W10 rfl HGL2.out rfl HGW10.out (by decide) (by decide) (by decide) (by decide))
  rw [ex2_p2] at HQ2
  go_wp2_with (go_at_call 10; refine HQ2.out.mono ?_)
  first | rintro _ u2 rfl hb | rintro _ u2 ⟨rfl, hb⟩
  have HBu2 : Hid (Below W10.heap.size W10 u2 ∧ W10.heap.size ≤ u2.heap.size) := ⟨hb, hb.size⟩
  have HGM2 := Lib.hid (crow_below HGL2.out hb)
  clear hb HQ2
  clear hW8 hb8 hW9 hb9 hW10 hb10
  obtain ⟨b11, hb11⟩ : ∃ b, u2.heap.size = b := ⟨_, rfl⟩
  obtain ⟨W11, hW11⟩ : ∃ W, u2.alloc (.cells #[.slice none 0 0] 47) = W := ⟨_, rfl⟩
  have HDW11 : Hid (Rg.Row encO 1 W11 (some ⟨b11, 0, none⟩) [(none, 0, 0)]) := by show Rg.Row _ _ _ _ _; rw [← hW11, ← hb11]; exact drow_new _ _ _ _ rfl
  have HBW11 : Hid (Below u2.heap.size u2 W11 ∧ u2.heap.size ≤ W11.heap.size) := by rw [← hW11]; exact ⟨(Below.refl _ _).alloc (Nat.le_refl _) _, by simp⟩
  have HGW11 : Hid (CRow W11 (some ⟨b11, 0, none⟩) [[]]) := crow_of HDW11.out rfl (in_cons rfl (irow_nil _ _) (in_nil _)) (by repeat' first | exact caps_nil | refine caps_cons (Nat.le_refl _) ?_)
  have HGL3 : Hid (CRow W11 (some ⟨b5, 0, none⟩) ex2) := (crow_below HGM2.out HBW11.out.1)
  have HQ3 := Lib.hid (HCKC.out 2 _ _ 4 1 4 1 ex2 [[]] W11 rfl HGL3.out rfl HGW11.out (by decide) (by decide) (by decide) (by decide))
  rw [ex2_p3] at HQ3
  go_wp2_with (go_at_call 10; refine HQ3.out.mono ?_)
  first | rintro _ u3 rfl hb | rintro _ u3 ⟨rfl, hb⟩
  have HBu3 : Hid (Below W11.heap.size W11 u3 ∧ W11.heap.size ≤ u3.heap.size) := ⟨hb, hb.size⟩
  have HGM3 := Lib.hid (crow_below HGL3.out hb)
  clear hb HQ3
  clear hW11 hb11
  obtain ⟨b12, hb12⟩ : ∃ b, u3.heap.size = b := ⟨_, rfl⟩
  obtain ⟨W12, hW12⟩ : ∃ W, u3.alloc (.cells #[.int .i64 1] 3) = W := ⟨_, rfl⟩
  have HRW12 : Hid (IRow W12 (some ⟨b12, 0, none⟩) [1]) := by show IRow _ _ _; rw [← hW12, ← hb12]; exact irow_new _ _ _ _ rfl
  have HBW12 : Hid (Below u3.heap.size u3 W12 ∧ u3.heap.size ≤ W12.heap.size) := by rw [← hW12]; exact ⟨(Below.refl _ _).alloc (Nat.le_refl _) _, by simp⟩
  obtain ⟨b13, hb13⟩ : ∃ b, W12.heap.size = b := ⟨_, rfl⟩
  obtain ⟨W13, hW13⟩ : ∃ W, W12.alloc (.cells #[.slice (some ⟨b12, 0, none⟩) 1 1, .slice none 0 0] 47) = W := ⟨_, rfl⟩
  have HDW13 : Hid (Rg.Row encO 1 W13 (some ⟨b13, 0, none⟩) [(some ⟨b12, 0, none⟩, 1, 1), (none, 0, 0)]) := by show Rg.Row _ _ _ _ _; rw [← hW13, ← hb13]; exact drow_new _ _ _ _ rfl
  have HBW13 : Hid (Below W12.heap.size W12 W13 ∧ W12.heap.size ≤ W13.heap.size) := by rw [← hW13]; exact ⟨(Below.refl _ _).alloc (Nat.le_refl _) _, by simp⟩
  have HGW13 : Hid (CRow W13 (some ⟨b13, 0, none⟩) [[1], []]) := crow_of HDW13.out rfl (in_cons rfl (irow_below HRW12.out HBW13.out.1) (in_cons rfl (irow_nil _ _) (in_nil _))) (by repeat' first | exact caps_nil | refine caps_cons (Nat.le_refl _) ?_)
  have HGL4 : Hid (CRow W13 (some ⟨b5, 0, none⟩) ex2) := (crow_below HGM3.out (below2 HBW12.out HBW13.out).1)
  have HQ4 := Lib.hid (HENC.out 2 _ _ none 4 2 0 4 2 0 ex2 [[1], []] [] W13 rfl HGL4.out rfl HGW13.out (by decide) rfl (irow_nil _ _) (by decide) (by decide) (by decide) (by decide) (by decide))
  rw [ex2_e1] at HQ4
  go_wp2_with (go_at_call 13; refine HQ4.out.mono ?_)
  first | rintro _ u4 rfl hb | rintro _ u4 ⟨rfl, hb⟩
  have HBu4 : Hid (Below W13.heap.size W13 u4 ∧ W13.heap.size ≤ u4.heap.size) := ⟨hb, hb.size⟩
  have HGM4 := Lib.hid (crow_below HGL4.out hb)
  clear hb HQ4
  clear hW12 hb12 hW13 hb13
  obtain ⟨b14, hb14⟩ : ∃ b, u4.heap.size = b := ⟨_, rfl⟩
  obtain ⟨W14, hW14⟩ : ∃ W, u4.alloc (.cells #[.int .i64 1] 3) = W := ⟨_, rfl⟩
  have HRW14 : Hid (IRow W14 (some ⟨b14, 0, none⟩) [1]) := by show IRow _ _ _; rw [← hW14, ← hb14]; exact irow_new _ _ _ _ rfl
  have HBW14 : Hid (Below u4.heap.size u4 W14 ∧ u4.heap.size ≤ W14.heap.size) := by rw [← hW14]; exact ⟨(Below.refl _ _).alloc (Nat.le_refl _) _, by simp⟩
  obtain ⟨b15, hb15⟩ : ∃ b, W14.heap.size = b := ⟨_, rfl⟩
  obtain ⟨W15, hW15⟩ : ∃ W, W14.alloc (.cells #[.slice (some ⟨b14, 0, none⟩) 1 1] 47) = W := ⟨_, rfl⟩
  have HDW15 : Hid (Rg.Row encO 1 W15 (some ⟨b15, 0, none⟩) [(some ⟨b14, 0, none⟩, 1, 1)]) := by show Rg.Row _ _ _ _ _; rw [← hW15, ← hb15]; exact drow_new _ _ _ _ rfl
  have HBW15 : Hid (Below W14.heap.size W14 W15 ∧ W14.heap.size ≤ W15.heap.size) := by rw [← hW15]; exact ⟨(Below.refl _ _).alloc (Nat.le_refl _) _, by simp⟩
  have HGW15 : Hid (CRow W15 (some ⟨b15, 0, none⟩) [[1]]) := crow_of HDW15.out rfl (in_cons rfl (irow_below HRW14.out HBW15.out.1) (in_nil _)) (by repeat' first | exact caps_nil | refine caps_cons (Nat.le_refl _) ?_)
  have HGL5 : Hid (CRow W15 (some ⟨b5, 0, none⟩) ex2) := (crow_below HGM4.out (below2 HBW14.out HBW15.out).1)
  have HQ5 := Lib.hid (HENC.out 2 _ _ none 4 1 0 4 1 0 ex2 [[1]] [] W15 rfl HGL5.out rfl HGW15.out (by decide) rfl (irow_nil _ _) (by decide) (by decide) (by decide) (by decide) (by decide))
  rw [ex2_e2] at HQ5
  go_wp2_with (go_at_call 13; refine HQ5.out.mono ?_)
  first | rintro _ u5 rfl hb | rintro _ u5 ⟨rfl, hb⟩
  have HBu5 : Hid (Below W15.heap.size W15 u5 ∧ W15.heap.size ≤ u5.heap.size) := ⟨hb, hb.size⟩
  have HGM5 := Lib.hid (crow_below HGL5.out hb)
  clear hb HQ5
  clear hW14 hb14 hW15 hb15
  have HGL6 : Hid (CRow u5 (some ⟨b5, 0, none⟩) ex2) := HGM5.out
  have HQ6 := Lib.hid (HENC.out 2 _ none none 4 0 0 4 0 0 ex2 [] [] u5 rfl HGL6.out rfl (crow_nil _ _) (by decide) rfl (irow_nil _ _) (by decide) (by decide) (by decide) (by decide) (by decide))
  rw [ex2_e3] at HQ6
  go_wp2_with (go_at_call 13; refine HQ6.out.mono ?_)
  first | rintro _ u6 rfl hb | rintro _ u6 ⟨rfl, hb⟩
  have HBu6 : Hid (Below u5.heap.size u5 u6 ∧ u5.heap.size ≤ u6.heap.size) := ⟨hb, hb.size⟩
  have HGM6 := Lib.hid (crow_below HGL6.out hb)
  clear hb HQ6
  obtain ⟨b16, hb16⟩ : ∃ b, u6.heap.size = b := ⟨_, rfl⟩
  obtain ⟨W16, hW16⟩ : ∃ W, u6.alloc (.cells #[.int .i64 1] 3) = W := ⟨_, rfl⟩
  have HRW16 : Hid (IRow W16 (some ⟨b16, 0, none⟩) [1]) := by show IRow _ _ _; rw [← hW16, ← hb16]; exact irow_new _ _ _ _ rfl
  have HBW16 : Hid (Below u6.heap.size u6 W16 ∧ u6.heap.size ≤ W16.heap.size) := by rw [← hW16]; exact ⟨(Below.refl _ _).alloc (Nat.le_refl _) _, by simp⟩
  have HGL7 : Hid (CRow W16 (some ⟨b5, 0, none⟩) ex2) := (crow_below HGM6.out HBW16.out.1)
  have HQ7 := Lib.hid (HFOC.out 2 _ _ 4 1 4 1 ex2 [1] W16 rfl HGL7.out (by decide) rfl HRW16.out (by decide) ex2_lits (by decide) (by decide) (by decide) (by decide))
  go_wp2_with (go_at_call 17; refine HQ7.out.mono ?_)
  rintro _ u7 ⟨bb, rfl, hf, hb, hz⟩
  obtain rfl : bb = true := hf.2 ex2_f1
  have HBu7 : Hid (Below W16.heap.size W16 u7 ∧ W16.heap.size ≤ u7.heap.size) := ⟨hb, hz⟩
  have HGM7 := Lib.hid (crow_below HGL7.out hb)
  clear hf hb hz HQ7
  clear hW16 hb16
  have HGL8 : Hid (CRow u7 (some ⟨b5, 0, none⟩) ex2) := HGM7.out
  have HQ8 := Lib.hid (HFOC.out 2 _ none 4 0 4 0 ex2 [] u7 rfl HGL8.out (by decide) rfl (irow_nil _ _) (by decide) ex2_lits (by decide) (by decide) (by decide) (by decide))
  go_wp2_with (go_at_call 17; refine HQ8.out.mono ?_)
  rintro _ u8 ⟨bb, rfl, hf, hb, hz⟩
  obtain rfl : bb = false := by cases bb with | false => rfl | true => exact absurd (hf.1 rfl) ex2_f2
  have HBu8 : Hid (Below u7.heap.size u7 u8 ∧ u7.heap.size ≤ u8.heap.size) := ⟨hb, hz⟩
  have HGM8 := Lib.hid (crow_below HGL8.out hb)
  clear hf hb hz HQ8
  obtain ⟨b17, hb17⟩ : ∃ b, u8.heap.size = b := ⟨_, rfl⟩
  obtain ⟨W17, hW17⟩ : ∃ W, u8.alloc (.cells #[.int .i64 2, .int .i64 (-2)] 3) = W := ⟨_, rfl⟩
  have HRW17 : Hid (IRow W17 (some ⟨b17, 0, none⟩) [2, -2]) := by show IRow _ _ _; rw [← hW17, ← hb17]; exact irow_new _ _ _ _ rfl
  have HBW17 : Hid (Below u8.heap.size u8 W17 ∧ u8.heap.size ≤ W17.heap.size) := by rw [← hW17]; exact ⟨(Below.refl _ _).alloc (Nat.le_refl _) _, by simp⟩
  have HGL9 : Hid (CRow W17 (some ⟨b5, 0, none⟩) ex2) := (crow_below HGM8.out HBW17.out.1)
  have HQ9 := Lib.hid (HFOC.out 2 _ _ 4 2 4 2 ex2 [2, -2] W17 rfl HGL9.out (by decide) rfl HRW17.out (by decide) ex2_lits (by decide) (by decide) (by decide) (by decide))
  go_wp2_with (go_at_call 17; refine HQ9.out.mono ?_)
  rintro _ u9 ⟨bb, rfl, hf, hb, hz⟩
  obtain rfl : bb = true := hf.2 fol_both
  have HBu9 : Hid (Below W17.heap.size W17 u9 ∧ W17.heap.size ≤ u9.heap.size) := ⟨hb, hz⟩
  have HGM9 := Lib.hid (crow_below HGL9.out hb)
  clear hf hb hz HQ9
  clear hW17 hb17
  go_wp2_with fail
  go_ret
  have hall := below2 (below2 (below2 (below2 (below2 (below2 (below2 (below2 (below2 (below2 (below2 (below2 (below2 (below2 (below2 (below2 (below2 (below2 (below2 (below2 (below2 (below2 (below2 (below2 (below2 (HBW1.out) HBW2.out) HBW3.out) HBW4.out) HBW5.out) HBW6.out) HBW7.out) HBu1.out) HBW8.out) HBW9.out) HBW10.out) HBu2.out) HBW11.out) HBu3.out) HBW12.out) HBW13.out) HBu4.out) HBW14.out) HBW15.out) HBu5.out) HBu6.out) HBW16.out) HBu7.out) HBu8.out) HBW17.out) HBu9.out
  exact ⟨rfl, hall.1, hall.2⟩
end Go.Proofs.Ytjkmdghlhodhiaa
