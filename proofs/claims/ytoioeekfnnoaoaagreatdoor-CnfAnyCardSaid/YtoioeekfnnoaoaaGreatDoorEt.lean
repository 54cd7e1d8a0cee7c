/- The closed examples of clauses (known): walked over what the program must answer. -/
import Derived.Test.YtoioeekfnnoaoaaGreatDoorEm
import Derived.Test.YtoioeekfnnoaoaaGreatDoorEj
namespace Go.Proofs.YtoioeekfnnoaoaaGreatDoor.Cl
open Go.RowKit Up
theorem parse1 : parseC [99, 110, 102, 32, 51, 32, 50, 10, 49, 32, 45, 50, 32, 48, 10, 48, 10] = (0, 0, 3, [[1, -2], []]) := by decide +kernel
theorem parse2 : parseC [99, 110, 102, 32, 51, 32, 49, 10, 52, 32, 48, 10] = (1, 11, 0, []) := by decide +kernel
theorem parse3 : parseC [99, 110, 102, 32, 51, 32, 50, 10, 49, 32, 48, 10] = (0, 2, 0, []) := by decide +kernel
theorem parse4 : parseC [99, 110, 102, 32, 51, 32, 50, 10, 49, 32, 48, 10, 48, 49, 32, 48, 10] = (2, 2, 0, []) := by decide +kernel
theorem text1 : textC 3 [[1, -2], []] = [99, 110, 102, 32, 51, 32, 50, 10, 49, 32, 45, 50, 32, 48, 10, 48, 10] := by decide +kernel
theorem norm1 : IsNorm [3, -1, 3, 2] [-1, 2, 3] true := by
  refine .inr ⟨rfl, by decide, by unfold Up; decide, fun x => ?_⟩
  simp only [List.mem_cons, List.not_mem_nil, or_false]
  omega
theorem norm2 : IsNorm [3, -1, -3] [] false := .inl ⟨rfl, rfl, 3, by decide, by decide⟩
theorem parse_known {Q : World → Prop} (HPA : ParseC Q) {s : List UInt8} {i0 n0 : Nat} {k : Int} {t : List (List Int)} (hP : parseC s = (i0, k, n0, t)) (i n : Int) (m : Nat) (hi : (i0 : Int) = i) (hn : (n0 : Int) = n) (hm : t.length = m) (w : World) (hs : s.length ≤ 262144) (hq : Q w) :
    Calls Tryz.prog 19 #[.string ⟨s.toArray⟩] w fun e w' => ∃ A c, e = .returned (.tuple #[.int .i64 n, .slice A m c, .int .i64 i, .int .i64 k]) ∧ GRow w' A t ∧ Below w.heap.size w w' := by
  refine (HPA s w hs hq).mono ?_
  rintro e w' ⟨A, c, h1, h2, h3⟩
  rw [hP] at h1 h2
  subst hi hn hm
  exact ⟨A, c, h1, h2, h3⟩
theorem norm_known {Q : World → Prop} (HNO : NormC Q) {l out : List Int} {ok : Bool} (hN : IsNorm l out ok) (q : Nat) (hq0 : out.length = q) (A : Option Addr) (m c : Nat) (w : World) (hm : l.length = m) (hr : IRow w A l) (h1 : m ≤ 1000) (h2 : ∀ x ∈ l, x ≠ 0 ∧ x.natAbs ≤ 100000) (hq : Q w) :
    Calls Tryz.prog 25 #[.slice A m c] w fun e w' => ∃ A c, e = .returned (.tuple #[.slice A q c, .bool ok]) ∧ IRow w' A out ∧ Below w.heap.size w w' := by
  refine (HNO A m c l w hm hr h1 h2 hq).mono ?_
  rintro e w' ⟨A, c, o2, k2, e1, e2, e3, e4, _⟩
  obtain ⟨rfl, rfl⟩ := norm_one (fun _ => Iff.rfl) hN e2
  subst hq0
  exact ⟨A, c, e1, e3, e4⟩
theorem text_known {Q : World → Prop} (HTX : TextC Q) {n : Nat} {l : List (List Int)} {s : List UInt8} (hT : textC n l = s) (i : Int) (hi : (n : Int) = i) (A : Option Addr) (m c : Nat) (w : World) (hm : l.length = m) (hr : GRow w A l) (h1 : (checkAll n l).2 = 0) (h2 : s.length ≤ 262144) (hq : Q w) :
    Calls Tryz.prog 18 #[.int .i64 i, .slice A m c] w fun e w' => e = .returned (.string ⟨s.toArray⟩) ∧ Below w.heap.size w w' := by
  subst hi hT
  exact HTX n A m c l w hm hr h1 h2 hq
end Go.Proofs.YtoioeekfnnoaoaaGreatDoor.Cl
namespace Go.Proofs.YtoioeekfnnoaoaaGreatDoor
open Go.RowKit Cl Up
attribute [local go_sem ↓] Go.wp_at_zero Go.wp_at_succ
set_option maxRecDepth 100000 in
set_option maxHeartbeats 12800000 in
theorem known13_any {Q : World → Prop} (HQ : Stays Q) (HCK : CheckC Q) (HNO : NormC Q) (HHO : HoldsC Q) (HFI : FirstC Q) (HTX : TextC Q) (HPA : ParseC Q) : KnownC13 Q := fun w hq => by
  have HQQ := Lib.hid fun (u : World) (hb : Below w.heap.size w u) => HQ w u hq hb
  have HCKC := Lib.hid HCK
  have HNOC := Lib.hid HNO
  have HHOC := Lib.hid HHO
  have HFIC := Lib.hid HFI
  have HTXC := Lib.hid HTX
  have HPAC := Lib.hid HPA
  clear hq HCK HNO HHO HFI HTX HPA
  go_enter Tryz.func9, Tryz.ntmps9
  have HTw : Hid (Below w.heap.size w w) := Below.refl _ _
  have HC := Lib.hid (parse_known HPAC.out parse1 0 3 2 rfl rfl rfl w (by decide) (HQQ.out w HTw.out))
  go_wp2_with (go_at_call 19; refine HC.out.mono ?_)
  rintro _ u1 ⟨C1, e1, rfl, hr, hb⟩
  have HBu1 := Lib.hid hb
  have HTu1 : Hid (Below w.heap.size w u1) := HTw.out.trans (hb.mono HTw.out.size)
  have HGL := Lib.hid fun (z : World) (h : Below u1.heap.size u1 z) => Gr.row_below hr h
  clear hr
  clear hb HC
  have HC := Lib.hid (parse_known HPAC.out parse2 1 0 0 rfl rfl rfl u1 (by decide) (HQQ.out u1 HTu1.out))
  go_wp2_with (go_at_call 19; refine HC.out.mono ?_)
  rintro _ u2 ⟨D0, f0, rfl, hr, hb⟩
  have HBu2 := Lib.hid hb
  have HTu2 : Hid (Below w.heap.size w u2) := HTu1.out.trans (hb.mono HTu1.out.size)
  clear hr
  clear hb HC
  have HC := Lib.hid (parse_known HPAC.out parse3 0 0 0 rfl rfl rfl u2 (by decide) (HQQ.out u2 HTu2.out))
  go_wp2_with (go_at_call 19; refine HC.out.mono ?_)
  rintro _ u3 ⟨D1, f1, rfl, hr, hb⟩
  have HBu3 := Lib.hid hb
  have HTu3 : Hid (Below w.heap.size w u3) := HTu2.out.trans (hb.mono HTu2.out.size)
  clear hr
  clear hb HC
  have HC := Lib.hid (parse_known HPAC.out parse4 2 0 0 rfl rfl rfl u3 (by decide) (HQQ.out u3 HTu3.out))
  go_wp2_with (go_at_call 19; refine HC.out.mono ?_)
  rintro _ u4 ⟨D2, f2, rfl, hr, hb⟩
  have HBu4 := Lib.hid hb
  have HTu4 : Hid (Below w.heap.size w u4) := HTu3.out.trans (hb.mono HTu3.out.size)
  clear hr
  clear hb HC
  have HLu4 : Hid (Below u1.heap.size u1 u4) := (HBu2.out.trans (HBu3.out.mono HBu2.out.size)).trans (HBu4.out.mono (HBu2.out.trans (HBu3.out.mono HBu2.out.size)).size)
  obtain ⟨b1, hb1⟩ : ∃ b, u4.heap.size = b := ⟨_, rfl⟩
  obtain ⟨W1, hW1⟩ : ∃ W, u4.alloc (.cells #[.int .i64 3, .int .i64 (-1), .int .i64 3, .int .i64 2] 3) = W := ⟨_, rfl⟩
  have HRW1 : Hid (IRow W1 (some ⟨b1, 0, none⟩) [3, -1, 3, 2]) := by show IRow _ _ _; rw [← hW1, ← hb1]; exact irow_new _ _ _ _ rfl
  have HBW1 : Hid (Below u4.heap.size u4 W1) := by rw [← hW1]; exact (Below.refl _ _).alloc (Nat.le_refl _) _
  have HTW1 : Hid (Below w.heap.size w W1) := HTu4.out.trans (HBW1.out.mono HTu4.out.size)
  have HLW1 : Hid (Below u1.heap.size u1 W1) := HLu4.out.trans (HBW1.out.mono HLu4.out.size)
  have HC := Lib.hid (norm_known HNOC.out norm1 3 rfl _ 4 4 W1 rfl HRW1.out (by decide) (by decide) (HQQ.out W1 HTW1.out))
  go_wp2_with (go_at_call 25; refine HC.out.mono ?_)
  rintro _ u5 ⟨C5, e5, rfl, hr, hb⟩
  have HBu5 := Lib.hid hb
  have HTu5 : Hid (Below w.heap.size w u5) := HTW1.out.trans (hb.mono HTW1.out.size)
  have HN5 := Lib.hid fun (z : World) (h : Below u5.heap.size u5 z) => irow_below hr h
  clear hr
  clear hb HC
  have HLu5 : Hid (Below u1.heap.size u1 u5) := HLW1.out.trans (HBu5.out.mono HLW1.out.size)
  clear hW1 hb1
  obtain ⟨b2, hb2⟩ : ∃ b, u5.heap.size = b := ⟨_, rfl⟩
  obtain ⟨W2, hW2⟩ : ∃ W, u5.alloc (.cells #[.int .i64 3, .int .i64 (-1), .int .i64 (-3)] 3) = W := ⟨_, rfl⟩
  have HRW2 : Hid (IRow W2 (some ⟨b2, 0, none⟩) [3, -1, -3]) := by show IRow _ _ _; rw [← hW2, ← hb2]; exact irow_new _ _ _ _ rfl
  have HBW2 : Hid (Below u5.heap.size u5 W2) := by rw [← hW2]; exact (Below.refl _ _).alloc (Nat.le_refl _) _
  have HTW2 : Hid (Below w.heap.size w W2) := HTu5.out.trans (HBW2.out.mono HTu5.out.size)
  have HLW2 : Hid (Below u1.heap.size u1 W2) := HLu5.out.trans (HBW2.out.mono HLu5.out.size)
  have HC := Lib.hid (norm_known HNOC.out norm2 0 rfl _ 3 3 W2 rfl HRW2.out (by decide) (by decide) (HQQ.out W2 HTW2.out))
  go_wp2_with (go_at_call 25; refine HC.out.mono ?_)
  rintro _ u6 ⟨C6, e6, rfl, hr, hb⟩
  have HBu6 := Lib.hid hb
  have HTu6 : Hid (Below w.heap.size w u6) := HTW2.out.trans (hb.mono HTW2.out.size)
  clear hr
  clear hb HC
  have HLu6 : Hid (Below u1.heap.size u1 u6) := HLW2.out.trans (HBu6.out.mono HLW2.out.size)
  clear hW2 hb2
  have HMu6 : Hid (Below u5.heap.size u5 u6) := HBW2.out.trans (HBu6.out.mono HBW2.out.size)
  have HC := Lib.hid (of13_any C1 2 e1 [[1, -2], []] u6 rfl (HGL.out u6 HLu6.out) (by decide))
  go_wp2_with (go_at_call 21; refine HC.out.mono ?_)
  rintro _ u7 ⟨v7, rfl, ho, hb, hz⟩
  obtain ⟨C7, e7, rfl, hr⟩ := Gr.row_own ho
  have HBu7 := Lib.hid hb
  have HTu7 : Hid (Below w.heap.size w u7) := HTu6.out.trans (hb.mono HTu6.out.size)
  have HG7 := Lib.hid fun (z : World) (h : Below u7.heap.size u7 z) => Gr.row_below hr h
  clear ho hz hr
  clear hb HC
  have HLu7 : Hid (Below u1.heap.size u1 u7) := HLu6.out.trans (HBu7.out.mono HLu6.out.size)
  have HMu7 : Hid (Below u5.heap.size u5 u7) := HMu6.out.trans (HBu7.out.mono HMu6.out.size)
  have l2 : ([[1, -2], []] : List (List Int)).length = 2 := rfl
  rw [l2]
  obtain ⟨b3, hb3⟩ : ∃ b, u7.heap.size = b := ⟨_, rfl⟩
  obtain ⟨W3, hW3⟩ : ∃ W, u7.alloc (.cells #[.int .i64 1, .int .i64 (-2)] 3) = W := ⟨_, rfl⟩
  have HRW3 : Hid (IRow W3 (some ⟨b3, 0, none⟩) [1, -2]) := by show IRow _ _ _; rw [← hW3, ← hb3]; exact irow_new _ _ _ _ rfl
  have HBW3 : Hid (Below u7.heap.size u7 W3) := by rw [← hW3]; exact (Below.refl _ _).alloc (Nat.le_refl _) _
  have HTW3 : Hid (Below w.heap.size w W3) := HTu7.out.trans (HBW3.out.mono HTu7.out.size)
  have HLW3 : Hid (Below u1.heap.size u1 W3) := HLu7.out.trans (HBW3.out.mono HLu7.out.size)
  have HMW3 : Hid (Below u5.heap.size u5 W3) := HMu7.out.trans (HBW3.out.mono HMu7.out.size)
  obtain ⟨b4, hb4⟩ : ∃ b, W3.heap.size = b := ⟨_, rfl⟩
  obtain ⟨W4, hW4⟩ : ∃ W, W3.alloc (.cells #[.slice (some ⟨b3, 0, none⟩) 2 2, .slice none 0 0] 35) = W := ⟨_, rfl⟩
  have HBW4 : Hid (Below W3.heap.size W3 W4) := by rw [← hW4]; exact (Below.refl _ _).alloc (Nat.le_refl _) _
  have HD9 : Hid (Rg.Row encO 1 W4 (some ⟨b4, 0, none⟩) [(some ⟨b3, 0, none⟩, 2, 2), (none, 0, 0)]) := by show Rg.Row _ _ _ _ _; rw [← hW4, ← hb4]; exact drow_new _ _ _ _ rfl
  have HG9 : Hid (GRow W4 (some ⟨b4, 0, none⟩) [[1, -2], []]) := grid_of HD9.out rfl (in_cons rfl (irow_below HRW3.out HBW4.out) (in_cons rfl (irow_nil _ _) (in_nil _)))
  have HTW4 : Hid (Below w.heap.size w W4) := HTW3.out.trans (HBW4.out.mono HTW3.out.size)
  have HLW4 : Hid (Below u1.heap.size u1 W4) := HLW3.out.trans (HBW4.out.mono HLW3.out.size)
  have HMW4 : Hid (Below u5.heap.size u5 W4) := HMW3.out.trans (HBW4.out.mono HMW3.out.size)
  have HU79 : Hid (Below u7.heap.size u7 W4) := HBW3.out.trans (HBW4.out.mono HBW3.out.size)
  have ex1 : decide (([[1, -2], []] : List (List Int)) = [[1, -2], []]) = true := by decide
  have HS9 := Lib.hid (refSameClauses_any C7 (some ⟨b4, 0, none⟩) 2 2 e7 2 [[1, -2], []] [[1, -2], []] W4 rfl rfl (HG7.out W4 HU79.out) HG9.out (by decide) (by decide))
  rw [ex1] at HS9
  have HC := Lib.hid (HS9.out)
  go_wp2_with (go_at_call 15; refine HC.out.mono ?_)
  first | rintro _ u8 rfl hb | rintro _ u8 ⟨rfl, hb⟩
  have HBu8 := Lib.hid hb
  have HTu8 : Hid (Below w.heap.size w u8) := HTW4.out.trans (hb.mono HTW4.out.size)
  
  clear hb HC
  have HLu8 : Hid (Below u1.heap.size u1 u8) := HLW4.out.trans (HBu8.out.mono HLW4.out.size)
  have HMu8 : Hid (Below u5.heap.size u5 u8) := HMW4.out.trans (HBu8.out.mono HMW4.out.size)
  clear hW3 hb3 hW4 hb4
  clear HS9 HG9 HD9 HG7 HU79 l2 ex1
  have HC := Lib.hid (text_known HTXC.out text1 3 rfl C1 2 e1 u8 rfl (HGL.out u8 HLu8.out) (by decide) (by decide) (HQQ.out u8 HTu8.out))
  go_wp2_with (go_at_call 18; refine HC.out.mono ?_)
  first | rintro _ u9 rfl hb | rintro _ u9 ⟨rfl, hb⟩
  have HBu9 := Lib.hid hb
  have HTu9 : Hid (Below w.heap.size w u9) := HTu8.out.trans (hb.mono HTu8.out.size)
  
  clear hb HC
  have HLu9 : Hid (Below u1.heap.size u1 u9) := HLu8.out.trans (HBu9.out.mono HLu8.out.size)
  have HMu9 : Hid (Below u5.heap.size u5 u9) := HMu8.out.trans (HBu9.out.mono HMu8.out.size)
  obtain ⟨b5, hb5⟩ : ∃ b, u9.heap.size = b := ⟨_, rfl⟩
  obtain ⟨W5, hW5⟩ : ∃ W, u9.alloc (.cells #[.int .i64 (-1), .int .i64 2, .int .i64 3] 3) = W := ⟨_, rfl⟩
  have HRW5 : Hid (IRow W5 (some ⟨b5, 0, none⟩) [-1, 2, 3]) := by show IRow _ _ _; rw [← hW5, ← hb5]; exact irow_new _ _ _ _ rfl
  have HBW5 : Hid (Below u9.heap.size u9 W5) := by rw [← hW5]; exact (Below.refl _ _).alloc (Nat.le_refl _) _
  have HTW5 : Hid (Below w.heap.size w W5) := HTu9.out.trans (HBW5.out.mono HTu9.out.size)
  have HLW5 : Hid (Below u1.heap.size u1 W5) := HLu9.out.trans (HBW5.out.mono HLu9.out.size)
  have HMW5 : Hid (Below u5.heap.size u5 W5) := HMu9.out.trans (HBW5.out.mono HMu9.out.size)
  have ex2 : decide (([-1, 2, 3] : List Int) = [-1, 2, 3]) = true := by decide
  have HI2 := Lib.hid (refSameClause_any C5 (some ⟨b5, 0, none⟩) 3 3 e5 3 [-1, 2, 3] [-1, 2, 3] W5 rfl rfl (HN5.out W5 HMW5.out) HRW5.out (by decide))
  rw [ex2] at HI2
  have HC := Lib.hid (HI2.out)
  go_wp2_with (go_at_call 31; refine HC.out.mono ?_)
  first | rintro _ u10 rfl hb | rintro _ u10 ⟨rfl, hb⟩
  have HBu10 := Lib.hid hb
  have HTu10 : Hid (Below w.heap.size w u10) := HTW5.out.trans (hb.mono HTW5.out.size)
  
  clear hb HC
  have HLu10 : Hid (Below u1.heap.size u1 u10) := HLW5.out.trans (HBu10.out.mono HLW5.out.size)
  clear hW5 hb5
  clear HI2 ex2 HN5
  obtain ⟨b6, hb6⟩ : ∃ b, u10.heap.size = b := ⟨_, rfl⟩
  obtain ⟨W6, hW6⟩ : ∃ W, u10.alloc (.cells #[.int .i64 (-2)] 3) = W := ⟨_, rfl⟩
  have HRW6 : Hid (IRow W6 (some ⟨b6, 0, none⟩) [-2]) := by show IRow _ _ _; rw [← hW6, ← hb6]; exact irow_new _ _ _ _ rfl
  have HBW6 : Hid (Below u10.heap.size u10 W6) := by rw [← hW6]; exact (Below.refl _ _).alloc (Nat.le_refl _) _
  have HTW6 : Hid (Below w.heap.size w W6) := HTu10.out.trans (HBW6.out.mono HTu10.out.size)
  have HLW6 : Hid (Below u1.heap.size u1 W6) := HLu10.out.trans (HBW6.out.mono HLu10.out.size)
  obtain ⟨b7, hb7⟩ : ∃ b, W6.heap.size = b := ⟨_, rfl⟩
  obtain ⟨W7, hW7⟩ : ∃ W, W6.alloc (.cells #[.bool true, .bool false] 4) = W := ⟨_, rfl⟩
  have HRW7 : Hid (BRow W7 (some ⟨b7, 0, none⟩) [true, false]) := by show BRow _ _ _; rw [← hW7, ← hb7]; exact row1_new (fun _ => rfl) _ _ _ _ rfl
  have HBW7 : Hid (Below W6.heap.size W6 W7) := by rw [← hW7]; exact (Below.refl _ _).alloc (Nat.le_refl _) _
  have HTW7 : Hid (Below w.heap.size w W7) := HTW6.out.trans (HBW7.out.mono HTW6.out.size)
  have HLW7 : Hid (Below u1.heap.size u1 W7) := HLW6.out.trans (HBW7.out.mono HLW6.out.size)
  have exh : holdsC [true, false] [-2] = true := by decide
  have HHO := Lib.hid (HHOC.out (some ⟨b6, 0, none⟩) (some ⟨b7, 0, none⟩) 1 2 1 2 [-2] [true, false] W7 rfl rfl (irow_below HRW6.out HBW7.out) HRW7.out (by decide) (by decide) (by unfold In64; decide) (HQQ.out W7 HTW7.out))
  rw [exh] at HHO
  have HC := Lib.hid (HHO.out)
  go_wp2_with (go_at_call 23; refine HC.out.mono ?_)
  first | rintro _ u11 rfl hb | rintro _ u11 ⟨rfl, hb⟩
  have HBu11 := Lib.hid hb
  have HTu11 : Hid (Below w.heap.size w u11) := HTW7.out.trans (hb.mono HTW7.out.size)
  
  clear hb HC
  have HLu11 : Hid (Below u1.heap.size u1 u11) := HLW7.out.trans (HBu11.out.mono HLW7.out.size)
  clear hW6 hb6 hW7 hb7
  clear HHO exh
  obtain ⟨b8, hb8⟩ : ∃ b, u11.heap.size = b := ⟨_, rfl⟩
  obtain ⟨W8, hW8⟩ : ∃ W, u11.alloc (.cells #[.int .i64 3, .int .i64 (-3)] 3) = W := ⟨_, rfl⟩
  have HRW8 : Hid (IRow W8 (some ⟨b8, 0, none⟩) [3, -3]) := by show IRow _ _ _; rw [← hW8, ← hb8]; exact irow_new _ _ _ _ rfl
  have HBW8 : Hid (Below u11.heap.size u11 W8) := by rw [← hW8]; exact (Below.refl _ _).alloc (Nat.le_refl _) _
  have HTW8 : Hid (Below w.heap.size w W8) := HTu11.out.trans (HBW8.out.mono HTu11.out.size)
  have HLW8 : Hid (Below u1.heap.size u1 W8) := HLu11.out.trans (HBW8.out.mono HLu11.out.size)
  obtain ⟨b9, hb9⟩ : ∃ b, W8.heap.size = b := ⟨_, rfl⟩
  obtain ⟨W9, hW9⟩ : ∃ W, W8.alloc (.cells #[.bool true, .bool false] 4) = W := ⟨_, rfl⟩
  have HRW9 : Hid (BRow W9 (some ⟨b9, 0, none⟩) [true, false]) := by show BRow _ _ _; rw [← hW9, ← hb9]; exact row1_new (fun _ => rfl) _ _ _ _ rfl
  have HBW9 : Hid (Below W8.heap.size W8 W9) := by rw [← hW9]; exact (Below.refl _ _).alloc (Nat.le_refl _) _
  have HTW9 : Hid (Below w.heap.size w W9) := HTW8.out.trans (HBW9.out.mono HTW8.out.size)
  have HLW9 : Hid (Below u1.heap.size u1 W9) := HLW8.out.trans (HBW9.out.mono HLW8.out.size)
  have exh : holdsC [true, false] [3, -3] = false := by decide
  have HHO := Lib.hid (HHOC.out (some ⟨b8, 0, none⟩) (some ⟨b9, 0, none⟩) 2 2 2 2 [3, -3] [true, false] W9 rfl rfl (irow_below HRW8.out HBW9.out) HRW9.out (by decide) (by decide) (by unfold In64; decide) (HQQ.out W9 HTW9.out))
  rw [exh] at HHO
  have HC := Lib.hid (HHO.out)
  go_wp2_with (go_at_call 23; refine HC.out.mono ?_)
  first | rintro _ u12 rfl hb | rintro _ u12 ⟨rfl, hb⟩
  have HBu12 := Lib.hid hb
  have HTu12 : Hid (Below w.heap.size w u12) := HTW9.out.trans (hb.mono HTW9.out.size)
  
  clear hb HC
  have HLu12 : Hid (Below u1.heap.size u1 u12) := HLW9.out.trans (HBu12.out.mono HLW9.out.size)
  clear hW8 hb8 hW9 hb9
  clear HHO exh
  obtain ⟨b10, hb10⟩ : ∃ b, u12.heap.size = b := ⟨_, rfl⟩
  obtain ⟨W10, hW10⟩ : ∃ W, u12.alloc (.cells #[.bool true, .bool true, .bool true] 4) = W := ⟨_, rfl⟩
  have HRW10 : Hid (BRow W10 (some ⟨b10, 0, none⟩) [true, true, true]) := by show BRow _ _ _; rw [← hW10, ← hb10]; exact row1_new (fun _ => rfl) _ _ _ _ rfl
  have HBW10 : Hid (Below u12.heap.size u12 W10) := by rw [← hW10]; exact (Below.refl _ _).alloc (Nat.le_refl _) _
  have HTW10 : Hid (Below w.heap.size w W10) := HTu12.out.trans (HBW10.out.mono HTu12.out.size)
  have HLW10 : Hid (Below u1.heap.size u1 W10) := HLu12.out.trans (HBW10.out.mono HLu12.out.size)
  have exf : firstH [true, true, true] 0 [[1, -2], []] = 1 := by decide
  have HFO := Lib.hid (HFIC.out C1 (some ⟨b10, 0, none⟩) 2 3 e1 3 [[1, -2], []] [true, true, true] W10 rfl rfl (HGL.out W10 HLW10.out) HRW10.out (by decide) (by decide) (by decide) (by unfold In64; decide) (HQQ.out W10 HTW10.out))
  rw [exf] at HFO
  have HC := Lib.hid (HFO.out)
  go_wp2_with (go_at_call 28; refine HC.out.mono ?_)
  first | rintro _ u13 rfl hb | rintro _ u13 ⟨rfl, hb⟩
  have HBu13 := Lib.hid hb
  have HTu13 : Hid (Below w.heap.size w u13) := HTW10.out.trans (hb.mono HTW10.out.size)
  
  clear hb HC
  have HLu13 : Hid (Below u1.heap.size u1 u13) := HLW10.out.trans (HBu13.out.mono HLW10.out.size)
  clear hW10 hb10
  clear HFO exf
  obtain ⟨b11, hb11⟩ : ∃ b, u13.heap.size = b := ⟨_, rfl⟩
  obtain ⟨W11, hW11⟩ : ∃ W, u13.alloc (.cells #[.int .i64 0] 3) = W := ⟨_, rfl⟩
  have HRW11 : Hid (IRow W11 (some ⟨b11, 0, none⟩) [0]) := by show IRow _ _ _; rw [← hW11, ← hb11]; exact irow_new _ _ _ _ rfl
  have HBW11 : Hid (Below u13.heap.size u13 W11) := by rw [← hW11]; exact (Below.refl _ _).alloc (Nat.le_refl _) _
  have HTW11 : Hid (Below w.heap.size w W11) := HTu13.out.trans (HBW11.out.mono HTu13.out.size)
  have HLW11 : Hid (Below u1.heap.size u1 W11) := HLu13.out.trans (HBW11.out.mono HLu13.out.size)
  have exc : checkC 2 [0] = 11 := by decide
  have HCO := Lib.hid (HCKC.out 2 (some ⟨b11, 0, none⟩) 1 1 [0] W11 rfl HRW11.out (by decide) (HQQ.out W11 HTW11.out))
  rw [exc] at HCO
  have HC := Lib.hid (HCO.out)
  go_wp2_with (go_at_call 16; refine HC.out.mono ?_)
  first | rintro _ u14 rfl hb | rintro _ u14 ⟨rfl, hb⟩
  have HBu14 := Lib.hid hb
  have HTu14 : Hid (Below w.heap.size w u14) := HTW11.out.trans (hb.mono HTW11.out.size)
  
  clear hb HC
  have HLu14 : Hid (Below u1.heap.size u1 u14) := HLW11.out.trans (HBu14.out.mono HLW11.out.size)
  clear hW11 hb11
  clear HCO exc
  have exd : checkC (-1) [] = 1 := by decide
  have HCO := Lib.hid (HCKC.out (-1) none 0 0 [] u14 rfl (irow_nil _ _) (by decide) (HQQ.out u14 HTu14.out))
  rw [exd] at HCO
  have HC := Lib.hid (HCO.out)
  go_wp2_with (go_at_call 16; refine HC.out.mono ?_)
  first | rintro _ u15 rfl hb | rintro _ u15 ⟨rfl, hb⟩
  have HBu15 := Lib.hid hb
  have HTu15 : Hid (Below w.heap.size w u15) := HTu14.out.trans (hb.mono HTu14.out.size)
  
  clear hb HC
  have HLu15 : Hid (Below u1.heap.size u1 u15) := HLu14.out.trans (HBu15.out.mono HLu14.out.size)
  go_wp2_with fail
  go_ret
  exact ⟨by simp, HTu15.out⟩
end Go.Proofs.YtoioeekfnnoaoaaGreatDoor
