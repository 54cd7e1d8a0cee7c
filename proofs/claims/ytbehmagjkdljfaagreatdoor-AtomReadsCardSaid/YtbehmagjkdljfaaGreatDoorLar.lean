/- The law AtomReads, walked. -/
import Derived.Test.YtbehmagjkdljfaaGreatDoorTg
namespace Go.Proofs.YtbehmagjkdljfaaGreatDoor
open Go.RowKit Rs At
attribute [local go_sem ↓] Go.wp_at_zero Go.wp_at_succ
set_option maxRecDepth 100000 in
set_option maxHeartbeats 6400000 in
theorem atomReads_any (s : List UInt8) (w : World) (hw : MaxOk w) (hm : s.length ≤ maxLen) :
    Calls Tryz.prog 4 #[.string ⟨s.toArray⟩] w fun e w' => e = .returned (.bool true) ∧ Below w.heap.size w w' := by
  unfold maxLen at hm
  have HS0 : Hid (St w w []) := ⟨hw, Below.refl _ _, fun x hx => (by cases hx)⟩
  have HW0 : Hid (Below w.heap.size w w ∧ w.heap.size ≤ w.heap.size) := ⟨Below.refl _ _, Nat.le_refl _⟩
  clear hw
  by_cases h1 : 1000 < s.length
  · have d0 : decide ((1000 : Int) < (s.length : Int)) = true := decide_eq_true (by omega)
    clear h1
    go_enter Tryz.func4, Tryz.ntmps4
    go_wp2_with fail
    refine (s_known4 HS0.out).mono ?_
    rintro _ u1 ⟨rfl, hs⟩
    have HS1 := Lib.hid hs
    clear hs
    go_wp2_with fail
    go_ret
    exact ⟨rfl, HS1.out.2.1⟩
  have d0 : decide ((1000 : Int) < (s.length : Int)) = false := decide_eq_false (by omega)
  have HL : Hid (s.length ≤ 1000) := by show _ ≤ _; omega
  obtain ⟨X, hX⟩ : ∃ X, parseA s = X := ⟨_, rfl⟩
  obtain ⟨k, a⟩ := X
  obtain ⟨nm, l⟩ := a
  have HX := Lib.hid hX
  have HRN : Hid (k = 0 ∨ l.length ≤ 1000) := by
    by_cases h0 : k = 0
    · exact Or.inl h0
    · refine Or.inr ?_
      have := parse_bad hX h0
      rw [this]; exact Nat.zero_le _
  have HLN : Hid (l.length ≤ 1000) := by
    rcases HRN.out with h0 | h0
    · subst h0
      have := good_n (check_parts (parse_check hX)).2.1
      show l.length ≤ 1000
      have h64 : l.length ≤ 64 := this
      omega
    · exact h0
  clear hX h1 HRN
  go_enter Tryz.func4, Tryz.ntmps4
  go_wp2_with fail
  refine (s_known4 HS0.out).mono ?_
  rintro _ u1 ⟨rfl, hs⟩
  have HW1 : Hid (Below w.heap.size w u1 ∧ w.heap.size ≤ u1.heap.size) := ⟨HW0.out.1.trans (hs.2.1.mono HW0.out.2), Nat.le_trans HW0.out.2 hs.2.1.size⟩
  have HS1 := Lib.hid (st_base hs)
  clear HS0 HW0 
  clear hs
  go_wp2_with fail
  refine (s4_parse HS1.out s HL.out k nm l HX.out).mono ?_
  rintro _ u2 ⟨C2, n2, e2, rfl, hs⟩
  have HW2 : Hid (Below w.heap.size w u2 ∧ w.heap.size ≤ u2.heap.size) := ⟨HW1.out.1.trans (hs.2.1.mono HW1.out.2), Nat.le_trans HW1.out.2 hs.2.1.size⟩
  have HS2 := Lib.hid (st_base hs)
  clear HS1 HW1 
  clear hs
  have hnw := bk_new u2 nm C2 n2 e2 30
  have hba := (Below.refl u2.heap.size u2).alloc (Nat.le_refl _) (.cells #[.string ⟨List.toArray nm⟩, .slice C2 n2 e2] 30)
  obtain ⟨v3, hv3⟩ : ∃ v, u2.alloc (.cells #[.string ⟨List.toArray nm⟩, .slice C2 n2 e2] 30) = v := ⟨_, rfl⟩
  rw [hv3] at hnw hba
  have HW3 : Hid (Below w.heap.size w v3 ∧ w.heap.size ≤ v3.heap.size) := ⟨HW2.out.1.trans (hba.mono HW2.out.2), Nat.le_trans HW2.out.2 hba.size⟩
  have HS3 := Lib.hid (st_base (st_step HS2.out hba))
  clear HS2 HW2 
  have HXa : Hid (Bk u2.heap.size nm C2 n2 e2 v3) := hnw
  clear hnw hba
  obtain ⟨a0, a1⟩ := HXa.out.1
  go_wp2_with fail
  clear hv3
  refine (s4_refParse HS3.out s HL.out k nm l HX.out).mono ?_
  rintro _ u4 ⟨C4, n4, e4, rfl, hs⟩
  have HW4 : Hid (Below w.heap.size w u4 ∧ w.heap.size ≤ u4.heap.size) := ⟨HW3.out.1.trans (hs.2.1.mono HW3.out.2), Nat.le_trans HW3.out.2 hs.2.1.size⟩
  have HXa : Hid (Bk u2.heap.size nm C2 n2 e2 u4) := bk_step HXa.out hs.2.1
  have HS4 := Lib.hid (st_base hs)
  clear HS3 HW3 a0 a1
  clear hs
  obtain ⟨a0, a1⟩ := HXa.out.1
  have hnw := bk_new u4 nm C4 n4 e4 24
  have hba := (Below.refl u4.heap.size u4).alloc (Nat.le_refl _) (.cells #[.string ⟨List.toArray nm⟩, .slice C4 n4 e4] 24)
  obtain ⟨v5, hv5⟩ : ∃ v, u4.alloc (.cells #[.string ⟨List.toArray nm⟩, .slice C4 n4 e4] 24) = v := ⟨_, rfl⟩
  rw [hv5] at hnw hba
  have HW5 : Hid (Below w.heap.size w v5 ∧ w.heap.size ≤ v5.heap.size) := ⟨HW4.out.1.trans (hba.mono HW4.out.2), Nat.le_trans HW4.out.2 hba.size⟩
  have HXa : Hid (Bk u2.heap.size nm C2 n2 e2 v5) := bk_step HXa.out hba
  have HS5 := Lib.hid (st_base (st_step HS4.out hba))
  clear HS4 HW4 a0 a1
  have HXr : Hid (Bk u4.heap.size nm C4 n4 e4 v5) := hnw
  clear hnw hba
  obtain ⟨a0, a1⟩ := HXa.out.1
  obtain ⟨r0, r1⟩ := HXr.out.1
  go_wp2_with fail
  clear hv5
  have HQ0 := Lib.hid (st_step HS5.out (Below.refl v5.heap.size v5).drew)
  go_region_held3 (fun w' => w'.cell? ⟨u2.heap.size, 0, none⟩ = some (.string ⟨List.toArray nm⟩) ∧ w'.cell? ⟨u2.heap.size, 1, none⟩ = some (.slice C2 n2 e2) ∧ w'.cell? ⟨u4.heap.size, 0, none⟩ = some (.string ⟨List.toArray nm⟩) ∧ w'.cell? ⟨u4.heap.size, 1, none⟩ = some (.slice C4 n4 e4))
    (first
      | exact ⟨(bx2_below HXa.out.1 HXa.out.2 HQ0.out.2.1).1, (bx2_below HXa.out.1 HXa.out.2 HQ0.out.2.1).2, (bx2_below HXr.out.1 HXr.out.2 HQ0.out.2.1).1, (bx2_below HXr.out.1 HXr.out.2 HQ0.out.2.1).2⟩
      | exact ⟨(bx2_below HXa.out.1 HXa.out.2 HQ1.out.2.1).1, (bx2_below HXa.out.1 HXa.out.2 HQ1.out.2.1).2, (bx2_below HXr.out.1 HXr.out.2 HQ1.out.2.1).1, (bx2_below HXr.out.1 HXr.out.2 HQ1.out.2.1).2⟩
      | exact ⟨(bx2_below HXa.out.1 HXa.out.2 HQ2.out.2.1).1, (bx2_below HXa.out.1 HXa.out.2 HQ2.out.2.1).2, (bx2_below HXr.out.1 HXr.out.2 HQ2.out.2.1).1, (bx2_below HXr.out.1 HXr.out.2 HQ2.out.2.1).2⟩)
    (first
      | (go_at_call 13; refine (s4_refSame HQ1.out 0 1 rfl rfl (by have := (st_row HQ1.out 0 rfl).2; have := HLN.out; omega) (by have := (st_row HQ1.out 1 rfl).2; have := HLN.out; omega) _ _ nm nm true (by simp)).mono ?_; rintro _ z2 ⟨rfl, hs⟩; have HQ2 := Lib.hid hs; clear hs)
      | (go_at_call 19; refine (s4_of HQ0.out 1 rfl (by have := (st_row HQ0.out 1 rfl).2; have := HLN.out; omega) _ nm).mono ?_; rintro _ z1 ⟨D1, m1, g1, rfl, hs⟩; have HQ1 := Lib.hid hs; clear hs))
  have HW6 : Hid (Below w.heap.size w z2 ∧ w.heap.size ≤ z2.heap.size) := ⟨HW5.out.1.trans (HQ2.out.2.1.mono HW5.out.2), Nat.le_trans HW5.out.2 HQ2.out.2.1.size⟩
  have HXa : Hid (Bk u2.heap.size nm C2 n2 e2 z2) := bk_step HXa.out HQ2.out.2.1
  have HXr : Hid (Bk u4.heap.size nm C4 n4 e4 z2) := bk_step HXr.out HQ2.out.2.1
  have HS6 := Lib.hid (st_base HQ2.out)
  clear HS5 HW5 a0 a1 r0 r1
  clear HQ0 HQ1 HQ2
  obtain ⟨a0, a1⟩ := HXa.out.1
  obtain ⟨r0, r1⟩ := HXr.out.1
  by_cases hk0 : k = 0
  case neg =>
    have hne : (k != 0) = true := by simpa using hk0
    clear hk0
    go_wp2_with fail
    go_ret
    exact ⟨rfl, HW6.out.1⟩
  subst hk0
  have HCH : Hid (checkA ⟨nm, l⟩ = 0) := parse_check HX.out
  have HNM : Hid (nm.length ≤ 100) := Nat.le_trans (name_len (check_parts HCH.out).1) (by decide)
  have HCR : Hid (checkR l = 0) := (check_parts HCH.out).2.1
  obtain ⟨t, ht⟩ : ∃ t, textA ⟨nm, l⟩ = t := ⟨_, rfl⟩
  have HT := Lib.hid ht
  have HTL : Hid (t.length ≤ 1000) := by show _ ≤ _; rw [← ht]; exact text_le HCH.out
  have HPT : Hid (parseA t = (0, ⟨nm, l⟩)) := by show _ = _; rw [← ht]; exact parse_text HCH.out
  clear ht
  go_wp2_with fail
  refine (s4_text HS6.out 2 rfl _ nm HNM.out HCR.out t HT.out).mono ?_
  rintro _ u7 ⟨rfl, hs⟩
  have HW7 : Hid (Below w.heap.size w u7 ∧ w.heap.size ≤ u7.heap.size) := ⟨HW6.out.1.trans (hs.2.1.mono HW6.out.2), Nat.le_trans HW6.out.2 hs.2.1.size⟩
  have HXa : Hid (Bk u2.heap.size nm C2 n2 e2 u7) := bk_step HXa.out hs.2.1
  have HXr : Hid (Bk u4.heap.size nm C4 n4 e4 u7) := bk_step HXr.out hs.2.1
  have HS7 := Lib.hid (st_base hs)
  clear HS6 HW6 a0 a1 r0 r1
  clear hs
  obtain ⟨a0, a1⟩ := HXa.out.1
  obtain ⟨r0, r1⟩ := HXr.out.1
  go_wp2_with fail
  refine (s4_parse HS7.out t HTL.out 0 nm l HPT.out).mono ?_
  rintro _ u8 ⟨C8, n8, e8, rfl, hs⟩
  have HW8 : Hid (Below w.heap.size w u8 ∧ w.heap.size ≤ u8.heap.size) := ⟨HW7.out.1.trans (hs.2.1.mono HW7.out.2), Nat.le_trans HW7.out.2 hs.2.1.size⟩
  have HXa : Hid (Bk u2.heap.size nm C2 n2 e2 u8) := bk_step HXa.out hs.2.1
  have HXr : Hid (Bk u4.heap.size nm C4 n4 e4 u8) := bk_step HXr.out hs.2.1
  have HS8 := Lib.hid (st_base hs)
  clear HS7 HW7 a0 a1 r0 r1
  clear hs
  obtain ⟨a0, a1⟩ := HXa.out.1
  obtain ⟨r0, r1⟩ := HXr.out.1
  have hnw := bk_new u8 nm C8 n8 e8 30
  have hba := (Below.refl u8.heap.size u8).alloc (Nat.le_refl _) (.cells #[.string ⟨List.toArray nm⟩, .slice C8 n8 e8] 30)
  obtain ⟨v9, hv9⟩ : ∃ v, u8.alloc (.cells #[.string ⟨List.toArray nm⟩, .slice C8 n8 e8] 30) = v := ⟨_, rfl⟩
  rw [hv9] at hnw hba
  have HW9 : Hid (Below w.heap.size w v9 ∧ w.heap.size ≤ v9.heap.size) := ⟨HW8.out.1.trans (hba.mono HW8.out.2), Nat.le_trans HW8.out.2 hba.size⟩
  have HXa : Hid (Bk u2.heap.size nm C2 n2 e2 v9) := bk_step HXa.out hba
  have HXr : Hid (Bk u4.heap.size nm C4 n4 e4 v9) := bk_step HXr.out hba
  have HS9 := Lib.hid (st_base (st_step HS8.out hba))
  clear HS8 HW8 a0 a1 r0 r1
  have HXc : Hid (Bk u8.heap.size nm C8 n8 e8 v9) := hnw
  clear hnw hba
  obtain ⟨a0, a1⟩ := HXa.out.1
  obtain ⟨r0, r1⟩ := HXr.out.1
  obtain ⟨c0, c1⟩ := HXc.out.1
  go_wp2_with fail
  clear hv9
  refine (s4_check HS9.out 3 rfl (by have := (st_row HS9.out 3 rfl).2; have := HLN.out; omega) _ nm (by have := HNM.out; unfold maxLen; omega) 0 HCH.out).mono ?_
  rintro _ u10 ⟨rfl, hs⟩
  have HW10 : Hid (Below w.heap.size w u10 ∧ w.heap.size ≤ u10.heap.size) := ⟨HW9.out.1.trans (hs.2.1.mono HW9.out.2), Nat.le_trans HW9.out.2 hs.2.1.size⟩
  have HXa : Hid (Bk u2.heap.size nm C2 n2 e2 u10) := bk_step HXa.out hs.2.1
  have HXr : Hid (Bk u4.heap.size nm C4 n4 e4 u10) := bk_step HXr.out hs.2.1
  have HXc : Hid (Bk u8.heap.size nm C8 n8 e8 u10) := bk_step HXc.out hs.2.1
  have HS10 := Lib.hid (st_base hs)
  clear HS9 HW9 a0 a1 r0 r1 c0 c1
  clear hs
  obtain ⟨a0, a1⟩ := HXa.out.1
  obtain ⟨r0, r1⟩ := HXr.out.1
  obtain ⟨c0, c1⟩ := HXc.out.1
  go_wp2_with fail
  refine (s4_same HS10.out 0 3 rfl rfl (by have := (st_row HS10.out 0 rfl).2; have := HLN.out; omega) (by have := (st_row HS10.out 3 rfl).2; have := HLN.out; omega) _ _ nm nm true (by simp)).mono ?_
  rintro _ u11 ⟨rfl, hs⟩
  have HW11 : Hid (Below w.heap.size w u11 ∧ w.heap.size ≤ u11.heap.size) := ⟨HW10.out.1.trans (hs.2.1.mono HW10.out.2), Nat.le_trans HW10.out.2 hs.2.1.size⟩
  have HXa : Hid (Bk u2.heap.size nm C2 n2 e2 u11) := bk_step HXa.out hs.2.1
  have HXr : Hid (Bk u4.heap.size nm C4 n4 e4 u11) := bk_step HXr.out hs.2.1
  have HXc : Hid (Bk u8.heap.size nm C8 n8 e8 u11) := bk_step HXc.out hs.2.1
  have HS11 := Lib.hid (st_base hs)
  clear HS10 HW10 a0 a1 r0 r1 c0 c1
  clear hs
  obtain ⟨a0, a1⟩ := HXa.out.1
  obtain ⟨r0, r1⟩ := HXr.out.1
  obtain ⟨c0, c1⟩ := HXc.out.1
  go_wp2_with fail
  go_ret
  exact ⟨rfl, HW11.out.1⟩
end Go.Proofs.YtbehmagjkdljfaaGreatDoor
