/- The law AtomPoints, walked. -/
import Derived.Test.YtbehmagjkdljfaaGreatDoorNe
namespace Go.Proofs.YtbehmagjkdljfaaGreatDoor
open Go.RowKit Rs At Pt
attribute [local go_sem ↓] Go.wp_at_zero Go.wp_at_succ
/-- Decimal, at a number of its own form. -/
theorem dec_at (n : Nat) (hn : n < 1000) (x : Int) (v : List UInt8) (hx : (n : Int) = x) (hv : decT n = v) (w : World) :
    Calls Tryz.prog 21 #[.int .u64 x] w fun e w' => e = .returned (.string ⟨v.toArray⟩) ∧ Below w.heap.size w w' := by
  subst hx hv; exact decT_any n (by omega) w
theorem cat_to {a b c : List UInt8} (h : a ++ b = c) (hl : c.length ≤ 1000) : ∀ W : World, (Op.stringOp .add ⟨a.toArray⟩ ⟨b.toArray⟩).run Tryz.prog W = .ok (.string ⟨c.toArray⟩) W := fun W => by
  subst h
  rw [List.length_append] at hl
  rw [cat_run _ _ (by show a.toArray.size + b.toArray.size ≤ _; rw [List.size_toArray, List.size_toArray]; omega) W, ByteArray.mk_append_mk]
set_option maxRecDepth 100000 in
set_option maxHeartbeats 16000000 in
theorem atomPoints_true (n : Nat) (hn : n ≤ 255) (w : World) (hw : MaxOk w) :
    Calls Tryz.prog 5 #[.int .u8 n, .bool true] w fun e w' => e = .returned (.bool true) ∧ Below w.heap.size w w' := by
  have HW0 : Hid (Below w.heap.size w w ∧ w.heap.size ≤ w.heap.size) := ⟨Below.refl _ _, Nat.le_refl _⟩
  have HS0 : Hid (St w w []) := ⟨hw, Below.refl _ _, fun x hx => (by cases hx)⟩
  obtain ⟨m, hm⟩ : ∃ m, n % 18 = m := ⟨_, rfl⟩
  have hk1 : m ≤ 17 := by omega
  have e1 : (n : Int) % 18 = (m : Int) := by omega
  have e2 : (1 : Int) + (m : Int) = ((m + 1 : Nat) : Int) := by omega
  have e3 : IntKind.i64.wrap ((m + 1 : Nat) : Int) = ((m + 1 : Nat) : Int) := IntWalk.i64_in _ (by omega)
  have n0 : (0 : Int) ≤ (n : Int) := by omega
  clear hm hw
  go_enter Tryz.func5, Tryz.ntmps5
  go_wp2_with fail
  refine (s_known4 HS0.out).mono ?_
  rintro _ u1 ⟨rfl, hs⟩
  have HW1 : Hid (Below w.heap.size w u1 ∧ w.heap.size ≤ u1.heap.size) := ⟨HW0.out.1.trans (hs.2.1.mono HW0.out.2), Nat.le_trans HW0.out.2 hs.2.1.size⟩
  have HS1 := Lib.hid (st_base hs)
  clear HS0 HW0 
  clear hs
  go_wp2_with fail
  clear e1 e2 e3 n0 hn
  go_loopw [6, 7] (fun s i wr => ∃ j : Nat, j ≤ m + 1 ∧ s = .string ⟨(txtP true j).toArray⟩ ∧ i = .int .i64 j ∧ Hid (Below u1.heap.size u1 wr)) (fun _ i _ => m + 1 - (intOf i).toNat)
  case atStart => exact ⟨0, Nat.zero_le _, rfl, rfl, Below.refl _ _⟩
  case round =>
      obtain ⟨j, hj, rfl, rfl, HB⟩ := hrel
      by_cases hlt : j < m + 1
      · have hd2 := (dec_p (k := j + 1) (by omega)).2
        have hln := len_p (t := true) (k := j) (by omega)
        have HDC : Hid (∀ W : World, Calls Tryz.prog 21 #[.int .u64 ((j : Int) + 1)] W fun e w' => e = .returned (.string ⟨(decT (j + 1)).toArray⟩) ∧ Below W.heap.size W w') := fun W => dec_at (j + 1) (by omega) _ _ (by omega) rfl W
        have hnx : txtP true (j + 1) = txtP true j ++ sepP true j ++ sgnP true ++ decT (j + 1) := rfl
        obtain ⟨d, hd⟩ : ∃ d, decT (j + 1) = d := ⟨_, rfl⟩
        rw [hd] at hd2 hnx HDC
        have ij : (j : Int) < (m : Int) + 1 := by omega
        have iw : IntKind.i64.wrap ((j : Int) + 1) = (j : Int) + 1 := IntWalk.i64_in _ (by omega)
        have uw : IntKind.u64.wrap ((j : Int) + 1) = (j : Int) + 1 := IntWalk.u64_in _ (by omega)
        by_cases h0 : j = 0
        · subst h0
          have hnx0 : [97, 32, 40, 61, 32] ++ d = txtP true (0 + 1) := hnx.symm
          have hl : (txtP true (0 + 1)).length ≤ 1000 := Nat.le_trans (len_p (by omega)) (by decide)
          have f1 := cat_to (a := [97, 32, 40]) (b := [61, 32]) rfl (by decide)
          have f2 := cat_to hnx0 hl
          have hz : txtP true 0 = [97, 32, 40] := rfl
          rw [hz]
          clear hnx hnx0 hl hd hz hln
          go_wp2_with fail
          refine (HDC.out _).mono ?_
          rintro _ w1 ⟨rfl, hb⟩
          have HB1 := Lib.hid (HB.out.trans (hb.mono HB.out.size))
          clear hb
          go_wp2_with fail
          go_roundw
          case rel => exact ⟨0 + 1, by omega, rfl, by go_num, HB1⟩
          case measure => simp [intOf]
        · have i0 : (0 : Int) < (j : Int) := by omega
          have hsep : sepP true j = [32, 124, 32] := if_neg h0
          rw [hsep] at hnx
          obtain ⟨s0, hs0⟩ : ∃ s, txtP true j = s := ⟨_, rfl⟩
          obtain ⟨s3, hs3⟩ : ∃ s, txtP true (j + 1) = s := ⟨_, rfl⟩
          obtain ⟨s1, hs1⟩ : ∃ s, s0 ++ [32, 124, 32] = s := ⟨_, rfl⟩
          obtain ⟨s2, hs2⟩ : ∃ s, s1 ++ [61, 32] = s := ⟨_, rfl⟩
          rw [hs0] at hln
          have hnx3 : s2 ++ d = s3 := by rw [← hs2, ← hs1, ← hs3, hnx, ← hs0]; rfl
          have hl1 : s1.length ≤ 210 := by rw [← hs1, List.length_append]; show _ + 3 ≤ _; omega
          have hl2 : s2.length ≤ 220 := by rw [← hs2, List.length_append]; show _ + 2 ≤ _; omega
          have f1 := cat_to hs1 (by omega)
          have f2 := cat_to hs2 (by omega)
          have f3 := cat_to hnx3 (by rw [← hnx3, List.length_append]; omega)
          have HS3 := Lib.hid hs3
          rw [hs0]
          clear hnx hnx3 hl1 hl2 hd hln hs0 hs1 hs2 hs3 hsep
          go_wp2_with fail
          refine (HDC.out _).mono ?_
          rintro _ w1 ⟨rfl, hb⟩
          have HB1 := Lib.hid (HB.out.trans (hb.mono HB.out.size))
          clear hb
          go_wp2_with fail
          go_roundw
          case rel => exact ⟨j + 1, by omega, by rw [HS3.out], by go_num, HB1⟩
          case measure => simp [intOf]; omega
      · obtain rfl : j = m + 1 := by omega
        have ij : ¬ (((m + 1 : Nat) : Int) < (m : Int) + 1) := by omega
        obtain ⟨s, hs⟩ : ∃ s, txtP true (m + 1) = s := ⟨_, rfl⟩
        obtain ⟨o, ho⟩ : ∃ o, s ++ [41] = o := ⟨_, rfl⟩
        have hsl : s.length ≤ 200 := by rw [← hs]; exact len_p (by omega)
        have hol : o.length ≤ 1000 := by rw [← ho, List.length_append]; show _ + 1 ≤ _; omega
        have HOL := Lib.hid hol
        have f1 := cat_to ho hol
        have HTX : Hid (txtP true (m + 1) ++ [41] = o) := by show _ = _; rw [hs, ho]
        rw [hs]
        clear hol hs ho
        have HW2 : Hid (Below w.heap.size w wr ∧ w.heap.size ≤ wr.heap.size) := ⟨HW1.out.1.trans (HB.out.mono HW1.out.2), Nat.le_trans HW1.out.2 HB.out.size⟩
        have HS2 := Lib.hid (st_base (st_step HS1.out HB.out))
        clear HS1 HW1 
        clear HB
        obtain ⟨B, hB⟩ : ∃ b, badP true (m + 1) = b := ⟨_, rfl⟩
        have HBD := Lib.hid hB
        cases B
        case true =>
          have HPX : Hid (parseA o = (4, ⟨[], []⟩)) := by show _ = _; rw [← HTX.out]; exact bad_p (by omega) (by omega) hB
          have hbk : 16 < m + 1 := by unfold badP at hB; simp at hB; omega
          clear hB HTX
          have ik : (16 : Int) < (m : Int) + 1 := by omega
          clear hbk
          go_wp2_with fail
          refine (s4_parse HS2.out o HOL.out 4 [] [] HPX.out).mono ?_
          rintro _ u3 ⟨C3, n3, e3, rfl, hs⟩
          have HW3 : Hid (Below w.heap.size w u3 ∧ w.heap.size ≤ u3.heap.size) := ⟨HW2.out.1.trans (hs.2.1.mono HW2.out.2), Nat.le_trans HW2.out.2 hs.2.1.size⟩
          have HS3 := Lib.hid (st_base hs)
          clear HS2 HW2 
          clear hs
          obtain rfl : n3 = 0 := (st_row HS3.out 0 rfl).2.symm
          have hnw := bk_new u3 [] C3 0 e3 30
          have hba := (Below.refl u3.heap.size u3).alloc (Nat.le_refl _) (.cells #[.string ⟨#[]⟩, .slice C3 0 e3] 30)
          obtain ⟨v, hv⟩ : ∃ v, u3.alloc (.cells #[.string ⟨#[]⟩, .slice C3 0 e3] 30) = v := ⟨_, rfl⟩
          rw [hv] at hnw hba
          have HW4 : Hid (Below w.heap.size w v ∧ w.heap.size ≤ v.heap.size) := ⟨HW3.out.1.trans (hba.mono HW3.out.2), Nat.le_trans HW3.out.2 hba.size⟩
          have HS4 := Lib.hid (st_base (st_step HS3.out hba))
          clear HS3 HW3 
          obtain ⟨⟨a0, a1⟩, _⟩ := hnw
          clear hba
          go_wp2_with fail
          go_ret
          exact ⟨rfl, HW4.out.1⟩
        obtain ⟨l, hpl, hhs, htx⟩ := good_p (t := true) (k := m + 1) (by omega) (by omega) hB
        have hbk : m + 1 ≤ 16 := by unfold badP at hB; simp at hB; omega
        rw [HTX.out] at hpl htx
        have HPX := Lib.hid hpl
        have HHS := Lib.hid hhs
        have HXT : Hid (textA ⟨[97], l⟩ = o) := htx rfl
        have HCK : Hid (checkA ⟨[97], l⟩ = 0) := parse_check hpl
        have HCR : Hid (checkR l = 0) := (check_parts HCK.out).2.1
        clear hpl hhs htx hB HTX
        have ik : ¬ ((16 : Int) < (m : Int) + 1) := by omega
        go_wp2_with fail
        refine (s4_parse HS2.out o HOL.out 0 [97] l HPX.out).mono ?_
        rintro _ u3 ⟨C3, n3, e3, rfl, hs⟩
        have HW3 : Hid (Below w.heap.size w u3 ∧ w.heap.size ≤ u3.heap.size) := ⟨HW2.out.1.trans (hs.2.1.mono HW2.out.2), Nat.le_trans HW2.out.2 hs.2.1.size⟩
        have HS3 := Lib.hid (st_base hs)
        clear HS2 HW2 
        clear hs
        have hnw := bk_new u3 [97] C3 n3 e3 30
        have hba := (Below.refl u3.heap.size u3).alloc (Nat.le_refl _) (.cells #[.string ⟨List.toArray [97]⟩, .slice C3 n3 e3] 30)
        obtain ⟨v4, hv4⟩ : ∃ v, u3.alloc (.cells #[.string ⟨List.toArray [97]⟩, .slice C3 n3 e3] 30) = v := ⟨_, rfl⟩
        rw [hv4] at hnw hba
        have HW4 : Hid (Below w.heap.size w v4 ∧ w.heap.size ≤ v4.heap.size) := ⟨HW3.out.1.trans (hba.mono HW3.out.2), Nat.le_trans HW3.out.2 hba.size⟩
        have HS4 := Lib.hid (st_base (st_step HS3.out hba))
        clear HS3 HW3 
        have HXa : Hid (Bk u3.heap.size [97] C3 n3 e3 v4) := hnw
        clear hnw hba
        obtain ⟨a0, a1⟩ := HXa.out.1
        go_wp2_with fail
        clear hv4
        clear ik
        have HB0 : Hid (Below v4.heap.size v4 v4) := Below.refl _ _
        go_loopw [10] (fun i wr => ∃ q : Nat, q ≤ m + 3 ∧ i = .int .i64 q ∧ Hid (Below v4.heap.size v4 wr)) (fun i _ => m + 3 - (intOf i).toNat)
        case atStart => exact ⟨0, Nat.zero_le _, rfl, HB0⟩
        case round =>
          clear HB0
          obtain ⟨q, hq, rfl, HB⟩ := hrel
          have iw2 : IntKind.i64.wrap ((m : Int) + 1 + 1) = (m : Int) + 1 + 1 := IntWalk.i64_in _ (by omega)
          have iw4 : IntKind.i64.wrap ((m : Int) + 2) = (m : Int) + 2 := IntWalk.i64_in _ (by omega)
          by_cases hlt : q ≤ m + 2
          · have ij2 : (q : Int) ≤ (m : Int) + 1 + 1 := by omega
            have ij4 : (q : Int) ≤ (m : Int) + 2 := by omega
            have iw3 : IntKind.i64.wrap ((q : Int) + 1) = (q : Int) + 1 := IntWalk.i64_in _ (by omega)
            have uw : IntKind.u64.wrap (q : Int) = (q : Int) := IntWalk.u64_in _ (by omega)
            have i0 : (0 : Int) ≤ (q : Int) := by omega
            have HDC : Hid (∀ W : World, Calls Tryz.prog 21 #[.int .u64 (q : Int)] W fun e w' => e = .returned (.string ⟨(decT q).toArray⟩) ∧ Below W.heap.size W w') := fun W => dec_at q (by omega) _ _ rfl rfl W
            have hh := HHS.out q (by omega)
            have HVC : Hid (Vm.check (decT q) = 0) := (dec_p (by omega)).1
            obtain ⟨d, hd⟩ : ∃ d, decT q = d := ⟨_, rfl⟩
            rw [hd] at hh HDC HVC
            obtain ⟨b, hb0⟩ : ∃ b, hasR (l.map Sp.piece) d = b := ⟨_, rfl⟩
            rw [hb0] at hh
            have HHB := Lib.hid hb0
            have HLT := Lib.hid hlt
            clear hd hb0
            have HSR : Hid (St v4 wr [⟨C3, n3, l⟩]) := st_step HS4.out HB.out
            have HXR := Lib.hid (bk_step HXa.out HB.out)
            clear a0 a1
            obtain ⟨a0, a1⟩ := HXR.out.1
            have hcs : ((¬ (1 : Int) ≤ (q : Int) ∧ (q : Int) ≤ (m : Int) + 1) ∧ b = (false == true)) ∨ (((1 : Int) ≤ (q : Int) ∧ (q : Int) ≤ (m : Int) + 1) ∧ b = (true == true)) ∨ (((1 : Int) ≤ (q : Int) ∧ ¬ (q : Int) ≤ (m : Int) + 1) ∧ b = (false == true)) := by
              by_cases h1 : q = 0
              · refine Or.inl ⟨⟨by omega, by omega⟩, ?_⟩
                rw [hh, decide_eq_false (show ¬ 1 ≤ q by omega)]; rfl
              · by_cases h2 : q ≤ m + 1
                · refine Or.inr (Or.inl ⟨⟨by omega, by omega⟩, ?_⟩)
                  rw [hh, decide_eq_true (show 1 ≤ q by omega), decide_eq_true h2]; rfl
                · refine Or.inr (Or.inr ⟨⟨by omega, by omega⟩, ?_⟩)
                  rw [hh, decide_eq_true (show 1 ≤ q by omega), decide_eq_false h2]; rfl
            clear hh
            rcases hcs with ⟨⟨p1, p2⟩, rfl⟩ | ⟨⟨p1, p2⟩, rfl⟩ | ⟨⟨p1, p2⟩, rfl⟩
            · (
             go_wp2_with fail
             have HQ0 := Lib.hid (st_step HSR.out (Below.refl wr.heap.size wr).drew)
             first
             | (go_region_with (first
                   | (go_at_call 22; refine (s4_has HQ1.out 0 rfl HCR.out _ d HVC.out _ HHB.out).mono ?_; rintro _ z2 ⟨rfl, hs⟩; have HQ2 := Lib.hid hs; clear hs)
                   | (go_at_call 21; refine (HDC.out _).mono ?_; rintro _ z1 ⟨rfl, hs⟩; have HQ1 := Lib.hid (st_step HQ0.out hs); clear hs; obtain ⟨k0, k1⟩ := bx2_below HXa.out.1 HXa.out.2 HQ1.out.2.1)))
             | fail
             all_goals (
               have HB2 : Hid (Below v4.heap.size v4 z2) := HQ2.out.2.1
               clear HQ0 HQ1 HQ2 HSR HXR
               go_wp2_with fail
               go_roundw
               case rel => exact ⟨q + 1, (by have := HLT.out; omega), by go_num, HB2⟩
               case measure => have := HLT.out; simp [intOf]; omega))
            all_goals (
             go_wp2_with fail
             have HQ0 := Lib.hid (st_step HSR.out (Below.refl wr.heap.size wr).drew)
             (go_region_held3 (fun w' => w'.cell? ⟨u3.heap.size, 0, none⟩ = some (.string ⟨List.toArray [97]⟩) ∧ w'.cell? ⟨u3.heap.size, 1, none⟩ = some (.slice C3 n3 e3))
                 (first
                   | exact ⟨(bx2_below HXa.out.1 HXa.out.2 HQ0.out.2.1).1, (bx2_below HXa.out.1 HXa.out.2 HQ0.out.2.1).2⟩
                   | exact ⟨(bx2_below HXa.out.1 HXa.out.2 HQ1.out.2.1).1, (bx2_below HXa.out.1 HXa.out.2 HQ1.out.2.1).2⟩
                   | exact ⟨(bx2_below HXa.out.1 HXa.out.2 HQ2.out.2.1).1, (bx2_below HXa.out.1 HXa.out.2 HQ2.out.2.1).2⟩)
                 (first
                   | (go_at_call 22; refine (s4_has HQ1.out 0 rfl HCR.out _ d HVC.out _ HHB.out).mono ?_; rintro _ z2 ⟨rfl, hs⟩; have HQ2 := Lib.hid hs; clear hs)
                   | (go_at_call 21; refine (HDC.out _).mono ?_; rintro _ z1 ⟨rfl, hs⟩; have HQ1 := Lib.hid (st_step HQ0.out hs); clear hs)))
             all_goals (
               have HB2 : Hid (Below v4.heap.size v4 z2) := HQ2.out.2.1
               clear HQ0 HQ1 HQ2 HSR HXR
               go_wp2_with fail
               go_roundw
               case rel => exact ⟨q + 1, (by have := HLT.out; omega), by go_num, HB2⟩
               case measure => have := HLT.out; simp [intOf]; omega))
          · obtain rfl : q = m + 3 := by omega
            have ij2 : ¬ (((m + 3 : Nat) : Int) ≤ (m : Int) + 1 + 1) := by omega
            have ij4 : ¬ (((m + 3 : Nat) : Int) ≤ (m : Int) + 2) := by omega
            have ij5 : ¬ ((m : Int) + 3 ≤ (m : Int) + 2) := by omega
            have HXR := Lib.hid (bk_step HXa.out HB.out)
            clear a0 a1
            obtain ⟨a0, a1⟩ := HXR.out.1
            go_wp2_with fail
            refine (s4_text (st_step HS4.out HB.out) 0 rfl _ [97] (by decide) HCR.out o HXT.out).mono ?_
            rintro _ z ⟨rfl, hs⟩
            have HZ : Hid (Below w.heap.size w z) := HW4.out.1.trans (hs.2.1.mono HW4.out.2)
            clear hs
            go_wp2_with fail
            go_ret
            exact ⟨rfl, HZ.out⟩
set_option maxRecDepth 100000 in
set_option maxHeartbeats 16000000 in
theorem atomPoints_false (n : Nat) (hn : n ≤ 255) (w : World) (hw : MaxOk w) :
    Calls Tryz.prog 5 #[.int .u8 n, .bool false] w fun e w' => e = .returned (.bool true) ∧ Below w.heap.size w w' := by
  have HW0 : Hid (Below w.heap.size w w ∧ w.heap.size ≤ w.heap.size) := ⟨Below.refl _ _, Nat.le_refl _⟩
  have HS0 : Hid (St w w []) := ⟨hw, Below.refl _ _, fun x hx => (by cases hx)⟩
  obtain ⟨m, hm⟩ : ∃ m, n % 18 = m := ⟨_, rfl⟩
  have hk1 : m ≤ 17 := by omega
  have e1 : (n : Int) % 18 = (m : Int) := by omega
  have e2 : (1 : Int) + (m : Int) = ((m + 1 : Nat) : Int) := by omega
  have e3 : IntKind.i64.wrap ((m + 1 : Nat) : Int) = ((m + 1 : Nat) : Int) := IntWalk.i64_in _ (by omega)
  have n0 : (0 : Int) ≤ (n : Int) := by omega
  clear hm hw
  go_enter Tryz.func5, Tryz.ntmps5
  go_wp2_with fail
  refine (s_known4 HS0.out).mono ?_
  rintro _ u1 ⟨rfl, hs⟩
  have HW1 : Hid (Below w.heap.size w u1 ∧ w.heap.size ≤ u1.heap.size) := ⟨HW0.out.1.trans (hs.2.1.mono HW0.out.2), Nat.le_trans HW0.out.2 hs.2.1.size⟩
  have HS1 := Lib.hid (st_base hs)
  clear HS0 HW0 
  clear hs
  go_wp2_with fail
  clear e1 e2 e3 n0 hn
  go_loopw [6, 7] (fun s i wr => ∃ j : Nat, j ≤ m + 1 ∧ s = .string ⟨(txtP false j).toArray⟩ ∧ i = .int .i64 j ∧ Hid (Below u1.heap.size u1 wr)) (fun _ i _ => m + 1 - (intOf i).toNat)
  case atStart => exact ⟨0, Nat.zero_le _, rfl, rfl, Below.refl _ _⟩
  case round =>
      obtain ⟨j, hj, rfl, rfl, HB⟩ := hrel
      by_cases hlt : j < m + 1
      · have hd2 := (dec_p (k := j + 1) (by omega)).2
        have hln := len_p (t := false) (k := j) (by omega)
        have HDC : Hid (∀ W : World, Calls Tryz.prog 21 #[.int .u64 ((j : Int) + 1)] W fun e w' => e = .returned (.string ⟨(decT (j + 1)).toArray⟩) ∧ Below W.heap.size W w') := fun W => dec_at (j + 1) (by omega) _ _ (by omega) rfl W
        have hnx : txtP false (j + 1) = txtP false j ++ sepP false j ++ sgnP false ++ decT (j + 1) := rfl
        obtain ⟨d, hd⟩ : ∃ d, decT (j + 1) = d := ⟨_, rfl⟩
        rw [hd] at hd2 hnx HDC
        have ij : (j : Int) < (m : Int) + 1 := by omega
        have iw : IntKind.i64.wrap ((j : Int) + 1) = (j : Int) + 1 := IntWalk.i64_in _ (by omega)
        have uw : IntKind.u64.wrap ((j : Int) + 1) = (j : Int) + 1 := IntWalk.u64_in _ (by omega)
        by_cases h0 : j = 0
        · subst h0
          have hnx0 : [97, 32, 40, 33, 61, 32] ++ d = txtP false (0 + 1) := hnx.symm
          have hl : (txtP false (0 + 1)).length ≤ 1000 := Nat.le_trans (len_p (by omega)) (by decide)
          have f1 := cat_to (a := [97, 32, 40]) (b := [33, 61, 32]) rfl (by decide)
          have f2 := cat_to hnx0 hl
          have hz : txtP false 0 = [97, 32, 40] := rfl
          rw [hz]
          clear hnx hnx0 hl hd hz hln
          go_wp2_with fail
          refine (HDC.out _).mono ?_
          rintro _ w1 ⟨rfl, hb⟩
          have HB1 := Lib.hid (HB.out.trans (hb.mono HB.out.size))
          clear hb
          go_wp2_with fail
          go_roundw
          case rel => exact ⟨0 + 1, by omega, rfl, by go_num, HB1⟩
          case measure => simp [intOf]
        · have i0 : (0 : Int) < (j : Int) := by omega
          have hsep : sepP false j = [32, 38, 32] := if_neg h0
          rw [hsep] at hnx
          obtain ⟨s0, hs0⟩ : ∃ s, txtP false j = s := ⟨_, rfl⟩
          obtain ⟨s3, hs3⟩ : ∃ s, txtP false (j + 1) = s := ⟨_, rfl⟩
          obtain ⟨s1, hs1⟩ : ∃ s, s0 ++ [32, 38, 32] = s := ⟨_, rfl⟩
          obtain ⟨s2, hs2⟩ : ∃ s, s1 ++ [33, 61, 32] = s := ⟨_, rfl⟩
          rw [hs0] at hln
          have hnx3 : s2 ++ d = s3 := by rw [← hs2, ← hs1, ← hs3, hnx, ← hs0]; rfl
          have hl1 : s1.length ≤ 210 := by rw [← hs1, List.length_append]; show _ + 3 ≤ _; omega
          have hl2 : s2.length ≤ 220 := by rw [← hs2, List.length_append]; show _ + 3 ≤ _; omega
          have f1 := cat_to hs1 (by omega)
          have f2 := cat_to hs2 (by omega)
          have f3 := cat_to hnx3 (by rw [← hnx3, List.length_append]; omega)
          have HS3 := Lib.hid hs3
          rw [hs0]
          clear hnx hnx3 hl1 hl2 hd hln hs0 hs1 hs2 hs3 hsep
          go_wp2_with fail
          refine (HDC.out _).mono ?_
          rintro _ w1 ⟨rfl, hb⟩
          have HB1 := Lib.hid (HB.out.trans (hb.mono HB.out.size))
          clear hb
          go_wp2_with fail
          go_roundw
          case rel => exact ⟨j + 1, by omega, by rw [HS3.out], by go_num, HB1⟩
          case measure => simp [intOf]; omega
      · obtain rfl : j = m + 1 := by omega
        have ij : ¬ (((m + 1 : Nat) : Int) < (m : Int) + 1) := by omega
        obtain ⟨s, hs⟩ : ∃ s, txtP false (m + 1) = s := ⟨_, rfl⟩
        obtain ⟨o, ho⟩ : ∃ o, s ++ [41] = o := ⟨_, rfl⟩
        have hsl : s.length ≤ 200 := by rw [← hs]; exact len_p (by omega)
        have hol : o.length ≤ 1000 := by rw [← ho, List.length_append]; show _ + 1 ≤ _; omega
        have HOL := Lib.hid hol
        have f1 := cat_to ho hol
        have HTX : Hid (txtP false (m + 1) ++ [41] = o) := by show _ = _; rw [hs, ho]
        rw [hs]
        clear hol hs ho
        have HW2 : Hid (Below w.heap.size w wr ∧ w.heap.size ≤ wr.heap.size) := ⟨HW1.out.1.trans (HB.out.mono HW1.out.2), Nat.le_trans HW1.out.2 HB.out.size⟩
        have HS2 := Lib.hid (st_base (st_step HS1.out HB.out))
        clear HS1 HW1 
        clear HB
        obtain ⟨B, hB⟩ : ∃ b, badP false (m + 1) = b := ⟨_, rfl⟩
        have HBD := Lib.hid hB
        cases B
        case true =>
          have HPX : Hid (parseA o = (4, ⟨[], []⟩)) := by show _ = _; rw [← HTX.out]; exact bad_p (by omega) (by omega) hB
          have hbk : 8 < m + 1 := by unfold badP at hB; simp at hB; omega
          clear hB HTX
          have ik : (8 : Int) < (m : Int) + 1 := by omega
          clear hbk
          go_wp2_with fail
          refine (s4_parse HS2.out o HOL.out 4 [] [] HPX.out).mono ?_
          rintro _ u3 ⟨C3, n3, e3, rfl, hs⟩
          have HW3 : Hid (Below w.heap.size w u3 ∧ w.heap.size ≤ u3.heap.size) := ⟨HW2.out.1.trans (hs.2.1.mono HW2.out.2), Nat.le_trans HW2.out.2 hs.2.1.size⟩
          have HS3 := Lib.hid (st_base hs)
          clear HS2 HW2 
          clear hs
          obtain rfl : n3 = 0 := (st_row HS3.out 0 rfl).2.symm
          have hnw := bk_new u3 [] C3 0 e3 30
          have hba := (Below.refl u3.heap.size u3).alloc (Nat.le_refl _) (.cells #[.string ⟨#[]⟩, .slice C3 0 e3] 30)
          obtain ⟨v, hv⟩ : ∃ v, u3.alloc (.cells #[.string ⟨#[]⟩, .slice C3 0 e3] 30) = v := ⟨_, rfl⟩
          rw [hv] at hnw hba
          have HW4 : Hid (Below w.heap.size w v ∧ w.heap.size ≤ v.heap.size) := ⟨HW3.out.1.trans (hba.mono HW3.out.2), Nat.le_trans HW3.out.2 hba.size⟩
          have HS4 := Lib.hid (st_base (st_step HS3.out hba))
          clear HS3 HW3 
          obtain ⟨⟨a0, a1⟩, _⟩ := hnw
          clear hba
          by_cases h16 : (16 : Int) < (m : Int) + 1
          · go_wp2_with fail
            go_ret
            exact ⟨rfl, HW4.out.1⟩
          · go_wp2_with fail
            go_ret
            exact ⟨rfl, HW4.out.1⟩
        obtain ⟨l, hpl, hhs, htx⟩ := good_p (t := false) (k := m + 1) (by omega) (by omega) hB
        have hbk : m + 1 ≤ 8 := by unfold badP at hB; simp at hB; omega
        rw [HTX.out] at hpl htx
        have HPX := Lib.hid hpl
        have HHS := Lib.hid hhs
        skip
        have HCK : Hid (checkA ⟨[97], l⟩ = 0) := parse_check hpl
        have HCR : Hid (checkR l = 0) := (check_parts HCK.out).2.1
        clear hpl hhs htx hB HTX
        have ik : ¬ ((16 : Int) < (m : Int) + 1) := by omega
        have ik8 : ¬ ((8 : Int) < (m : Int) + 1) := by omega
        go_wp2_with fail
        refine (s4_parse HS2.out o HOL.out 0 [97] l HPX.out).mono ?_
        rintro _ u3 ⟨C3, n3, e3, rfl, hs⟩
        have HW3 : Hid (Below w.heap.size w u3 ∧ w.heap.size ≤ u3.heap.size) := ⟨HW2.out.1.trans (hs.2.1.mono HW2.out.2), Nat.le_trans HW2.out.2 hs.2.1.size⟩
        have HS3 := Lib.hid (st_base hs)
        clear HS2 HW2 
        clear hs
        have hnw := bk_new u3 [97] C3 n3 e3 30
        have hba := (Below.refl u3.heap.size u3).alloc (Nat.le_refl _) (.cells #[.string ⟨List.toArray [97]⟩, .slice C3 n3 e3] 30)
        obtain ⟨v4, hv4⟩ : ∃ v, u3.alloc (.cells #[.string ⟨List.toArray [97]⟩, .slice C3 n3 e3] 30) = v := ⟨_, rfl⟩
        rw [hv4] at hnw hba
        have HW4 : Hid (Below w.heap.size w v4 ∧ w.heap.size ≤ v4.heap.size) := ⟨HW3.out.1.trans (hba.mono HW3.out.2), Nat.le_trans HW3.out.2 hba.size⟩
        have HS4 := Lib.hid (st_base (st_step HS3.out hba))
        clear HS3 HW3 
        have HXa : Hid (Bk u3.heap.size [97] C3 n3 e3 v4) := hnw
        clear hnw hba
        obtain ⟨a0, a1⟩ := HXa.out.1
        go_wp2_with fail
        clear hv4
        clear ik ik8
        have HB0 : Hid (Below v4.heap.size v4 v4) := Below.refl _ _
        go_loopw [10] (fun i wr => ∃ q : Nat, q ≤ m + 3 ∧ i = .int .i64 q ∧ Hid (Below v4.heap.size v4 wr)) (fun i _ => m + 3 - (intOf i).toNat)
        case atStart => exact ⟨0, Nat.zero_le _, rfl, HB0⟩
        case round =>
          clear HB0
          obtain ⟨q, hq, rfl, HB⟩ := hrel
          have iw2 : IntKind.i64.wrap ((m : Int) + 1 + 1) = (m : Int) + 1 + 1 := IntWalk.i64_in _ (by omega)
          have iw4 : IntKind.i64.wrap ((m : Int) + 2) = (m : Int) + 2 := IntWalk.i64_in _ (by omega)
          by_cases hlt : q ≤ m + 2
          · have ij2 : (q : Int) ≤ (m : Int) + 1 + 1 := by omega
            have ij4 : (q : Int) ≤ (m : Int) + 2 := by omega
            have iw3 : IntKind.i64.wrap ((q : Int) + 1) = (q : Int) + 1 := IntWalk.i64_in _ (by omega)
            have uw : IntKind.u64.wrap (q : Int) = (q : Int) := IntWalk.u64_in _ (by omega)
            have i0 : (0 : Int) ≤ (q : Int) := by omega
            have HDC : Hid (∀ W : World, Calls Tryz.prog 21 #[.int .u64 (q : Int)] W fun e w' => e = .returned (.string ⟨(decT q).toArray⟩) ∧ Below W.heap.size W w') := fun W => dec_at q (by omega) _ _ rfl rfl W
            have hh := HHS.out q (by omega)
            have HVC : Hid (Vm.check (decT q) = 0) := (dec_p (by omega)).1
            obtain ⟨d, hd⟩ : ∃ d, decT q = d := ⟨_, rfl⟩
            rw [hd] at hh HDC HVC
            obtain ⟨b, hb0⟩ : ∃ b, hasR (l.map Sp.piece) d = b := ⟨_, rfl⟩
            rw [hb0] at hh
            have HHB := Lib.hid hb0
            have HLT := Lib.hid hlt
            clear hd hb0
            have HSR : Hid (St v4 wr [⟨C3, n3, l⟩]) := st_step HS4.out HB.out
            have HXR := Lib.hid (bk_step HXa.out HB.out)
            clear a0 a1
            obtain ⟨a0, a1⟩ := HXR.out.1
            have hcs : ((¬ (1 : Int) ≤ (q : Int) ∧ (q : Int) ≤ (m : Int) + 1) ∧ b = (false == false)) ∨ (((1 : Int) ≤ (q : Int) ∧ (q : Int) ≤ (m : Int) + 1) ∧ b = (true == false)) ∨ (((1 : Int) ≤ (q : Int) ∧ ¬ (q : Int) ≤ (m : Int) + 1) ∧ b = (false == false)) := by
              by_cases h1 : q = 0
              · refine Or.inl ⟨⟨by omega, by omega⟩, ?_⟩
                rw [hh, decide_eq_false (show ¬ 1 ≤ q by omega)]; rfl
              · by_cases h2 : q ≤ m + 1
                · refine Or.inr (Or.inl ⟨⟨by omega, by omega⟩, ?_⟩)
                  rw [hh, decide_eq_true (show 1 ≤ q by omega), decide_eq_true h2]; rfl
                · refine Or.inr (Or.inr ⟨⟨by omega, by omega⟩, ?_⟩)
                  rw [hh, decide_eq_true (show 1 ≤ q by omega), decide_eq_false h2]; rfl
            clear hh
            rcases hcs with ⟨⟨p1, p2⟩, rfl⟩ | ⟨⟨p1, p2⟩, rfl⟩ | ⟨⟨p1, p2⟩, rfl⟩
            · (
             go_wp2_with fail
             have HQ0 := Lib.hid (st_step HSR.out (Below.refl wr.heap.size wr).drew)
             first
             | (go_region_with (first
                   | (go_at_call 22; refine (s4_has HQ1.out 0 rfl HCR.out _ d HVC.out _ HHB.out).mono ?_; rintro _ z2 ⟨rfl, hs⟩; have HQ2 := Lib.hid hs; clear hs)
                   | (go_at_call 21; refine (HDC.out _).mono ?_; rintro _ z1 ⟨rfl, hs⟩; have HQ1 := Lib.hid (st_step HQ0.out hs); clear hs; obtain ⟨k0, k1⟩ := bx2_below HXa.out.1 HXa.out.2 HQ1.out.2.1)))
             | fail
             all_goals (
               have HB2 : Hid (Below v4.heap.size v4 z2) := HQ2.out.2.1
               clear HQ0 HQ1 HQ2 HSR HXR
               go_wp2_with fail
               go_roundw
               case rel => exact ⟨q + 1, (by have := HLT.out; omega), by go_num, HB2⟩
               case measure => have := HLT.out; simp [intOf]; omega))
            all_goals (
             go_wp2_with fail
             have HQ0 := Lib.hid (st_step HSR.out (Below.refl wr.heap.size wr).drew)
             (go_region_held3 (fun w' => w'.cell? ⟨u3.heap.size, 0, none⟩ = some (.string ⟨List.toArray [97]⟩) ∧ w'.cell? ⟨u3.heap.size, 1, none⟩ = some (.slice C3 n3 e3))
                 (first
                   | exact ⟨(bx2_below HXa.out.1 HXa.out.2 HQ0.out.2.1).1, (bx2_below HXa.out.1 HXa.out.2 HQ0.out.2.1).2⟩
                   | exact ⟨(bx2_below HXa.out.1 HXa.out.2 HQ1.out.2.1).1, (bx2_below HXa.out.1 HXa.out.2 HQ1.out.2.1).2⟩
                   | exact ⟨(bx2_below HXa.out.1 HXa.out.2 HQ2.out.2.1).1, (bx2_below HXa.out.1 HXa.out.2 HQ2.out.2.1).2⟩)
                 (first
                   | (go_at_call 22; refine (s4_has HQ1.out 0 rfl HCR.out _ d HVC.out _ HHB.out).mono ?_; rintro _ z2 ⟨rfl, hs⟩; have HQ2 := Lib.hid hs; clear hs)
                   | (go_at_call 21; refine (HDC.out _).mono ?_; rintro _ z1 ⟨rfl, hs⟩; have HQ1 := Lib.hid (st_step HQ0.out hs); clear hs)))
             all_goals (
               have HB2 : Hid (Below v4.heap.size v4 z2) := HQ2.out.2.1
               clear HQ0 HQ1 HQ2 HSR HXR
               go_wp2_with fail
               go_roundw
               case rel => exact ⟨q + 1, (by have := HLT.out; omega), by go_num, HB2⟩
               case measure => have := HLT.out; simp [intOf]; omega))
          · obtain rfl : q = m + 3 := by omega
            have ij2 : ¬ (((m + 3 : Nat) : Int) ≤ (m : Int) + 1 + 1) := by omega
            have ij4 : ¬ (((m + 3 : Nat) : Int) ≤ (m : Int) + 2) := by omega
            have ij5 : ¬ ((m : Int) + 3 ≤ (m : Int) + 2) := by omega
            have HZ : Hid (Below w.heap.size w wr) := HW4.out.1.trans (HB.out.mono HW4.out.2)
            go_wp2_with fail
            go_ret
            exact ⟨rfl, HZ.out⟩
theorem atomPoints_any (n : Nat) (t : Bool) (hn : n ≤ 255) (w : World) (hw : MaxOk w) :
    Calls Tryz.prog 5 #[.int .u8 n, .bool t] w fun e w' => e = .returned (.bool true) ∧ Below w.heap.size w w' := by
  cases t
  · exact atomPoints_false n hn w hw
  · exact atomPoints_true n hn w hw
end Go.Proofs.YtbehmagjkdljfaaGreatDoor
