/- The literals that are there; Units: walked. -/
import Derived.Test.YtebeemnpamgmlaaOxb
import Derived.Test.YtebeemnpamgmlaaOf
namespace Go.Proofs.Ytebeemnpamgmlaa
open Go.RowKit Cl Up
attribute [local go_sem ↓] Go.wp_at_zero Go.wp_at_succ
set_option maxRecDepth 100000 in
set_option maxHeartbeats 1600000 in
theorem pLits_any (A : Option Addr) (N d : Nat) (m : List Int) (w : World) (hN : m.length = N) (hr : IRow w A (kL m)) (hl : N ≤ 500000) :
    Calls Try.prog 25 #[.slice A N d] w (IRet w (litsK m N)) := by
  have HM : Hid ((kL m).length = N) := (kL_len m).trans hN
  have HR := Lib.hid hr
  clear hN hr
  go_enter Try.func25, Try.ntmps25
  go_wp2_with fail
  go_loopw [3, 8] (fun v i wr => ∃ (j : Nat) (S : List Int), j ≤ N ∧ i = .int .i64 j ∧ Hid (S = litsK m j) ∧ Hid (Rg.Own encI 1 wr w.heap.size 3 v S) ∧ Hid (Below w.heap.size w wr ∧ w.heap.size ≤ wr.heap.size)) (fun _ i _ => N - (intOf i).toNat)
  case atStart => exact ⟨0, [], Nat.zero_le _, rfl, rfl, Rg.own_nil _ _ _, Below.refl _ _, Nat.le_refl _⟩
  case round =>
    obtain ⟨j, S, hj, rfl, HS, HO, HB⟩ := hrel
    by_cases hlt : j < N
    · have hjl : j < (kL m).length := by rw [HM.out]; exact hlt
      obtain ⟨ad, x, rfl, hx, hxb, hc⟩ := irow_at (irow_below HR.out HB.out.1) j hjl
      have hmore := litsK_more hjl hx
      rw [← HS.out] at hmore
      have j0 : (0 : Int) ≤ (j : Int) := by omega
      have j1 : (j : Int) < (N : Int) := by omega
      have HSL : Hid (S.length + 1 ≤ 1000000) := by
        have := litsK_len m j
        show _ ≤ _; rw [HS.out]; omega
      by_cases hx0 : x = 0
      · have d0 : (x != 0) = false := by simpa using hx0
        rw [if_pos hx0, List.append_nil] at hmore
        have HS2 : Hid (S = litsK m (j + 1)) := hmore.symm
        clear hmore hx hxb hjl hx0
        go_wp2_with fail
        go_roundw
        case rel => exact ⟨j + 1, S, by omega, by go_num, HS2.out, HO.out, HB.out⟩
        case measure => simp [intOf]; omega
      · have d0 : (x != 0) = true := by simpa using hx0
        rw [if_neg hx0] at hmore
        have HS2 : Hid (S ++ [x] = litsK m (j + 1)) := hmore.symm
        clear hmore hx hxb hjl hx0
        go_wp2_with (at_builtin; refine Rg.wpList_app sliceI rfl (.tmp 14) (.tmp 16) rfl w.heap.size _ S [x] rfl (Rg.own_below HO.out ((Below.refl _ _).alloc (Nat.le_refl _) _)) _ _ rfl (Rg.news_new wr _ _ _ (by rfl)) (Nat.zero_lt_succ _) HSL.out ?b1 ?_)
        case b1 => have := HB.out.2; simp; omega
        intro v5 W5 ho5 hg5 hz5
        have HB5 := app_doneI HB HO hg5
        have HO5 := Lib.hid ho5
        clear ho5 hg5 hz5 HO HB HSL hc
        go_wp2_with fail
        go_roundw
        case rel => exact ⟨j + 1, S ++ [x], by omega, by go_num, HS2.out, HO5.out, HB5.out⟩
        case measure => simp [intOf]; omega
    · have HE : Hid (S = litsK m N) := by
        show _ = _
        rw [HS.out, show j = N by omega]
      go_wp2_with fail
      go_ret
      exact ⟨_, rfl, by rw [← HE.out]; exact HO.out, HB.out.1, HB.out.2⟩
set_option maxRecDepth 100000 in
set_option maxHeartbeats 1600000 in
theorem pUnits_any (A : Option Addr) (m d : Nat) (t : List (List Int)) (w : World) (hm : t.length = m) (hr : GRow w A t) (hl : m ≤ 500000) :
    Calls Try.prog 14 #[.slice A m d] w (IRet w (unitsL t)) := by
  have HM := Lib.hid hm
  have HR := Lib.hid hr
  clear hm hr
  go_enter Try.func14, Try.ntmps14
  go_wp2_with fail
  go_loopw [3, 8] (fun v i wr => ∃ (j : Nat) (S : List Int), j ≤ m ∧ i = .int .i64 j ∧ Hid (S = unitsL (t.take j)) ∧ Hid (Rg.Own encI 1 wr w.heap.size 3 v S) ∧ Hid (Below w.heap.size w wr ∧ w.heap.size ≤ wr.heap.size)) (fun _ i _ => m - (intOf i).toNat)
  case atStart => exact ⟨0, [], Nat.zero_le _, rfl, rfl, Rg.own_nil _ _ _, Below.refl _ _, Nat.le_refl _⟩
  case round =>
    obtain ⟨j, S, hj, rfl, HS, HO, HB⟩ := hrel
    by_cases hlt : j < m
    · have hjl : j < t.length := by rw [HM.out]; exact hlt
      obtain ⟨ad, C, k, cc, x, rfl, hbx, hc, hx, hxl, hxr⟩ := grow_at (Gr.row_below HR.out HB.out.1) j hjl
      have hmore := unitsL_more hjl hx
      rw [hxl, ← HS.out] at hmore
      have j0 : (0 : Int) ≤ (j : Int) := by omega
      have j1 : (j : Int) < (m : Int) := by omega
      have HSL : Hid (S.length + 1 ≤ 1000000) := by
        have := unitsL_le (t.take j)
        rw [List.length_take] at this
        show _ ≤ _; rw [HS.out]; omega
      cases hk1 : (k : Int) == 1
      · have hkn : k ≠ 1 := fun e => by rw [e] at hk1; exact absurd hk1 (by decide)
        have HS2 : Hid (S = unitsL (t.take (j + 1))) := by
          show _ = _
          rw [hmore, if_neg hkn, List.append_nil]
        clear hmore hbx hx hxl hxr hjl hkn
        go_wp2_with fail
        go_roundw
        case rel => exact ⟨j + 1, S, by omega, by go_num, HS2.out, HO.out, HB.out⟩
        case measure => simp [intOf]; omega
      · have hkn : k = 1 := by
          have : (k : Int) = 1 := by simpa using hk1
          omega
        rw [if_pos hkn] at hmore
        obtain ⟨ae, y, rfl, hy, hyb, hyc⟩ := irow_at hxr 0 (by omega)
        rw [Rg.add_zero] at hyc
        have hxy : x = [y] := by
          match x, hxl, hy with
          | [a], _, hy => rw [← hy]; rfl
          | [], h, _ => simp at h; omega
          | _ :: _ :: _, h, _ => simp at h; omega
        have HS2 : Hid (S ++ [y] = unitsL (t.take (j + 1))) := by
          show _ = _
          rw [hmore, hxy]
        have k0 : (0 : Int) < (k : Int) := by omega
        clear hmore hbx hx hxl hxr hjl hy hyb hxy hkn
        go_wp2_with (at_builtin; refine Rg.wpList_app sliceI rfl (.tmp 15) (.tmp 19) rfl w.heap.size _ S [y] rfl (Rg.own_below HO.out ((Below.refl _ _).alloc (Nat.le_refl _) _)) _ _ rfl (Rg.news_new wr _ _ _ (by rfl)) (Nat.zero_lt_succ _) HSL.out ?b1 ?_)
        case b1 => have := HB.out.2; simp; omega
        intro v5 W5 ho5 hg5 hz5
        have HB5 := app_doneI HB HO hg5
        have HO5 := Lib.hid ho5
        clear ho5 hg5 hz5 HO HB HSL hc hyc
        go_wp2_with fail
        go_roundw
        case rel => exact ⟨j + 1, S ++ [y], by omega, by go_num, HS2.out, HO5.out, HB5.out⟩
        case measure => simp [intOf]; omega
    · have HE : Hid (S = unitsL t) := by
        show _ = _
        rw [HS.out, List.take_of_length_le (by rw [HM.out]; omega)]
      go_wp2_with fail
      go_ret
      exact ⟨_, rfl, by rw [← HE.out]; exact HO.out, HB.out.1, HB.out.2⟩
end Go.Proofs.Ytebeemnpamgmlaa
