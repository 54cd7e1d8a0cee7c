/- The literals that are there; Units: walked. -/
import Derived.Test.YtjkmdghlhodhiaaOxb
import Derived.Test.YtjkmdghlhodhiaaOf
namespace Go.Proofs.Ytjkmdghlhodhiaa
open Go.RowKit Cl Up
attribute [local go_sem ↓] Go.wp_at_zero Go.wp_at_succ
set_option maxRecDepth 100000 in
set_option maxHeartbeats 1600000 in
theorem pLits_any (A : Option Addr) (N d : Nat) (m : List Int) (w : World) (hN : m.length = N) (hr : IRow w A (kL m)) (hl : N ≤ 500000) :
    Calls Try.prog 57 #[.slice A N d] w (IRet w (litsK m N)) := by
  have HM : Hid ((kL m).length = N) := (kL_len m).trans hN
  have HR := Lib.hid hr
  clear hN hr
  go_enter Try.func57, Try.ntmps57
  go_wp2_with fail
  go_loopw [3, 8] (fun v i wr => ∃ (j : Nat) (S : List Int), j ≤ N ∧ i = .int .i64 j ∧ Hid (S = litsK m j) ∧ Hid (Rg.Own encI 1 wr w.heap.size 3 v S) ∧ Hid (Below w.heap.size w wr ∧ w.heap.size ≤ wr.heap.size)) (fun _ i _ => N - (intOf i).toNat)
  case atStart => exact ⟨0, [], Nat.zero_le _, rfl, rfl, Rg.own_nil _ _ _, Below.refl _ _, Nat.le_refl _⟩
  case round =>
    obtain ⟨j, S, hj, rfl, HS, HO, HB⟩ := hrel
    by_cases hlt : j < N
    · have hjl : j < (kL m).length := by rw [HM.out]; exact hlt
      obtain ⟨ad, x, rfl, hx, hxb, hc⟩ := irow_at (irow_below HR.out HB.out.1) j hjl
      have hmore := litsK_more hjl hx
      rw [← HS.out] at hmore
      have j0 : (0 : Int) ≤ (j : Int) := by omega
      have j1 : (j : Int) < (N : Int) := by omega
      have HSL : Hid (S.length + 1 ≤ 1000000) := by
        have := litsK_len m j
        show _ ≤ _; rw [HS.out]; omega
      by_cases hx0 : x = 0
      · have d0 : (x != 0) = false := by simpa using hx0
        rw [if_pos hx0, List.append_nil] at hmore
        have HS2 : Hid (S = litsK m (j + 1)) := hmore.symm
        clear hmore hx hxb hjl hx0
        go_wp2_with fail
        go_roundw
        case rel => exact ⟨j + 1, S, by omega, by go_num, HS2.out, HO.out, HB.out⟩
        case measure => simp [intOf]; omega
      · have d0 : (x != 0) = true := by simpa using hx0
        rw [if_neg hx0] at hmore
        have HS2 : Hid (S ++ [x] = litsK m (j + 1)) := hmore.symm
        clear hmore hx hxb hjl hx0
        go_wp2_with (at_builtin; refine Rg.wpList_app sliceI rfl (.tmp 14) (.tmp 16) rfl w.heap.size _ S [x] rfl (Rg.own_below HO.out ((Below.refl _ _).alloc (Nat.le_refl _) _)) _ _ rfl (Rg.news_new wr _ _ _ (by rfl)) (Nat.zero_lt_succ _) HSL.out ?b1 ?_)
        case b1 => have := HB.out.2; simp; omega
        intro v5 W5 ho5 hg5 hz5
        have HB5 := app_doneI HB HO hg5
        have HO5 := Lib.hid ho5
        clear ho5 hg5 hz5 HO HB HSL hc
        go_wp2_with fail
        go_roundw
        case rel => exact ⟨j + 1, S ++ [x], by omega, by go_num, HS2.out, HO5.out, HB5.out⟩
        case measure => simp [intOf]; omega
    · have HE : Hid (S = litsK m N) := by
        show _ = _
        rw [HS.out, show j = N by omega]
      go_wp2_with fail
      go_ret
      exact ⟨_, rfl, by rw [← HE.out]; exact HO.out, HB.out.1, HB.out.2⟩
end Go.Proofs.Ytjkmdghlhodhiaa
