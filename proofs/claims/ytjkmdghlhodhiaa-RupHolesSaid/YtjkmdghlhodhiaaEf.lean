/- The reference's clauses at truths: where one holds, the first that does not: walked. -/
import Derived.Test.YtjkmdghlhodhiaaEe
namespace Go.Proofs.Ytjkmdghlhodhiaa.Cl
open Go.RowKit Up
def encB (x : Bool) : List Value := [.bool x]
theorem fitsB : Rg.Fits encB 1 := ⟨fun _ => rfl, fun x u hu => by
  obtain rfl : u = .bool x := by simpa [encB] using hu
  rfl⟩
abbrev BRow (w : World) (A : Option Addr) (l : List Bool) : Prop := Rg.Row encB 1 w A l
theorem brow_at {w : World} {A : Option Addr} {l : List Bool} (h : BRow w A l) (k : Nat) (hk : k < l.length) : ∃ ad x, A = some ad ∧ l[k] = x ∧ ad.block < w.heap.size ∧ w.cell? (ad.add k) = some (.bool x) := by
  obtain ⟨ad, x, h1, h2, h3, h4⟩ := Rg.row_at h k hk
  refine ⟨ad, x, h1, h2, h3, ?_⟩
  have := h4 0 (.bool x) rfl
  rwa [if_pos rfl, Nat.mul_one] at this
theorem getD_at {m : List Bool} {p : Nat} (h : p < m.length) : m.getD p false = m[p] := by rw [List.getD_eq_getElem?_getD, List.getElem?_eq_getElem h]; rfl
end Go.Proofs.Ytjkmdghlhodhiaa.Cl
namespace Go.Proofs.Ytjkmdghlhodhiaa
open Go.RowKit Cl Up
attribute [local go_sem ↓] Go.wp_at_zero Go.wp_at_succ
set_option maxRecDepth 100000 in
set_option maxHeartbeats 3200000 in
theorem refHolds_any (A B : Option Addr) (n m c d : Nat) (l : List Int) (k : List Bool) (w : World) (hn : l.length = n) (hm : k.length = m) (hr : IRow w A l) (hq : BRow w B k) (hl : n ≤ 1000000) (hl2 : m ≤ 1000000) :
    Calls Try.prog 37 #[.slice A n c, .slice B m d] w fun e w' => e = .returned (.bool (holdsC k l)) ∧ Below w.heap.size w w' := by
  obtain ⟨X, hX⟩ : ∃ X, holdsC k l = X := ⟨_, rfl⟩
  rw [hX]
  have HX := Lib.hid hX
  have HR := Lib.hid hr
  have HQ := Lib.hid hq
  have HN := Lib.hid hn
  have HM := Lib.hid hm
  clear hX hr hq hn hm
  go_enter Try.func37, Try.ntmps37
  go_wp2_with fail
  go_loopw [5, 6] (fun i _ wr => ∃ j : Nat, j ≤ n ∧ i = .int .i64 j ∧ Hid ((l.take j).any (holdsL k) = false) ∧ Hid (Below w.heap.size w wr)) (fun i _ _ => n - (intOf i).toNat)
  case atStart => exact ⟨0, Nat.zero_le _, rfl, rfl, Below.refl _ _⟩
  case round =>
    obtain ⟨j, hj, rfl, HT, HW⟩ := hrel
    by_cases hlt : j < n
    · have h1 : j < l.length := by rw [HN.out]; exact hlt
      obtain ⟨ad, x, rfl, hx, hs, hc⟩ := irow_at (irow_below HR.out HW.out) j h1
      have j0 : (0 : Int) ≤ (j : Int) := by omega
      have j1 : (j : Int) < (n : Int) := by omega
      have HNo : Hid (holdsL k x = false → (l.take (j + 1)).any (holdsL k) = false) := fun q => any_take h1 HT.out (by rw [hx]; exact q)
      have HYes : Hid (holdsL k x = true → X = true) := fun q => HX.out.symm.trans (any_at h1 (by rw [hx]; exact q))
      have HE : Hid (holdsL k x = ((decide (1 ≤ x) && decide (x ≤ (m : Int)) && k.getD (x - 1).toNat false) || (decide (x ≤ -1) && decide (-(m : Int) ≤ x) && !k.getD (-x - 1).toNat false))) := by show _ = _; unfold holdsL; rw [HM.out]
      have mw : IntKind.i64.wrap (0 - (m : Int)) = -(m : Int) := (IntWalk.i64_in _ (by omega)).trans (by omega)
      have mw2 : IntKind.i64.wrap (-(m : Int)) = -(m : Int) := IntWalk.i64_in _ (by omega)
      clear hx hs h1
      cases a1 : decide (1 ≤ x)
      · cases a3 : decide (x ≤ -1)
        · have HT2 := Lib.hid (HNo.out (by rw [HE.out, a1, a3]; rfl))
          clear HNo HYes HE
          go_wp2_with fail
          go_roundw
          case rel => exact ⟨j + 1, by omega, by go_num, HT2.out, HW.out⟩
          case measure => simp [intOf]; omega
        · cases a4 : decide (-(m : Int) ≤ x)
          · have HT2 := Lib.hid (HNo.out (by rw [HE.out, a1, a3, a4]; rfl))
            clear HNo HYes HE
            go_wp2_with fail
            go_roundw
            case rel => exact ⟨j + 1, by omega, by go_num, HT2.out, HW.out⟩
            case measure => simp [intOf]; omega
          · obtain ⟨p, hp⟩ : ∃ p : Nat, -x - 1 = (p : Int) := ⟨(-x - 1).toNat, by have := of_decide_eq_true a3; omega⟩
            have hpm : p < m := by have := of_decide_eq_true a4; omega
            have hpk : p < k.length := by rw [HM.out]; exact hpm
            obtain ⟨ae, b, rfl, hy, ht, he⟩ := brow_at (Rg.row_below HQ.out HW.out) p hpk
            have HEE : Hid (holdsL k x = !b) := by
              show _ = _
              rw [HE.out, a1, a3, a4, hp, Int.toNat_natCast, getD_at hpk, hy]; rfl
            obtain ⟨q, hq⟩ : ∃ q : Nat, -x = (q : Int) := ⟨(-x).toNat, by omega⟩
            have x0 : (0 : Int) - x = (q : Int) := by omega
            have x1 : IntKind.i64.wrap (0 - x) = (q : Int) := (IntWalk.i64_in _ (by omega)).trans (by omega)
            have x1b : IntKind.i64.wrap (-x) = (q : Int) := (IntWalk.i64_in _ (by omega)).trans (by omega)
            have x2 : (q : Int) - 1 = (p : Int) := by omega
            have x3 : IntKind.i64.wrap ((q : Int) - 1) = (p : Int) := (IntWalk.i64_in _ (by omega)).trans (by omega)
            have p0 : (0 : Int) ≤ (p : Int) := by omega
            have p1 : (p : Int) < (m : Int) := by omega
            clear hp hy ht hpk HE hq x0 x2
            cases b
            · have HF := Lib.hid (HYes.out HEE.out)
              clear HNo HYes HEE
              go_wp2_with fail
              go_ret
              exact ⟨by rw [HF.out]; rfl, HW.out⟩
            · have HT2 := Lib.hid (HNo.out HEE.out)
              clear HNo HYes HEE
              go_wp2_with fail
              go_roundw
              case rel => exact ⟨j + 1, by omega, by go_num, HT2.out, HW.out⟩
              case measure => simp [intOf]; omega
      · have a3 : decide (x ≤ -1) = false := decide_eq_false (by have := of_decide_eq_true a1; omega)
        cases a2 : decide (x ≤ (m : Int))
        · have HT2 := Lib.hid (HNo.out (by rw [HE.out, a1, a2, a3]; rfl))
          clear HNo HYes HE
          go_wp2_with fail
          go_roundw
          case rel => exact ⟨j + 1, by omega, by go_num, HT2.out, HW.out⟩
          case measure => simp [intOf]; omega
        · obtain ⟨p, hp⟩ : ∃ p : Nat, x - 1 = (p : Int) := ⟨(x - 1).toNat, by have := of_decide_eq_true a1; omega⟩
          have hpm : p < m := by have := of_decide_eq_true a2; omega
          have hpk : p < k.length := by rw [HM.out]; exact hpm
          obtain ⟨ae, b, rfl, hy, ht, he⟩ := brow_at (Rg.row_below HQ.out HW.out) p hpk
          have HEE : Hid (holdsL k x = b) := by
            show _ = _
            rw [HE.out, a1, a2, a3, hp, Int.toNat_natCast, getD_at hpk, hy]
            cases b <;> rfl
          have x3 : IntKind.i64.wrap (x - 1) = (p : Int) := (IntWalk.i64_in _ (by omega)).trans (by omega)
          have p0 : (0 : Int) ≤ (p : Int) := by omega
          have p1 : (p : Int) < (m : Int) := by omega
          clear hp hy ht hpk HE
          cases b
          · have HT2 := Lib.hid (HNo.out HEE.out)
            clear HNo HYes HEE
            go_wp2_with fail
            go_roundw
            case rel => exact ⟨j + 1, by omega, by go_num, HT2.out, HW.out⟩
            case measure => simp [intOf]; omega
          · have HF := Lib.hid (HYes.out HEE.out)
            clear HNo HYes HEE
            go_wp2_with fail
            go_ret
            exact ⟨by rw [HF.out]; rfl, HW.out⟩
    · have HF : Hid (X = false) := by
        show _ = _
        have := HT.out
        rw [List.take_of_length_le (by rw [HN.out]; omega)] at this
        exact HX.out.symm.trans this
      go_wp2_with fail
      go_ret
      exact ⟨by rw [HF.out]; rfl, HW.out⟩
end Go.Proofs.Ytjkmdghlhodhiaa
