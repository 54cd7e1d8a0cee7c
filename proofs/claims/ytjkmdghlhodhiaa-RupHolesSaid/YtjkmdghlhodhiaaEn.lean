/- The reference's first clause that does not hold: walked. -/
import Derived.Test.YtjkmdghlhodhiaaEe
import Derived.Test.YtjkmdghlhodhiaaEf
namespace Go.Proofs.Ytjkmdghlhodhiaa
open Go.RowKit Cl Up
attribute [local go_sem ↓] Go.wp_at_zero Go.wp_at_succ
set_option maxRecDepth 100000 in
set_option maxHeartbeats 1600000 in
theorem refFirst_any (A B : Option Addr) (n m c d : Nat) (t : List (List Int)) (k : List Bool) (w : World) (hn : t.length = n) (hm : k.length = m) (hr : GRow w A t) (hq : BRow w B k) (hl : n ≤ 1000000) (hl2 : m ≤ 1000000) (hf : ∀ x ∈ t, x.length ≤ 1000000) :
    Calls Try.prog 21 #[.slice A n c, .slice B m d] w fun e w' => e = .returned (.int .i64 (firstH k 0 t)) ∧ Below w.heap.size w w' := by
  obtain ⟨X, hX⟩ : ∃ X, firstH k 0 t = X := ⟨_, rfl⟩
  rw [hX]
  have HX := Lib.hid hX
  have HR := Lib.hid hr
  have HQ := Lib.hid hq
  have HN := Lib.hid hn
  have HM := Lib.hid hm
  have HF := Lib.hid hf
  clear hX hr hq hn hm hf
  go_enter Try.func21, Try.ntmps21
  go_wp2_with fail
  go_loopw [5] (fun i wr => ∃ j : Nat, j ≤ n ∧ i = .int .i64 j ∧ Hid (∀ c ∈ t.take j, holdsC k c = true) ∧ Hid (Below w.heap.size w wr)) (fun i _ => n - (intOf i).toNat)
  case atStart => exact ⟨0, Nat.zero_le _, rfl, fun c h => absurd h (by simp), Below.refl _ _⟩
  case round =>
    obtain ⟨j, hj, rfl, HT, HW⟩ := hrel
    by_cases hlt : j < n
    · have hjl : j < t.length := by rw [HN.out]; exact hlt
      obtain ⟨ad, C, q, cc, x, rfl, hb, hc, hx, hxl, hxr⟩ := grow_at (Gr.row_below HR.out HW.out) j hjl
      have hq1 : q ≤ 1000000 := by rw [← hxl, ← hx]; exact HF.out _ (List.getElem_mem hjl)
      have HS := Lib.hid (refHolds_any C B q m cc d x k wr hxl HM.out hxr (Rg.row_below HQ.out HW.out) hq1 hl2)
      have j0 : (0 : Int) ≤ (j : Int) := by omega
      have j1 : (j : Int) < (n : Int) := by omega
      obtain ⟨b, hbq⟩ : ∃ b, holdsC k x = b := ⟨_, rfl⟩
      rw [hbq] at HS
      have HYes : Hid (b = true → ∀ c ∈ t.take (j + 1), holdsC k c = true) := fun e c hcm => by
        rw [List.take_succ_eq_append_getElem hjl, hx] at hcm
        rcases List.mem_append.1 hcm with hcm | hcm
        · exact HT.out c hcm
        · rw [List.mem_singleton.1 hcm, hbq, e]
      have HNo : Hid (b = false → X = (j : Int)) := fun e => by
        have := firstH_at k t 0 j hjl HT.out (by rw [hx, hbq, e])
        rw [← HX.out, this, Nat.zero_add]
      clear hb hx hxl hxr hjl hq1 hbq
      cases b
      · have HZ := Lib.hid (HNo.out rfl)
        clear HYes HNo
        go_wp2_with (go_at_call 37; refine HS.out.mono ?_)
        rintro _ w2 ⟨rfl, hb2⟩
        have HW2 := Lib.hid (HW.out.trans (hb2.mono HW.out.size))
        clear hb2
        go_wp2_with fail
        go_ret
        exact ⟨by rw [HZ.out]; rfl, HW2.out⟩
      · have HZ := Lib.hid (HYes.out rfl)
        clear HYes HNo
        go_wp2_with (go_at_call 37; refine HS.out.mono ?_)
        rintro _ w2 ⟨rfl, hb2⟩
        have HW2 := Lib.hid (HW.out.trans (hb2.mono HW.out.size))
        clear hb2
        go_wp2_with fail
        go_roundw
        case rel => exact ⟨j + 1, by omega, by go_num, HZ.out, HW2.out⟩
        case measure => simp [intOf]; omega
    · have HZ : Hid (X = -1) := by
        show _ = _
        rw [← HX.out]
        refine firstH_done k t 0 fun c hc => HT.out c ?_
        rw [List.take_of_length_le (by rw [HN.out]; omega)]; exact hc
      go_wp2_with fail
      go_ret
      exact ⟨by rw [HZ.out]; rfl, HW.out⟩
end Go.Proofs.Ytjkmdghlhodhiaa
