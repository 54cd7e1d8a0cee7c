/- The rest of the looks: requireEpoch, and the reference's part, place, bare, run. -/
import Derived.Test.YtaghhdgiegcimaaDoorVc
namespace Go.Proofs.YtaghhdgiegcimaaDoor
open Go.RowKit

theorem tw_step (p : UInt8 → Bool) : ∀ (l : List UInt8) (k : Nat) (h : k < l.length), k ≤ (l.takeWhile p).length → (p l[k] = true ↔ k + 1 ≤ (l.takeWhile p).length)
  | [], k, h, _ => by simp at h
  | b :: l, k, h, hk => by
    rw [List.takeWhile_cons] at hk ⊢
    cases hb : p b
    · rw [hb] at hk
      have : k = 0 := by simpa using hk
      subst this
      simp [hb]
    · rw [hb] at hk
      cases k with
      | zero => simp [hb]
      | succ k =>
        have ih := tw_step p l k (by simpa using h) (by simpa using hk)
        simpa using ih
theorem tw_le (p : UInt8 → Bool) (l : List UInt8) : (l.takeWhile p).length ≤ l.length := by
  have h : l.takeWhile p ++ l.dropWhile p = l := List.takeWhile_append_dropWhile
  have := congrArg List.length h; rw [List.length_append] at this; omega
theorem tw_take (p : UInt8 → Bool) (l : List UInt8) : l.take (l.takeWhile p).length = l.takeWhile p := take_app List.takeWhile_append_dropWhile
theorem tw_drop (p : UInt8 → Bool) (l : List UInt8) : l.drop (l.takeWhile p).length = l.dropWhile p := drop_app List.takeWhile_append_dropWhile

theorem epOk_cons (l : List UInt8) (h : 0 < l.length) : Vm.epOk l = (decide (l.length ≤ 6) && l.all Vm.dig) := by
  have he : l.isEmpty = false := by cases l <;> simp at *
  simp [Vm.epOk, he]
set_option maxHeartbeats 800000 in
theorem requireEpoch_any (l : List UInt8) (w : World) (hm : l.length ≤ 100) :
    Calls Tryd.prog 74 #[.string ⟨l.toArray⟩] w fun e w' => e = okOr (Vm.epOk l) 5 ∧ w = w' := by
  by_cases h0 : l = []
  · subst h0
    go_enter Tryd.func74, Tryd.ntmps74
    go_wp2_with fail
    refine (require_no _).mono ?_
    rintro e w' ⟨rfl, rfl⟩
    go_wp2_with fail
    exact ⟨rfl, rfl, rfl⟩
  · have hpos : 0 < l.length := List.length_pos_iff.2 h0
    have he : l.isEmpty = false := by cases l <;> simp at *
    have H := Lib.hid (epOk_cons l hpos)
    clear h0
    by_cases h6 : l.length ≤ 6
    · have HE : Hid (Vm.epOk l = l.all Vm.dig) := by show _ = _; rw [H.out]; simp [h6]
      clear H
      go_enter Tryd.func74, Tryd.ntmps74
      go_wp2_with fail
      rw [show decide ((l.length : Int) ≤ 6) = true from by simp; omega]
      refine (require_yes _).mono ?_
      rintro e w' ⟨rfl, rfl⟩
      go_wp2_with fail
      go_loop [13] (fun i => ∃ k : Nat, k ≤ l.length ∧ i = .int .i64 k ∧ Hid ((l.take k).all Vm.dig = true)) (fun i => l.length - (intOf i).toNat)
      case atStart => exact ⟨0, Nat.zero_le _, rfl, rfl⟩
      case round =>
        obtain ⟨k, hk, rfl, hall⟩ := hrel
        by_cases hlt : k < l.length
        · obtain ⟨c, hc, hc'⟩ := byte_at l k hlt
          have HS := Lib.hid (all_snoc l Vm.dig k hlt)
          rw [hc'] at HS
          have HF : Vm.dig c = false → l.all Vm.dig = false := fun h => all_false_of l _ k hlt (by rw [hc']; exact h)
          have HF' := Lib.hid HF
          clear hc' HF
          go_wp2_with fail
          refine (isDigit_any c _).mono ?_
          rintro e w' ⟨rfl, rfl⟩
          cases hd3 : Vm.dig c
          · have HD3 := Lib.hid hd3
            clear hd3
            go_wp2_with fail
            refine (require_no _).mono ?_
            rintro e w' ⟨rfl, rfl⟩
            go_wp2_with fail
            refine ⟨rfl, ?_, rfl⟩
            rw [HE.out, HF'.out HD3.out]; rfl
          · have HD3 := Lib.hid hd3
            clear hd3
            go_wp2_with fail
            refine (require_yes _).mono ?_
            rintro e w' ⟨rfl, rfl⟩
            go_wp2_with fail
            go_round
            case rel => exact ⟨k + 1, by omega, by go_num, by show _ = _; rw [HS.out, hall.out, HD3.out]; rfl⟩
            case measure => simp [intOf]; omega
        · obtain rfl : k = l.length := by omega
          have hall2 : l.all Vm.dig = true := by have := hall.out; rwa [List.take_length] at this
          have HA := Lib.hid hall2
          clear hall hall2
          go_wp2_with fail
          go_end0
          exact ⟨by rw [HE.out, HA.out]; rfl, rfl⟩
    · go_enter Tryd.func74, Tryd.ntmps74
      go_wp2_with fail
      rw [show decide ((l.length : Int) ≤ 6) = false from by simp; omega]
      refine (require_no _).mono ?_
      rintro e w' ⟨rfl, rfl⟩
      go_wp2_with fail
      refine ⟨rfl, ?_, rfl⟩
      rw [H.out]; simp [h6, okOr]

/-- The first place of a byte; -1: nowhere. -/
def place (l : List UInt8) (c : UInt8) : Int := if Vm.has c l then ((Vm.fst c l).length : Int) else -1
theorem has_iff (l : List UInt8) (c : UInt8) : Vm.has c l = true ↔ (Vm.fst c l).length < l.length := by
  unfold Vm.has Vm.fst
  induction l with
  | nil => simp
  | cons b l ih =>
    rw [List.takeWhile_cons]
    by_cases hb : b = c
    · simp [hb]
    · have : (b != c) = true := by simp [hb]
      simp only [this, if_true, List.length_cons, List.contains_cons]
      have h2 : (c == b) = false := by simp; exact fun h => hb h.symm
      rw [h2, Bool.false_or, ih]; omega
theorem fst_le (l : List UInt8) (c : UInt8) : (Vm.fst c l).length ≤ l.length := tw_le _ l
set_option maxHeartbeats 800000 in
theorem place_any (l : List UInt8) (c : UInt8) (w : World) (hm : l.length ≤ 1000) :
    Calls Tryd.prog 67 #[.string ⟨l.toArray⟩, .int .u8 c.toNat] w fun e w' => e = .returned (.int .i64 (place l c)) ∧ w = w' := by
  go_enter Tryd.func67, Tryd.ntmps67
  go_wp2_with fail
  go_loop [5] (fun i => ∃ k : Nat, k ≤ (Vm.fst c l).length ∧ i = .int .i64 k) (fun i => l.length - (intOf i).toNat)
  case atStart => exact ⟨0, Nat.zero_le _, rfl⟩
  case round =>
    obtain ⟨k, hk, rfl⟩ := hrel
    have hle := fst_le l c
    by_cases hlt : k < l.length
    · obtain ⟨b, hc, hc'⟩ := byte_at l k hlt
      have HS := Lib.hid (tw_step (· != c) l k hlt hk)
      rw [hc'] at HS
      clear hc'
      by_cases hbc : b = c
      · subst hbc
        go_wp2_with fail
        go_ret
        refine ⟨?_, rfl⟩
        have h1 : ¬ (k + 1 ≤ (Vm.fst b l).length) := fun h => by have := HS.out.2 h; simp at this
        have h2 : k = (Vm.fst b l).length := by omega
        show Ending.returned (.int .i64 (k : Int)) = _
        rw [place, if_pos ((has_iff l b).2 (by omega)), ← h2]
      · have hne : ((b.toNat : Int) == (c.toNat : Int)) = false := by
          rw [beq_eq_false_iff_ne]; intro h; exact hbc (UInt8.toNat.inj (by omega))
        have h1 : k + 1 ≤ (Vm.fst c l).length := HS.out.1 (by simp [hbc])
        go_wp2_with fail
        go_round
        case rel => exact ⟨k + 1, h1, by go_num⟩
        case measure => simp [intOf]; omega
    · go_wp2_with fail
      go_ret
      refine ⟨?_, rfl⟩
      have : ¬ Vm.has c l = true := fun h => by have := (has_iff l c).1 h; omega
      show Ending.returned (.int .i64 (-1)) = _
      rw [place, if_neg this]
end Go.Proofs.YtaghhdgiegcimaaDoor
