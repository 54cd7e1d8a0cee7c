/- The reference's plain and value, walked. -/
import Derived.Test.YtaghhdgiegcimaaDoorWrp
namespace Go.Proofs.YtaghhdgiegcimaaDoor
open Go.RowKit

set_option maxHeartbeats 800000 in
theorem plain_any (l : List UInt8) (hl : l.length ≤ 200) (w : World) :
    Calls Tryd.prog 68 #[.string ⟨l.toArray⟩] w fun e w' => e = .returned (.bool (plainB l)) ∧ w = w' := by
  by_cases h0 : l = []
  · subst h0
    go_enter Tryd.func68, Tryd.ntmps68
    go_wp2_with fail
    go_ret
    exact ⟨rfl, rfl⟩
  have hpos : 0 < l.length := List.length_pos_iff.2 h0
  have he : l.isEmpty = false := by cases l <;> simp at *
  obtain ⟨c, hc, hc'⟩ := byte_at l 0 hpos
  have hh : (l.head? == some 48) = ((c.toNat : Int) == 48) := by
    cases l with
    | nil => exact absurd rfl h0
    | cons x t =>
      have : x = c := hc'
      subst this
      rw [Bool.eq_iff_iff]
      simp only [List.head?_cons, beq_iff_eq, Option.some.injEq]
      exact ⟨fun h => by rw [h]; rfl, fun h => UInt8.toNat.inj (show x.toNat = 48 by omega)⟩
  have HP : Hid (plainB l = (!(((c.toNat : Int) == 48) && decide (1 < l.length)) && l.all Vm.dig)) := by show _ = _; unfold plainB; rw [he, hh]; rfl
  clear hc' hh h0
  by_cases hz : ((c.toNat : Int) == 48) = true ∧ 1 < l.length
  · have HV : Hid (plainB l = false) := by show _ = _; rw [HP.out, hz.1, decide_eq_true hz.2]; rfl
    obtain ⟨hz1, hz2⟩ := hz
    go_enter Tryd.func68, Tryd.ntmps68
    go_wp2_with fail
    go_ret
    exact ⟨by rw [HV.out]; rfl, rfl⟩
  have HV : Hid (plainB l = l.all Vm.dig) := by
    show _ = _; rw [HP.out]
    cases hq : ((c.toNat : Int) == 48)
    · rfl
    · rw [decide_eq_false (fun h => hz ⟨hq, h⟩)]; rfl
  have hz2 : ((c.toNat : Int) == 48) = false ∨ (((c.toNat : Int) == 48) = true ∧ ¬ 1 < l.length) := by
    cases hq : ((c.toNat : Int) == 48)
    · exact Or.inl rfl
    · exact Or.inr ⟨rfl, fun h => hz ⟨hq, h⟩⟩
  clear hz HP
  have hz3 : ((c.toNat : Int) == 48) = false ∨ (((c.toNat : Int) == 48) = true ∧ decide ((1 : Int) < (l.length : Int)) = false) := by
    rcases hz2 with h | ⟨h1, h2⟩
    · exact Or.inl h
    · exact Or.inr ⟨h1, decide_eq_false (by omega)⟩
  clear hz2
  rcases hz3 with hq | ⟨hq, hq2⟩
  all_goals
    go_enter Tryd.func68, Tryd.ntmps68
    go_wp2_with fail
    go_loop [3] (fun i => ∃ k : Nat, k ≤ l.length ∧ i = .int .i64 k ∧ Hid ((l.take k).all Vm.dig = true)) (fun i => l.length - (intOf i).toNat)
    case atStart => exact ⟨0, Nat.zero_le _, rfl, rfl⟩
    case round =>
      obtain ⟨k, hk, rfl, hall⟩ := hrel
      by_cases hlt : k < l.length
      · obtain ⟨d, hd, hd'⟩ := byte_at l k hlt
        have HS := Lib.hid (all_snoc l Vm.dig k hlt)
        rw [hd'] at HS
        have HF : Hid (Vm.dig d = false → l.all Vm.dig = false) := fun h => all_false_of l _ k hlt (by rw [hd']; exact h)
        clear hd'
        go_wp2_with fail
        refine (refDigit_any d _).mono ?_
        rintro e w' ⟨g1, g2⟩; subst g2; subst g1
        cases hd3 : Vm.dig d
        · have HA := Lib.hid (HF.out hd3)
          clear hd3 HF
          go_wp2_with fail
          go_ret
          exact ⟨by rw [HV.out, HA.out]; rfl, rfl⟩
        · have HD3 := Lib.hid hd3
          clear hd3
          go_wp2_with fail
          go_round
          case rel => exact ⟨k + 1, by omega, by go_num, by show _ = _; rw [HS.out, hall.out, HD3.out]; rfl⟩
          case measure => simp [intOf]; omega
      · obtain rfl : k = l.length := by omega
        have HA : Hid (l.all Vm.dig = true) := by show _ = _; have := hall.out; rwa [List.take_length] at this
        clear hall
        go_wp2_with fail
        go_ret
        exact ⟨by rw [HV.out, HA.out]; rfl, rfl⟩
theorem num_mono (l : List UInt8) (k : Nat) : Vm.num (l.take k) ≤ Vm.num l := by
  have h : l.take k ++ l.drop k = l := List.take_append_drop k l
  have mono : ∀ (m : List UInt8) (a : Nat), a ≤ m.foldl (fun n c => 10 * n + (c.toNat - 48)) a := fun m => by
    induction m with
    | nil => intro a; exact Nat.le_refl _
    | cons c m ih => intro a; rw [List.foldl_cons]; exact Nat.le_trans (by omega) (ih _)
  have e : Vm.num l = (l.drop k).foldl (fun n c => 10 * n + (c.toNat - 48)) (Vm.num (l.take k)) := by
    conv => lhs; rw [← h]
    unfold Vm.num
    rw [List.foldl_append]
  rw [e]
  exact mono _ _
def valR (l : List UInt8) (most : Nat) : Ending := if Vm.num l ≤ most then .returned (.tuple #[.int .u64 (Vm.num l), .bool true]) else .returned (.tuple #[.int .u64 0, .bool false])
set_option maxHeartbeats 800000 in
theorem value_any (l : List UInt8) (most : Nat) (hl : l.length ≤ 200) (hd : l.all Vm.dig = true) (hm : 9 ≤ most) (hm2 : most ≤ 9007199254740991) (w : World) :
    Calls Tryd.prog 69 #[.string ⟨l.toArray⟩, .int .u64 most] w fun e w' => e = valR l most ∧ w = w' := by
  go_enter Tryd.func69, Tryd.ntmps69
  go_wp2_with fail
  go_loop [6, 7] (fun n i => ∃ k : Nat, k ≤ l.length ∧ i = .int .i64 k ∧ ∃ x : Nat, n = .int .u64 x ∧ x ≤ most ∧ Hid (Vm.num (l.take k) = x)) (fun _ i => l.length - (intOf i).toNat)
  case atStart => exact ⟨0, Nat.zero_le _, rfl, 0, rfl, by omega, rfl⟩
  case round =>
    obtain ⟨k, hk, rfl, x, rfl, hx, HS⟩ := hrel
    by_cases hlt : k < l.length
    · obtain ⟨c, hc, hc'⟩ := byte_at l k hlt
      have hdc : Vm.dig c = true := by rw [List.all_eq_true] at hd; exact hd c (by rw [← hc']; exact List.getElem_mem hlt)
      rw [Wm.dig_iff] at hdc
      have hnum : Vm.num (l.take (k + 1)) = 10 * x + (c.toNat - 48) := by
        rw [List.take_succ_eq_append_getElem hlt, hc', Wm.num_snoc, HS.out]
      have hle := num_mono l (k + 1)
      rw [hnum] at hle
      have HN := Lib.hid hnum
      have HL := Lib.hid hle
      obtain ⟨d, hdd⟩ : ∃ d : Nat, c.toNat = 48 + d := ⟨c.toNat - 48, by omega⟩
      have hd9 : d ≤ 9 := by omega
      rw [hdd, show 48 + d - 48 = d from by omega] at HN HL
      have hcd : (c.toNat : Int) = 48 + d := by omega
      clear hc' hdc hnum hle HS
      by_cases hb : 10 * x + d ≤ most
      · have hcmp : ¬ ((most : Int) - d) / 10 < x := by omega
        go_wp2_with fail
        go_round
        case rel => exact ⟨k + 1, by omega, by go_num, 10 * x + d, congrArg (Value.int .u64) (by omega), hb, HN⟩
        case measure => simp [intOf]; omega
      · have hcmp : ((most : Int) - d) / 10 < x := by omega
        have HR : Hid (valR l most = .returned (.tuple #[.int .u64 0, .bool false])) := by show _ = _; unfold valR; rw [if_neg (by have := HL.out; omega)]
        go_wp2_with fail
        go_ret2
        exact ⟨by rw [HR.out]; rfl, rfl⟩
    · obtain rfl : k = l.length := by omega
      have HV : Hid (Vm.num l = x) := by show _ = _; have := HS.out; rwa [List.take_length] at this
      have HR : Hid (valR l most = .returned (.tuple #[.int .u64 x, .bool true])) := by show _ = _; unfold valR; rw [HV.out, if_pos hx]
      clear HS
      go_wp2_with fail
      go_ret2
      exact ⟨by rw [HR.out]; rfl, rfl⟩
end Go.Proofs.YtaghhdgiegcimaaDoor
