/- What a version must have: require, requireEpoch, requirePart; and the same looks of the reference. -/
import Derived.Test.YtaghhdgiegcimaaDoorVa
namespace Go.Proofs.YtaghhdgiegcimaaDoor
open Go.RowKit

/-- How a panic with an error number leaves a function. -/
abbrev pan (n : Int) : Ending := .panicked [{ v := .iface 23 (.int .i64 n), recovered := false }]
def okOr (b : Bool) (n : Int) : Ending := if b then .returned (.tuple #[]) else pan n

set_option maxHeartbeats 400000 in
theorem require_any (b : Bool) (n : Int) (w : World) :
    Calls Tryd.prog 72 #[.bool b, .int .i64 n] w fun e w' => e = okOr b n ∧ w = w' := by
  have hnot : ∀ (x : Bool) (w : World), (Op.unary .not (.bool x)).run Tryd.prog w = .ok (.bool (!x)) w := fun _ _ => rfl
  cases b
  · go_enter Tryd.func72, Tryd.ntmps72
    go_wp2
    exact ⟨rfl, rfl, rfl⟩
  · go_enter Tryd.func72, Tryd.ntmps72
    go_wp2
    go_end0
    exact ⟨rfl, rfl⟩

theorem require_yes {n : Int} (w : World) : Calls Tryd.prog 72 #[.bool true, .int .i64 n] w fun e w' => e = .returned (.tuple #[]) ∧ w = w' := require_any true n w
theorem require_no {n : Int} (w : World) : Calls Tryd.prog 72 #[.bool false, .int .i64 n] w fun e w' => e = pan n ∧ w = w' := require_any false n w

theorem all_snoc (l : List UInt8) (p : UInt8 → Bool) (k : Nat) (h : k < l.length) : (l.take (k + 1)).all p = ((l.take k).all p && p l[k]) := by
  rw [List.take_succ_eq_append_getElem h, List.all_append]; simp only [List.all_cons, List.all_nil, Bool.and_true]
theorem all_false_of (l : List UInt8) (p : UInt8 → Bool) (k : Nat) (h : k < l.length) (hp : p l[k] = false) : l.all p = false := by
  rw [Bool.eq_false_iff]; intro ha; rw [List.all_eq_true] at ha; have := ha _ (List.getElem_mem h); simp [hp] at this
theorem partOk_cons (l : List UInt8) (h : 0 < l.length) : Vm.partOk l = (Vm.dig l[0] && (Vm.dig (l[l.length - 1]'(by omega)) && l.all Vm.ok1)) := by
  have hl : l.length - 1 < l.length := by omega
  have he : l.isEmpty = false := by cases l <;> simp at *
  simp [Vm.partOk, h, he, hl]

set_option maxHeartbeats 800000 in
theorem requirePart_any (l : List UInt8) (w : World) (hm : l.length ≤ 100) :
    Calls Tryd.prog 75 #[.string ⟨l.toArray⟩] w fun e w' => e = okOr (Vm.partOk l) 5 ∧ w = w' := by
  by_cases h0 : l = []
  · subst h0
    go_enter Tryd.func75, Tryd.ntmps75
    go_wp2_with fail
    refine (require_no _).mono ?_
    rintro e w' ⟨rfl, rfl⟩
    go_wp2_with fail
    exact ⟨rfl, rfl, rfl⟩
  · have hpos : 0 < l.length := List.length_pos_iff.2 h0
    have hlast : l.length - 1 < l.length := by omega
    have he : l.isEmpty = false := by cases l <;> simp at *
    obtain ⟨c0, hc0, hc0'⟩ := byte_at l 0 hpos
    obtain ⟨cn, hcn, hcn'⟩ := byte_at l (l.length - 1) hlast
    have H := Lib.hid (partOk_cons l hpos)
    rw [hc0', hcn'] at H
    clear hc0' hcn' h0
    cases hd : Vm.dig c0
    all_goals
      have HD := Lib.hid hd
      clear hd
      go_enter Tryd.func75, Tryd.ntmps75
      go_wp2_with fail
      refine (isDigit_any c0 _).mono ?_
      rintro e w' ⟨rfl, rfl⟩
      rw [HD.out]
      go_wp2_with fail
    · refine (require_no _).mono ?_
      rintro e w' ⟨rfl, rfl⟩
      go_wp2_with fail
      refine ⟨rfl, ?_, rfl⟩
      rw [H.out, HD.out]; rfl
    · refine (isDigit_any cn _).mono ?_
      rintro e w' ⟨rfl, rfl⟩
      cases hd2 : Vm.dig cn
      · have HD2 := Lib.hid hd2
        clear hd2
        go_wp2_with fail
        refine (require_no _).mono ?_
        rintro e w' ⟨rfl, rfl⟩
        go_wp2_with fail
        refine ⟨rfl, ?_, rfl⟩
        rw [H.out, HD.out, HD2.out]; rfl
      · have HD2 := Lib.hid hd2
        clear hd2
        go_wp2_with fail
        refine (require_yes _).mono ?_
        rintro e w' ⟨rfl, rfl⟩
        go_wp2_with fail
        have HE : Hid (Vm.partOk l = l.all Vm.ok1) := by
          show Vm.partOk l = l.all Vm.ok1
          rw [H.out, HD.out, HD2.out]; rfl
        clear hc0 hcn H HD HD2
        go_loop [21] (fun i => ∃ k : Nat, k ≤ l.length ∧ i = .int .i64 k ∧ Hid ((l.take k).all Vm.ok1 = true)) (fun i => l.length - (intOf i).toNat)
        case atStart => exact ⟨0, Nat.zero_le _, rfl, rfl⟩
        case round =>
          obtain ⟨k, hk, rfl, hall⟩ := hrel
          by_cases hlt : k < l.length
          · obtain ⟨c, hc, hc'⟩ := byte_at l k hlt
            have HS := Lib.hid (all_snoc l Vm.ok1 k hlt)
            rw [hc'] at HS
            have HF : Vm.ok1 c = false → l.all Vm.ok1 = false := fun h => all_false_of l _ k hlt (by rw [hc']; exact h)
            have HF' := Lib.hid HF
            clear hc' HF
            go_wp2_with fail
            refine (isDigit_any c _).mono ?_
            rintro e w' ⟨rfl, rfl⟩
            cases hd3 : Vm.dig c
            · have HD3 := Lib.hid hd3
              clear hd3
              go_wp2_with fail
              refine (isOther_any c _).mono ?_
              rintro e w' ⟨rfl, rfl⟩
              cases ho : Vm.oth c
              · have HO := Lib.hid ho
                clear ho
                go_wp2_with fail
                refine (require_no _).mono ?_
                rintro e w' ⟨rfl, rfl⟩
                go_wp2_with fail
                refine ⟨rfl, ?_, rfl⟩
                rw [HE.out, HF'.out (by rw [Vm.ok1, HD3.out, HO.out]; rfl)]; rfl
              · have HO := Lib.hid ho
                clear ho
                go_wp2_with fail
                refine (require_yes _).mono ?_
                rintro e w' ⟨rfl, rfl⟩
                go_wp2_with fail
                go_round
                case rel => exact ⟨k + 1, by omega, by go_num, by show _ = _; rw [HS.out, hall.out, Vm.ok1, HD3.out, HO.out]; rfl⟩
                case measure => simp [intOf]; omega
            · have HD3 := Lib.hid hd3
              clear hd3
              go_wp2_with fail
              refine (require_yes _).mono ?_
              rintro e w' ⟨rfl, rfl⟩
              go_wp2_with fail
              go_round
              case rel => exact ⟨k + 1, by omega, by go_num, by show _ = _; rw [HS.out, hall.out, Vm.ok1, HD3.out]; rfl⟩
              case measure => simp [intOf]; omega
          · obtain rfl : k = l.length := by omega
            have hall2 : l.all Vm.ok1 = true := by have := hall.out; rwa [List.take_length] at this
            have HA := Lib.hid hall2
            clear hall hall2
            go_wp2_with fail
            go_end0
            exact ⟨by rw [HE.out, HA.out]; rfl, rfl⟩
end Go.Proofs.YtaghhdgiegcimaaDoor
