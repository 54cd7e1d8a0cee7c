/- The reference's part, bare and run; the first number that is not 0; two runs compared. -/
import Derived.Test.YtaghhdgiegcimaaDoorVd
namespace Go.Proofs.YtaghhdgiegcimaaDoor
open Go.RowKit

set_option maxHeartbeats 800000 in
theorem refPart_any (l : List UInt8) (w : World) (hm : l.length ≤ 100) :
    Calls Tryd.prog 79 #[.string ⟨l.toArray⟩] w fun e w' => e = .returned (.bool (Vm.partOk l)) ∧ w = w' := by
  have hnot : ∀ (x : Bool) (w : World), (Op.unary .not (.bool x)).run Tryd.prog w = .ok (.bool (!x)) w := fun _ _ => rfl
  by_cases h0 : l = []
  · subst h0
    go_enter Tryd.func79, Tryd.ntmps79
    go_wp2_with fail
    go_ret
    exact ⟨rfl, rfl⟩
  · have hpos : 0 < l.length := List.length_pos_iff.2 h0
    have hlast : l.length - 1 < l.length := by omega
    have he : l.isEmpty = false := by cases l <;> simp at *
    obtain ⟨c0, hc0, hc0'⟩ := byte_at l 0 hpos
    obtain ⟨cn, hcn, hcn'⟩ := byte_at l (l.length - 1) hlast
    have H := Lib.hid (partOk_cons l hpos)
    rw [hc0', hcn'] at H
    clear hc0' hcn' h0
    cases hd : Vm.dig c0
    all_goals
      have HD := Lib.hid hd
      clear hd
      go_enter Tryd.func79, Tryd.ntmps79
      go_wp2_with fail
      refine (refDigit_any c0 _).mono ?_
      rintro e w' ⟨rfl, rfl⟩
      rw [HD.out]
      go_wp2_with fail
    · go_ret
      exact ⟨by rw [H.out, HD.out]; rfl, rfl⟩
    · refine (refDigit_any cn _).mono ?_
      rintro e w' ⟨rfl, rfl⟩
      cases hd2 : Vm.dig cn
      · have HD2 := Lib.hid hd2
        clear hd2
        go_wp2_with fail
        go_ret
        exact ⟨by rw [H.out, HD.out, HD2.out]; rfl, rfl⟩
      · have HD2 := Lib.hid hd2
        clear hd2
        go_wp2_with fail
        have HE : Hid (Vm.partOk l = l.all Vm.ok1) := by
          show Vm.partOk l = l.all Vm.ok1
          rw [H.out, HD.out, HD2.out]; rfl
        clear hc0 hcn H HD HD2
        go_loop [3] (fun i => ∃ k : Nat, k ≤ l.length ∧ i = .int .i64 k ∧ Hid ((l.take k).all Vm.ok1 = true)) (fun i => l.length - (intOf i).toNat)
        case atStart => exact ⟨0, Nat.zero_le _, rfl, rfl⟩
        case round =>
          obtain ⟨k, hk, rfl, hall⟩ := hrel
          by_cases hlt : k < l.length
          · obtain ⟨c, hc, hc'⟩ := byte_at l k hlt
            have HS := Lib.hid (all_snoc l Vm.ok1 k hlt)
            rw [hc'] at HS
            have HF : Vm.ok1 c = false → l.all Vm.ok1 = false := fun h => all_false_of l _ k hlt (by rw [hc']; exact h)
            have HF' := Lib.hid HF
            clear hc' HF
            go_wp2_with fail
            refine (refDigit_any c _).mono ?_
            rintro e w' ⟨rfl, rfl⟩
            cases hd3 : Vm.dig c
            · have HD3 := Lib.hid hd3
              clear hd3
              go_wp2_with fail
              refine (refLetter_any c _).mono ?_
              rintro e w' ⟨rfl, rfl⟩
              cases ho : Vm.ltr c
              · have HO := Lib.hid ho
                clear ho
                by_cases b1 : c.toNat = 46
                · have n1 : ((c.toNat : Int) != 46) = false := by simp [b1]
                  have HB : Hid (Vm.ok1 c = true) := by show _ = _; simp [Vm.ok1, Vm.oth, b1]
                  clear b1
                  go_wp2_with fail
                  go_round
                  case rel => exact ⟨k + 1, by omega, by go_num, by show _ = _; rw [HS.out, hall.out, HB.out]; rfl⟩
                  case measure => simp [intOf]; omega
                · by_cases b2 : c.toNat = 43
                  · have n1 : ((c.toNat : Int) != 46) = true := by simp; omega
                    have n2 : ((c.toNat : Int) != 43) = false := by simp [b2]
                    have HB : Hid (Vm.ok1 c = true) := by show _ = _; simp [Vm.ok1, Vm.oth, b2]
                    clear b1 b2
                    go_wp2_with fail
                    go_round
                    case rel => exact ⟨k + 1, by omega, by go_num, by show _ = _; rw [HS.out, hall.out, HB.out]; rfl⟩
                    case measure => simp [intOf]; omega
                  · by_cases b3 : c.toNat = 126
                    · have n1 : ((c.toNat : Int) != 46) = true := by simp; omega
                      have n2 : ((c.toNat : Int) != 43) = true := by simp; omega
                      have n3 : ((c.toNat : Int) != 126) = false := by simp [b3]
                      have HB : Hid (Vm.ok1 c = true) := by show _ = _; simp [Vm.ok1, Vm.oth, b3]
                      clear b1 b2 b3
                      go_wp2_with fail
                      go_round
                      case rel => exact ⟨k + 1, by omega, by go_num, by show _ = _; rw [HS.out, hall.out, HB.out]; rfl⟩
                      case measure => simp [intOf]; omega
                    · have n1 : ((c.toNat : Int) != 46) = true := by simp; omega
                      have n2 : ((c.toNat : Int) != 43) = true := by simp; omega
                      have n3 : ((c.toNat : Int) != 126) = true := by simp; omega
                      have HB : Hid (Vm.ok1 c = false) := by show _ = _; simp [Vm.ok1, Vm.oth, b1, b2, b3, HD3.out, HO.out]
                      clear b1 b2 b3
                      go_wp2_with fail
                      go_ret
                      exact ⟨by rw [HE.out, HF'.out HB.out]; rfl, rfl⟩
              · have HO := Lib.hid ho
                clear ho
                go_wp2_with fail
                go_round
                case rel => exact ⟨k + 1, by omega, by go_num, by show _ = _; rw [HS.out, hall.out, Vm.ok1, Vm.oth, HD3.out, HO.out]; rfl⟩
                case measure => simp [intOf]; omega
            · have HD3 := Lib.hid hd3
              clear hd3
              go_wp2_with fail
              go_round
              case rel => exact ⟨k + 1, by omega, by go_num, by show _ = _; rw [HS.out, hall.out, Vm.ok1, HD3.out]; rfl⟩
              case measure => simp [intOf]; omega
          · obtain rfl : k = l.length := by omega
            have hall2 : l.all Vm.ok1 = true := by have := hall.out; rwa [List.take_length] at this
            have HA := Lib.hid hall2
            clear hall hall2
            go_wp2_with fail
            go_ret
            exact ⟨by rw [HE.out, HA.out]; rfl, rfl⟩

/-- The length of the text in a slot: for a loop's measure. -/
def strLen : Value → Nat | .string s => s.data.size | _ => 0
theorem extract_from (m : List UInt8) (k : Nat) : (⟨m.toArray⟩ : ByteArray).extract k m.length = ⟨(m.drop k).toArray⟩ := by
  rw [ByteArray.extract_mk, List.take_of_length_le (by simp)]
theorem extract_to (m : List UInt8) (k : Nat) : (⟨m.toArray⟩ : ByteArray).extract 0 k = ⟨(m.take k).toArray⟩ := by
  rw [ByteArray.extract_mk, List.drop_zero, Nat.sub_zero]
/-- What the reference's bare leaves. -/
def bareR : List UInt8 → List UInt8
  | [] => []
  | b :: r => if r.isEmpty then b :: r else if b == 48 then bareR r else b :: r
theorem bareR_eq : ∀ l : List UInt8, l ≠ [] → bareR l = Vm.bare l
  | [], h => absurd rfl h
  | [b], _ => by
    by_cases hb : b = 48
    · subst hb; rfl
    · have : (b == 48) = false := by simp [hb]
      simp [bareR, Vm.bare, this]
  | b :: c :: r, _ => by
    have ih := bareR_eq (c :: r) (by simp)
    rw [bareR]
    simp only [List.isEmpty_cons, Bool.false_eq_true, if_false]
    by_cases hb : b = 48
    · subst hb
      simp only [beq_self_eq_true, if_true]
      rw [ih]; simp [Vm.bare]
    · have : (b == 48) = false := by simp [hb]
      rw [this]; simp [Vm.bare, this]
theorem bareR_step (l : List UInt8) (h : 1 < l.length) : bareR l = if (l[0]'(by omega)).toNat == 48 then bareR (l.drop 1) else l := by
  match l, h with
  | b :: c :: r, _ =>
    rw [bareR]
    have e : (b == 48) = (b.toNat == 48) := by
      rw [Bool.eq_iff_iff, beq_iff_eq, beq_iff_eq]; exact ⟨fun h => by rw [h]; rfl, fun h => UInt8.toNat.inj (by rw [h]; rfl)⟩
    simp [e]
theorem bareR_short (l : List UInt8) (h : ¬ 1 < l.length) : bareR l = l := by
  match l, h with
  | [], _ => rfl
  | [b], _ => rfl
  | b :: c :: r, h => simp at h
set_option maxHeartbeats 800000 in
theorem refBare_any (l : List UInt8) (w : World) (hm : l.length ≤ 1000) :
    Calls Tryd.prog 50 #[.string ⟨l.toArray⟩] w fun e w' => e = .returned (.string ⟨(bareR l).toArray⟩) ∧ w = w' := by
  go_enter Tryd.func50, Tryd.ntmps50
  go_wp2_with fail
  go_loop [0] (fun s => ∃ m : List UInt8, m.length ≤ 1000 ∧ s = .string ⟨m.toArray⟩ ∧ Hid (bareR l = bareR m)) (fun s => strLen s)
  case atStart => exact ⟨l, hm, rfl, rfl⟩
  case round =>
    obtain ⟨m, hm', rfl, HE⟩ := hrel
    by_cases h1 : 1 < m.length
    · obtain ⟨c, hc, hc'⟩ := byte_at m 0 (by omega)
      have HS := Lib.hid (bareR_step m h1)
      rw [hc'] at HS
      clear hc'
      by_cases h48 : c.toNat = 48
      · have n1 : ((c.toNat : Int) == 48) = true := by simp [h48]
        have HB : Hid (bareR m = bareR (m.drop 1)) := by show _ = _; rw [HS.out]; simp [h48]
        clear h48 HS
        go_wp2_with fail
        go_round
        case rel => exact ⟨m.drop 1, by simp; omega, by rw [extract_from], by show _ = _; rw [HE.out, HB.out]⟩
        case measure => rw [extract_from]; simp [strLen]; omega
      · have n1 : ((c.toNat : Int) == 48) = false := by simp; omega
        have HB : Hid (bareR m = m) := by show _ = _; rw [HS.out]; simp [h48]
        clear h48 HS
        go_wp2_with fail
        go_ret
        exact ⟨by rw [HE.out, HB.out]; rfl, rfl⟩
    · have HB := Lib.hid (bareR_short m h1)
      go_wp2_with fail
      go_ret
      exact ⟨by rw [HE.out, HB.out]; rfl, rfl⟩

/-- A run of the reference: what begins it, what is behind. -/
theorem run_true (l : List UInt8) : l.takeWhile (fun c => Vm.dig c == true) = Vm.digs l ∧ l.dropWhile (fun c => Vm.dig c == true) = Vm.undigs l := by
  have : (fun c => Vm.dig c == true) = Vm.dig := by funext c; cases Vm.dig c <;> rfl
  rw [this]; exact ⟨rfl, rfl⟩
theorem run_false (l : List UInt8) : l.takeWhile (fun c => Vm.dig c == false) = Vm.oths l ∧ l.dropWhile (fun c => Vm.dig c == false) = Vm.unoths l := by
  have : (fun c => Vm.dig c == false) = fun c => !Vm.dig c := by funext c; cases Vm.dig c <;> rfl
  rw [this]; exact ⟨rfl, rfl⟩
set_option maxHeartbeats 800000 in
theorem run_any (l : List UInt8) (b : Bool) (w : World) (hm : l.length ≤ 1000) :
    Calls Tryd.prog 80 #[.string ⟨l.toArray⟩, .bool b] w fun e w' => e = .returned (.tuple #[.string ⟨(l.takeWhile (fun c => Vm.dig c == b)).toArray⟩, .string ⟨(l.dropWhile (fun c => Vm.dig c == b)).toArray⟩]) ∧ Below w.heap.size w w' := by
  have hle := tw_le (fun c => Vm.dig c == b) l
  have HT := Lib.hid (tw_take (fun c => Vm.dig c == b) l)
  have HD := Lib.hid (tw_drop (fun c => Vm.dig c == b) l)
  have HS := Lib.hid (tw_step (fun c => Vm.dig c == b) l)
  obtain ⟨n, hn⟩ : ∃ n, (l.takeWhile (fun c => Vm.dig c == b)).length = n := ⟨_, rfl⟩
  have HT' : Hid (l.take n = l.takeWhile (fun c => Vm.dig c == b)) := by have := HT.out; rwa [hn] at this
  have HD' : Hid (l.drop n = l.dropWhile (fun c => Vm.dig c == b)) := by have := HD.out; rwa [hn] at this
  have HS' : Hid (∀ (k : Nat) (h : k < l.length), k ≤ n → ((Vm.dig l[k] == b) = true ↔ k + 1 ≤ n)) := by have := HS.out; rwa [hn] at this
  rw [hn] at hle
  clear hn HT HD HS
  go_enter Tryd.func80, Tryd.ntmps80
  go_wp2_with fail
  go_loop [6] (fun i => ∃ k : Nat, k ≤ n ∧ i = .int .i64 k) (fun i => l.length - (intOf i).toNat)
  case atStart => exact ⟨0, Nat.zero_le _, rfl⟩
  case round =>
    obtain ⟨k, hk, rfl⟩ := hrel
    by_cases hlt : k < l.length
    · obtain ⟨c, hc, hc'⟩ := byte_at l k hlt
      have HK := Lib.hid (HS'.out k hlt hk)
      rw [hc'] at HK
      clear hc'
      cases hd : Vm.dig c == b
      · have hz : ¬ (k + 1 ≤ n) := fun h => by have := HK.out.2 h; rw [hd] at this; cases this
        obtain rfl : n = k := by omega
        go_wp2_with fail
        refine (refDigit_any c _).mono ?_
        rintro e w' ⟨rfl, rfl⟩
        go_wp2_with fail
        go_quiet (fail)
        go_wp2_with fail
        go_ret2
        refine ⟨?_, below_drewN (Below.refl _ _) _⟩
        show Ending.returned (.tuple #[.string (ByteArray.extract ⟨l.toArray⟩ 0 n), .string (ByteArray.extract ⟨l.toArray⟩ n l.length)]) = _
        rw [extract_from, extract_to, HT'.out, HD'.out]
      · have hz : k + 1 ≤ n := HK.out.1 hd
        go_wp2_with fail
        refine (refDigit_any c _).mono ?_
        rintro e w' ⟨rfl, rfl⟩
        go_wp2_with fail
        go_round
        case rel => exact ⟨k + 1, hz, by go_num⟩
        case measure => simp [intOf]; omega
    · obtain rfl : n = l.length := by omega
      obtain rfl : k = l.length := by omega
      go_wp2_with fail
      go_quiet (fail)
      go_wp2_with fail
      go_ret2
      refine ⟨?_, below_drewN (Below.refl _ _) _⟩
      show Ending.returned (.tuple #[.string (ByteArray.extract ⟨l.toArray⟩ 0 l.length), .string ⟨([] : List UInt8).toArray⟩]) = _
      rw [extract_to, HT'.out, ← HD'.out, List.drop_length]
end Go.Proofs.YtaghhdgiegcimaaDoor
