/- The leaves of the versions' functions: which byte is a digit, a letter, another; how a byte of a run stands. What a version must have: require, requireEpoch, requirePart; and the same looks of the reference. The cuts of a part into runs, digits without noughts, and the library's calls in the words of the plain functions. The rest of the looks: requireEpoch, and the reference's part, place, bare, run. The reference's part, bare and run; the first number that is not 0; two runs compared. -/
import Derived.Test.YtkdildgdodnbbaaGreatDoorRows
import Derived.Test.YtkdildgdodnbbaaGreatDoorBa
import Derived.WalkKit
import Derived.Lib.Hide
import Derived.WalkSpells
import Derived.WalkLawsBesides
import Derived.Test.YtkdildgdodnbbaaGreatDoorShelf
import Derived.BigQuiet
import Derived.Deep.QuietTactic
namespace Go.Proofs.YtkdildgdodnbbaaGreatDoor
open Go.RowKit

theorem beq46 (c : UInt8) : ((c.toNat : Int) == 46) = (c.toNat == 46) := by rw [Bool.eq_iff_iff]; simp; omega
theorem beq43 (c : UInt8) : ((c.toNat : Int) == 43) = (c.toNat == 43) := by rw [Bool.eq_iff_iff]; simp; omega
theorem beq126 (c : UInt8) : ((c.toNat : Int) == 126) = (c.toNat == 126) := by rw [Bool.eq_iff_iff]; simp; omega
set_option maxHeartbeats 400000 in
theorem isDigit_any (c : UInt8) (w : World) :
    Calls Tryz.prog 193 #[.int .u8 c.toNat] w fun e w' => e = .returned (.bool (Vm.dig c)) ∧ w = w' := by
  unfold Vm.dig
  by_cases h1 : 48 ≤ c.toNat <;> by_cases h2 : c.toNat ≤ 57
  all_goals
    go_enter Tryz.func193, Tryz.ntmps193
    go_wp2
  all_goals
    go_ret
    exact ⟨by first | (simp [h1, h2]; done) | (simp [h1, h2]; omega), rfl⟩
set_option maxHeartbeats 400000 in
theorem refDigit_any (c : UInt8) (w : World) :
    Calls Tryz.prog 71 #[.int .u8 c.toNat] w fun e w' => e = .returned (.bool (Vm.dig c)) ∧ w = w' := by
  unfold Vm.dig
  by_cases h1 : 48 ≤ c.toNat <;> by_cases h2 : c.toNat ≤ 57
  all_goals
    go_enter Tryz.func71, Tryz.ntmps71
    go_wp2
  all_goals
    go_ret
    exact ⟨by first | (simp [h1, h2]; done) | (simp [h1, h2]; omega), rfl⟩
set_option maxHeartbeats 400000 in
theorem isLetter_any (c : UInt8) (w : World) :
    Calls Tryz.prog 200 #[.int .u8 c.toNat] w fun e w' => e = .returned (.bool (Vm.ltr c)) ∧ w = w' := by
  unfold Vm.ltr
  by_cases h1 : 97 ≤ c.toNat <;> by_cases h2 : c.toNat ≤ 122 <;> by_cases h3 : 65 ≤ c.toNat <;> by_cases h4 : c.toNat ≤ 90
  all_goals
    go_enter Tryz.func200, Tryz.ntmps200
    go_wp2
  all_goals
    go_ret
    exact ⟨by first | (simp [h1, h2, h3, h4]; done) | (simp [h1, h2, h3, h4]; omega), rfl⟩
set_option maxHeartbeats 400000 in
theorem refLetter_any (c : UInt8) (w : World) :
    Calls Tryz.prog 131 #[.int .u8 c.toNat] w fun e w' => e = .returned (.bool (Vm.ltr c)) ∧ w = w' := by
  unfold Vm.ltr
  by_cases h1 : 97 ≤ c.toNat <;> by_cases h2 : c.toNat ≤ 122 <;> by_cases h3 : 65 ≤ c.toNat <;> by_cases h4 : c.toNat ≤ 90
  all_goals
    go_enter Tryz.func131, Tryz.ntmps131
    go_wp2
  all_goals
    go_ret
    exact ⟨by first | (simp [h1, h2, h3, h4]; done) | (simp [h1, h2, h3, h4]; omega), rfl⟩
set_option maxHeartbeats 400000 in
theorem isOther_any (c : UInt8) (w : World) :
    Calls Tryz.prog 194 #[.int .u8 c.toNat] w fun e w' => e = .returned (.bool (Vm.oth c)) ∧ w = w' := by
  go_enter Tryz.func194, Tryz.ntmps194
  go_wp2_with fail
  refine (isLetter_any c _).mono ?_
  rintro e w' ⟨rfl, rfl⟩
  cases hl : Vm.ltr c
  all_goals
    have HL := Lib.hid hl
    clear hl
    go_wp2
  all_goals
    go_ret
    refine ⟨?_, rfl⟩
    have hl := HL.out
    clear HL
    unfold Vm.oth
    rw [hl]
    first | (simp [beq46, beq43, beq126]; done) | (simp [beq46, beq43, beq126]; omega) | (simp [beq46, beq43, beq126, Bool.or_assoc]; done)
theorem wrap_byte (c : UInt8) : wrap64 (c.toNat : Int) = c.toNat := IntWalk.wrap64_in _ ⟨by omega, by have := byte_lt c; omega⟩
theorem wrap_256 (c : UInt8) : wrap64 (256 + (c.toNat : Int)) = 256 + c.toNat := IntWalk.wrap64_in _ ⟨by omega, by have := byte_lt c; omega⟩
theorem mark_end (l : List UInt8) (i : Nat) (h : l.length ≤ i) : Vm.mark l i = 0 := by simp [Vm.mark, h]
theorem mark_at (l : List UInt8) (i : Nat) (h : i < l.length) : Vm.mark l i = Vm.markB l[i] := by
  unfold Vm.mark Vm.markB
  rw [if_neg (by omega)]
  simp [h]
set_option maxHeartbeats 400000 in
theorem rank_any (l : List UInt8) (i : Nat) (w : World) :
    Calls Tryz.prog 205 #[.string ⟨l.toArray⟩, .int .i64 i] w fun e w' => e = .returned (.int .i64 (Vm.mark l i)) ∧ w = w' := by
  by_cases h : i < l.length
  · obtain ⟨c, hc, hc'⟩ := byte_at l i h
    have H := Lib.hid (mark_at l i h)
    rw [hc'] at H
    clear hc'
    by_cases h1 : c.toNat = 126
    · have h2 : ((c.toNat : Int) == 126) = true := by simp [h1]
      have H1 := Lib.hid h1
      clear h1
      go_enter Tryz.func205, Tryz.ntmps205
      go_wp2_with fail
      go_ret
      exact ⟨by rw [H.out]; simp [Vm.markB, H1.out], rfl⟩
    · have h2 : ((c.toNat : Int) == 126) = false := by simp; omega
      go_enter Tryz.func205, Tryz.ntmps205
      go_wp2_with fail
      refine (isLetter_any c _).mono ?_
      rintro e w' ⟨rfl, rfl⟩
      cases hl : Vm.ltr c
      all_goals
        have HL := Lib.hid hl
        clear hl
        go_wp2
      all_goals
        go_ret
        exact ⟨by rw [H.out]; simp [Vm.markB, HL.out, h1, wrap_byte, wrap_256], rfl⟩
  · have H := Lib.hid (mark_end l i (by omega))
    go_enter Tryz.func205, Tryz.ntmps205
    go_wp2_with fail
    go_ret
    exact ⟨by rw [H.out]; rfl, rfl⟩
end Go.Proofs.YtkdildgdodnbbaaGreatDoor
namespace Go.Proofs.YtkdildgdodnbbaaGreatDoor
open Go.RowKit

theorem all_snoc (l : List UInt8) (p : UInt8 → Bool) (k : Nat) (h : k < l.length) : (l.take (k + 1)).all p = ((l.take k).all p && p l[k]) := by
  rw [List.take_succ_eq_append_getElem h, List.all_append]; simp only [List.all_cons, List.all_nil, Bool.and_true]
theorem all_false_of (l : List UInt8) (p : UInt8 → Bool) (k : Nat) (h : k < l.length) (hp : p l[k] = false) : l.all p = false := by
  rw [Bool.eq_false_iff]; intro ha; rw [List.all_eq_true] at ha; have := ha _ (List.getElem_mem h); simp [hp] at this
theorem partOk_cons (l : List UInt8) (h : 0 < l.length) : Vm.partOk l = (Vm.dig l[0] && (Vm.dig (l[l.length - 1]'(by omega)) && l.all Vm.ok1)) := by
  have hl : l.length - 1 < l.length := by omega
  have he : l.isEmpty = false := by cases l <;> simp at *
  simp [Vm.partOk, h, he, hl]

set_option maxHeartbeats 800000 in
theorem requirePart_any (l : List UInt8) (w : World) (hm : l.length ≤ 100) :
    Calls Tryz.prog 186 #[.string ⟨l.toArray⟩] w fun e w' => e = okOr (Vm.partOk l) 5 ∧ w = w' := by
  by_cases h0 : l = []
  · subst h0
    go_enter Tryz.func186, Tryz.ntmps186
    go_wp2_with fail
    refine (require_no _).mono ?_
    rintro e w' ⟨rfl, rfl⟩
    go_wp2_with fail
    exact ⟨rfl, rfl, rfl⟩
  · have hpos : 0 < l.length := List.length_pos_iff.2 h0
    have hlast : l.length - 1 < l.length := by omega
    have he : l.isEmpty = false := by cases l <;> simp at *
    obtain ⟨c0, hc0, hc0'⟩ := byte_at l 0 hpos
    obtain ⟨cn, hcn, hcn'⟩ := byte_at l (l.length - 1) hlast
    have H := Lib.hid (partOk_cons l hpos)
    rw [hc0', hcn'] at H
    clear hc0' hcn' h0
    cases hd : Vm.dig c0
    all_goals
      have HD := Lib.hid hd
      clear hd
      go_enter Tryz.func186, Tryz.ntmps186
      go_wp2_with fail
      refine (isDigit_any c0 _).mono ?_
      rintro e w' ⟨rfl, rfl⟩
      rw [HD.out]
      go_wp2_with fail
    · refine (require_no _).mono ?_
      rintro e w' ⟨rfl, rfl⟩
      go_wp2_with fail
      refine ⟨rfl, ?_, rfl⟩
      rw [H.out, HD.out]; rfl
    · refine (isDigit_any cn _).mono ?_
      rintro e w' ⟨rfl, rfl⟩
      cases hd2 : Vm.dig cn
      · have HD2 := Lib.hid hd2
        clear hd2
        go_wp2_with fail
        refine (require_no _).mono ?_
        rintro e w' ⟨rfl, rfl⟩
        go_wp2_with fail
        refine ⟨rfl, ?_, rfl⟩
        rw [H.out, HD.out, HD2.out]; rfl
      · have HD2 := Lib.hid hd2
        clear hd2
        go_wp2_with fail
        refine (require_yes _).mono ?_
        rintro e w' ⟨rfl, rfl⟩
        go_wp2_with fail
        have HE : Hid (Vm.partOk l = l.all Vm.ok1) := by
          show Vm.partOk l = l.all Vm.ok1
          rw [H.out, HD.out, HD2.out]; rfl
        clear hc0 hcn H HD HD2
        go_loop [21] (fun i => ∃ k : Nat, k ≤ l.length ∧ i = .int .i64 k ∧ Hid ((l.take k).all Vm.ok1 = true)) (fun i => l.length - (intOf i).toNat)
        case atStart => exact ⟨0, Nat.zero_le _, rfl, rfl⟩
        case round =>
          obtain ⟨k, hk, rfl, hall⟩ := hrel
          by_cases hlt : k < l.length
          · obtain ⟨c, hc, hc'⟩ := byte_at l k hlt
            have HS := Lib.hid (all_snoc l Vm.ok1 k hlt)
            rw [hc'] at HS
            have HF : Vm.ok1 c = false → l.all Vm.ok1 = false := fun h => all_false_of l _ k hlt (by rw [hc']; exact h)
            have HF' := Lib.hid HF
            clear hc' HF
            go_wp2_with fail
            refine (isDigit_any c _).mono ?_
            rintro e w' ⟨rfl, rfl⟩
            cases hd3 : Vm.dig c
            · have HD3 := Lib.hid hd3
              clear hd3
              go_wp2_with fail
              refine (isOther_any c _).mono ?_
              rintro e w' ⟨rfl, rfl⟩
              cases ho : Vm.oth c
              · have HO := Lib.hid ho
                clear ho
                go_wp2_with fail
                refine (require_no _).mono ?_
                rintro e w' ⟨rfl, rfl⟩
                go_wp2_with fail
                refine ⟨rfl, ?_, rfl⟩
                rw [HE.out, HF'.out (by rw [Vm.ok1, HD3.out, HO.out]; rfl)]; rfl
              · have HO := Lib.hid ho
                clear ho
                go_wp2_with fail
                refine (require_yes _).mono ?_
                rintro e w' ⟨rfl, rfl⟩
                go_wp2_with fail
                go_round
                case rel => exact ⟨k + 1, by omega, by go_num, by show _ = _; rw [HS.out, hall.out, Vm.ok1, HD3.out, HO.out]; rfl⟩
                case measure => simp [intOf]; omega
            · have HD3 := Lib.hid hd3
              clear hd3
              go_wp2_with fail
              refine (require_yes _).mono ?_
              rintro e w' ⟨rfl, rfl⟩
              go_wp2_with fail
              go_round
              case rel => exact ⟨k + 1, by omega, by go_num, by show _ = _; rw [HS.out, hall.out, Vm.ok1, HD3.out]; rfl⟩
              case measure => simp [intOf]; omega
          · obtain rfl : k = l.length := by omega
            have hall2 : l.all Vm.ok1 = true := by have := hall.out; rwa [List.take_length] at this
            have HA := Lib.hid hall2
            clear hall hall2
            go_wp2_with fail
            go_end0
            exact ⟨by rw [HE.out, HA.out]; rfl, rfl⟩
end Go.Proofs.YtkdildgdodnbbaaGreatDoor
namespace Go.Proofs.YtkdildgdodnbbaaGreatDoor
open Go.RowKit

def cs10 : List UInt8 := [48, 49, 50, 51, 52, 53, 54, 55, 56, 57]
theorem cs10_dig (c : UInt8) : cs10.contains c = Vm.dig c := u8_all (fun c => cs10.contains c) Vm.dig (by decide +kernel) c
theorem trim_undigs (l : List UInt8) : Lib.trimLeftS l cs10 = Vm.undigs l := by
  unfold Lib.trimLeftS Vm.undigs
  congr 1; funext c; exact cs10_dig c
theorem digs_take (l : List UInt8) : l.take (l.length - (Vm.undigs l).length) = Vm.digs l := by
  have h : Vm.digs l ++ Vm.undigs l = l := List.takeWhile_append_dropWhile
  have h2 : l.length - (Vm.undigs l).length = (Vm.digs l).length := by
    have := congrArg List.length h; rw [List.length_append] at this; omega
  rw [h2]
  exact take_app h
theorem undigs_le (l : List UInt8) : (Vm.undigs l).length ≤ l.length := by
  have h : Vm.digs l ++ Vm.undigs l = l := List.takeWhile_append_dropWhile
  have := congrArg List.length h; rw [List.length_append] at this; omega
theorem unoths_le (l : List UInt8) : (Vm.unoths l).length ≤ l.length := by
  have h : Vm.oths l ++ Vm.unoths l = l := List.takeWhile_append_dropWhile
  have := congrArg List.length h; rw [List.length_append] at this; omega
theorem oths_le (l : List UInt8) : (Vm.oths l).length ≤ l.length := by
  have h : Vm.oths l ++ Vm.unoths l = l := List.takeWhile_append_dropWhile
  have := congrArg List.length h; rw [List.length_append] at this; omega
theorem digs_le (l : List UInt8) : (Vm.digs l).length ≤ l.length := by
  have h : Vm.digs l ++ Vm.undigs l = l := List.takeWhile_append_dropWhile
  have := congrArg List.length h; rw [List.length_append] at this; omega
theorem oths_take (l : List UInt8) : l.take (Vm.oths l).length = Vm.oths l := by
  have h : Vm.oths l ++ Vm.unoths l = l := List.takeWhile_append_dropWhile
  exact take_app h
theorem unoths_drop (l : List UInt8) : l.drop (Vm.oths l).length = Vm.unoths l := by
  have h : Vm.oths l ++ Vm.unoths l = l := List.takeWhile_append_dropWhile
  exact drop_app h
/-- The place of the first digit: where the others end; none: they are all. -/
theorem index_oths : ∀ l : List UInt8, (Lib.indexAny l cs10 = -1 ∧ Vm.oths l = l) ∨ Lib.indexAny l cs10 = (Vm.oths l).length
  | [] => Or.inl ⟨rfl, rfl⟩
  | b :: l => by
    have ih := index_oths l
    have hg := Lib.indexAny_ge cs10 l
    unfold Lib.indexAny Vm.oths
    rw [cs10_dig, List.takeWhile_cons]
    cases hb : Vm.dig b
    · simp only [Bool.false_eq_true, if_false, Bool.not_false, if_true]
      rcases ih with ⟨h1, h2⟩ | h1
      · left
        rw [h1]
        refine ⟨rfl, ?_⟩
        show b :: Vm.oths l = b :: l
        rw [h2]
      · right
        rw [h1, if_neg (by simp)]
        show _ = (((b :: Vm.oths l).length : Nat) : Int)
        simp
    · right; simp
def ascii (l : List UInt8) : Prop := ∀ (j : Nat) b, l[j]? = some b → b.toNat < 128
theorem ascii_cs10 : ascii cs10 := by
  intro j b h
  have := List.mem_of_getElem? h
  simp [cs10] at this
  rcases this with rfl | rfl | rfl | rfl | rfl | rfl | rfl | rfl | rfl | rfl <;> decide

theorem trimDigits_any (l : List UInt8) (w : World) :
    Calls Tryz.prog 195 #[.string ⟨l.toArray⟩, .string ⟨#[48, 49, 50, 51, 52, 53, 54, 55, 56, 57]⟩] w fun e w' => e = .returned (.string ⟨(Vm.undigs l).toArray⟩) ∧ Below w.heap.size w w' :=
  (Tryz.strings_TrimLeft_laid ⟨l.toArray⟩ ⟨cs10.toArray⟩ w (by decide) ascii_cs10).mono fun _ _ h => ⟨by rw [h.1, ← trim_undigs], h.2⟩
theorem trimZeros_any (l : List UInt8) (w : World) :
    Calls Tryz.prog 195 #[.string ⟨l.toArray⟩, .string ⟨#[48]⟩] w fun e w' => e = .returned (.string ⟨(l.dropWhile (· == 48)).toArray⟩) ∧ w = w' :=
  (Tryz.strings_TrimLeft_one ⟨l.toArray⟩ 48 (by decide) w).mono fun _ _ h => ⟨h.1, h.2.symm⟩
theorem indexDigits_any (l : List UInt8) (w : World) (hl : l.length ≤ 1000) (ha : ascii l) :
    Calls Tryz.prog 163 #[.string ⟨l.toArray⟩, .string ⟨#[48, 49, 50, 51, 52, 53, 54, 55, 56, 57]⟩] w fun e w' => e = .returned (.int .i64 (Lib.indexAny l cs10)) ∧ Below w.heap.size w w' :=
  Tryz.strings_IndexAny_laid ⟨l.toArray⟩ ⟨cs10.toArray⟩ w (by show l.toArray.size < _; simp; omega) (by decide) ha ascii_cs10

set_option maxHeartbeats 400000 in
theorem bare_any (l : List UInt8) (w : World) :
    Calls Tryz.prog 187 #[.string ⟨l.toArray⟩] w fun e w' => e = .returned (.string ⟨(Vm.bare l).toArray⟩) ∧ w = w' := by
  have H : Hid (Vm.bare l = if (l.dropWhile (· == 48)).isEmpty then [48] else l.dropWhile (· == 48)) := rfl
  go_enter Tryz.func187, Tryz.ntmps187
  go_wp2_with fail
  refine (trimZeros_any l _).mono ?_
  rintro e w' ⟨rfl, rfl⟩
  generalize l.dropWhile (· == 48) = r at *
  cases hz : r.isEmpty
  all_goals
    go_wp2_with fail
  · go_ret
    exact ⟨by rw [H.out, hz]; rfl, rfl⟩
  · go_ret
    exact ⟨by rw [H.out, hz]; rfl, rfl⟩
set_option maxHeartbeats 400000 in
theorem cutDigits_any (l : List UInt8) (w : World) (hl : l.length ≤ 1000) :
    Calls Tryz.prog 196 #[.string ⟨l.toArray⟩] w fun e w' => e = .returned (.tuple #[.string ⟨(Vm.digs l).toArray⟩, .string ⟨(Vm.undigs l).toArray⟩]) ∧ Below w.heap.size w w' := by
  have H := Lib.hid (digs_take l)
  have hle := undigs_le l
  go_enter Tryz.func196, Tryz.ntmps196
  go_wp2_with fail
  refine (trimDigits_any l _).mono ?_
  rintro e w' ⟨rfl, hb⟩
  obtain ⟨r, hr⟩ : ∃ r, Vm.undigs l = r := ⟨_, rfl⟩
  rw [hr] at H hle
  rw [hr]
  have HR := Lib.hid hr
  clear hr
  go_wp2_with fail
  go_ret2
  refine ⟨?_, hb⟩
  show Ending.returned (.tuple #[.string (ByteArray.extract ⟨l.toArray⟩ 0 (l.length - r.length)), .string ⟨r.toArray⟩]) = _
  rw [ByteArray.extract_mk, List.drop_zero, Nat.sub_zero, H.out, HR.out]
set_option maxHeartbeats 400000 in
theorem cutOthers_any (l : List UInt8) (w : World) (hl : l.length ≤ 1000) (ha : ascii l) :
    Calls Tryz.prog 197 #[.string ⟨l.toArray⟩] w fun e w' => e = .returned (.tuple #[.string ⟨(Vm.oths l).toArray⟩, .string ⟨(Vm.unoths l).toArray⟩]) ∧ Below w.heap.size w w' := by
  have HT := Lib.hid (oths_take l)
  have HD := Lib.hid (unoths_drop l)
  have hle := oths_le l
  have hA := Lib.hid ha
  clear ha
  go_enter Tryz.func197, Tryz.ntmps197
  go_wp2_with fail
  refine (indexDigits_any l _ hl hA.out).mono ?_
  rintro e w' ⟨rfl, hb⟩
  rcases index_oths l with ⟨h1, h2⟩ | h1
  · rw [h1]
    have H2 := Lib.hid h2
    clear h1 h2
    go_wp2_with fail
    go_quiet (fail)
    go_wp2_with fail
    go_ret2
    refine ⟨?_, below_drewN hb _⟩
    have e1 : Vm.unoths l = [] := by rw [← HD.out, H2.out, List.drop_length]
    show Ending.returned (.tuple #[.string (ByteArray.extract ⟨l.toArray⟩ 0 l.length), .string ⟨([] : List UInt8).toArray⟩]) = _
    rw [ByteArray.extract_mk, List.drop_zero, Nat.sub_zero, List.take_length, e1, H2.out]
  · rw [h1]
    clear h1
    go_wp2_with fail
    go_quiet (fail)
    go_wp2_with fail
    go_ret2
    refine ⟨?_, below_drewN hb _⟩
    show Ending.returned (.tuple #[.string (ByteArray.extract ⟨l.toArray⟩ 0 (Vm.oths l).length), .string (ByteArray.extract ⟨l.toArray⟩ (Vm.oths l).length l.length)]) = _
    rw [ByteArray.extract_mk, ByteArray.extract_mk, List.drop_zero, Nat.sub_zero, HT.out, HD.out, List.take_of_length_le (by rw [← HD.out, List.length_drop]; exact Nat.le_refl _)]
end Go.Proofs.YtkdildgdodnbbaaGreatDoor
namespace Go.Proofs.YtkdildgdodnbbaaGreatDoor
open Go.RowKit

theorem epOk_cons (l : List UInt8) (h : 0 < l.length) : Vm.epOk l = (decide (l.length ≤ 6) && l.all Vm.dig) := by
  have he : l.isEmpty = false := by cases l <;> simp at *
  simp [Vm.epOk, he]
set_option maxHeartbeats 800000 in
theorem requireEpoch_any (l : List UInt8) (w : World) (hm : l.length ≤ 100) :
    Calls Tryz.prog 185 #[.string ⟨l.toArray⟩] w fun e w' => e = okOr (Vm.epOk l) 5 ∧ w = w' := by
  by_cases h0 : l = []
  · subst h0
    go_enter Tryz.func185, Tryz.ntmps185
    go_wp2_with fail
    refine (require_no _).mono ?_
    rintro e w' ⟨rfl, rfl⟩
    go_wp2_with fail
    exact ⟨rfl, rfl, rfl⟩
  · have hpos : 0 < l.length := List.length_pos_iff.2 h0
    have he : l.isEmpty = false := by cases l <;> simp at *
    have H := Lib.hid (epOk_cons l hpos)
    clear h0
    by_cases h6 : l.length ≤ 6
    · have HE : Hid (Vm.epOk l = l.all Vm.dig) := by show _ = _; rw [H.out]; simp [h6]
      clear H
      go_enter Tryz.func185, Tryz.ntmps185
      go_wp2_with fail
      rw [show decide ((l.length : Int) ≤ 6) = true from by simp; omega]
      refine (require_yes _).mono ?_
      rintro e w' ⟨rfl, rfl⟩
      go_wp2_with fail
      go_loop [13] (fun i => ∃ k : Nat, k ≤ l.length ∧ i = .int .i64 k ∧ Hid ((l.take k).all Vm.dig = true)) (fun i => l.length - (intOf i).toNat)
      case atStart => exact ⟨0, Nat.zero_le _, rfl, rfl⟩
      case round =>
        obtain ⟨k, hk, rfl, hall⟩ := hrel
        by_cases hlt : k < l.length
        · obtain ⟨c, hc, hc'⟩ := byte_at l k hlt
          have HS := Lib.hid (all_snoc l Vm.dig k hlt)
          rw [hc'] at HS
          have HF : Vm.dig c = false → l.all Vm.dig = false := fun h => all_false_of l _ k hlt (by rw [hc']; exact h)
          have HF' := Lib.hid HF
          clear hc' HF
          go_wp2_with fail
          refine (isDigit_any c _).mono ?_
          rintro e w' ⟨rfl, rfl⟩
          cases hd3 : Vm.dig c
          · have HD3 := Lib.hid hd3
            clear hd3
            go_wp2_with fail
            refine (require_no _).mono ?_
            rintro e w' ⟨rfl, rfl⟩
            go_wp2_with fail
            refine ⟨rfl, ?_, rfl⟩
            rw [HE.out, HF'.out HD3.out]; rfl
          · have HD3 := Lib.hid hd3
            clear hd3
            go_wp2_with fail
            refine (require_yes _).mono ?_
            rintro e w' ⟨rfl, rfl⟩
            go_wp2_with fail
            go_round
            case rel => exact ⟨k + 1, by omega, by go_num, by show _ = _; rw [HS.out, hall.out, HD3.out]; rfl⟩
            case measure => simp [intOf]; omega
        · obtain rfl : k = l.length := by omega
          have hall2 : l.all Vm.dig = true := by have := hall.out; rwa [List.take_length] at this
          have HA := Lib.hid hall2
          clear hall hall2
          go_wp2_with fail
          go_end0
          exact ⟨by rw [HE.out, HA.out]; rfl, rfl⟩
    · go_enter Tryz.func185, Tryz.ntmps185
      go_wp2_with fail
      rw [show decide ((l.length : Int) ≤ 6) = false from by simp; omega]
      refine (require_no _).mono ?_
      rintro e w' ⟨rfl, rfl⟩
      go_wp2_with fail
      refine ⟨rfl, ?_, rfl⟩
      rw [H.out]; simp [h6, okOr]

/-- The first place of a byte; -1: nowhere. -/
def place (l : List UInt8) (c : UInt8) : Int := if Vm.has c l then ((Vm.fst c l).length : Int) else -1
set_option maxHeartbeats 800000 in
theorem place_any (l : List UInt8) (c : UInt8) (w : World) (hm : l.length ≤ 4000) :
    Calls Tryz.prog 40 #[.string ⟨l.toArray⟩, .int .u8 c.toNat] w fun e w' => e = .returned (.int .i64 (place l c)) ∧ w = w' := by
  go_enter Tryz.func40, Tryz.ntmps40
  go_wp2_with fail
  go_loop [5] (fun i => ∃ k : Nat, k ≤ (Vm.fst c l).length ∧ i = .int .i64 k) (fun i => l.length - (intOf i).toNat)
  case atStart => exact ⟨0, Nat.zero_le _, rfl⟩
  case round =>
    obtain ⟨k, hk, rfl⟩ := hrel
    have hle := fst_le l c
    by_cases hlt : k < l.length
    · obtain ⟨b, hc, hc'⟩ := byte_at l k hlt
      have HS := Lib.hid (tw_step (· != c) l k hlt hk)
      rw [hc'] at HS
      clear hc'
      by_cases hbc : b = c
      · subst hbc
        go_wp2_with fail
        go_ret
        refine ⟨?_, rfl⟩
        have h1 : ¬ (k + 1 ≤ (Vm.fst b l).length) := fun h => by have := HS.out.2 h; simp at this
        have h2 : k = (Vm.fst b l).length := by omega
        show Ending.returned (.int .i64 (k : Int)) = _
        rw [place, if_pos ((has_iff l b).2 (by omega)), ← h2]
      · have hne : ((b.toNat : Int) == (c.toNat : Int)) = false := by
          rw [beq_eq_false_iff_ne]; intro h; exact hbc (UInt8.toNat.inj (by omega))
        have h1 : k + 1 ≤ (Vm.fst c l).length := HS.out.1 (by simp [hbc])
        go_wp2_with fail
        go_round
        case rel => exact ⟨k + 1, h1, by go_num⟩
        case measure => simp [intOf]; omega
    · go_wp2_with fail
      go_ret
      refine ⟨?_, rfl⟩
      have : ¬ Vm.has c l = true := fun h => by have := (has_iff l c).1 h; omega
      show Ending.returned (.int .i64 (-1)) = _
      rw [place, if_neg this]
end Go.Proofs.YtkdildgdodnbbaaGreatDoor
namespace Go.Proofs.YtkdildgdodnbbaaGreatDoor
open Go.RowKit

set_option maxHeartbeats 800000 in
theorem refPart_any (l : List UInt8) (w : World) (hm : l.length ≤ 100) :
    Calls Tryz.prog 112 #[.string ⟨l.toArray⟩] w fun e w' => e = .returned (.bool (Vm.partOk l)) ∧ w = w' := by
  have hnot : ∀ (x : Bool) (w : World), (Op.unary .not (.bool x)).run Tryz.prog w = .ok (.bool (!x)) w := fun _ _ => rfl
  by_cases h0 : l = []
  · subst h0
    go_enter Tryz.func112, Tryz.ntmps112
    go_wp2_with fail
    go_ret
    exact ⟨rfl, rfl⟩
  · have hpos : 0 < l.length := List.length_pos_iff.2 h0
    have hlast : l.length - 1 < l.length := by omega
    have he : l.isEmpty = false := by cases l <;> simp at *
    obtain ⟨c0, hc0, hc0'⟩ := byte_at l 0 hpos
    obtain ⟨cn, hcn, hcn'⟩ := byte_at l (l.length - 1) hlast
    have H := Lib.hid (partOk_cons l hpos)
    rw [hc0', hcn'] at H
    clear hc0' hcn' h0
    cases hd : Vm.dig c0
    all_goals
      have HD := Lib.hid hd
      clear hd
      go_enter Tryz.func112, Tryz.ntmps112
      go_wp2_with fail
      refine (refDigit_any c0 _).mono ?_
      rintro e w' ⟨rfl, rfl⟩
      rw [HD.out]
      go_wp2_with fail
    · go_ret
      exact ⟨by rw [H.out, HD.out]; rfl, rfl⟩
    · refine (refDigit_any cn _).mono ?_
      rintro e w' ⟨rfl, rfl⟩
      cases hd2 : Vm.dig cn
      · have HD2 := Lib.hid hd2
        clear hd2
        go_wp2_with fail
        go_ret
        exact ⟨by rw [H.out, HD.out, HD2.out]; rfl, rfl⟩
      · have HD2 := Lib.hid hd2
        clear hd2
        go_wp2_with fail
        have HE : Hid (Vm.partOk l = l.all Vm.ok1) := by
          show Vm.partOk l = l.all Vm.ok1
          rw [H.out, HD.out, HD2.out]; rfl
        clear hc0 hcn H HD HD2
        go_loop [3] (fun i => ∃ k : Nat, k ≤ l.length ∧ i = .int .i64 k ∧ Hid ((l.take k).all Vm.ok1 = true)) (fun i => l.length - (intOf i).toNat)
        case atStart => exact ⟨0, Nat.zero_le _, rfl, rfl⟩
        case round =>
          obtain ⟨k, hk, rfl, hall⟩ := hrel
          by_cases hlt : k < l.length
          · obtain ⟨c, hc, hc'⟩ := byte_at l k hlt
            have HS := Lib.hid (all_snoc l Vm.ok1 k hlt)
            rw [hc'] at HS
            have HF : Vm.ok1 c = false → l.all Vm.ok1 = false := fun h => all_false_of l _ k hlt (by rw [hc']; exact h)
            have HF' := Lib.hid HF
            clear hc' HF
            go_wp2_with fail
            refine (refDigit_any c _).mono ?_
            rintro e w' ⟨rfl, rfl⟩
            cases hd3 : Vm.dig c
            · have HD3 := Lib.hid hd3
              clear hd3
              go_wp2_with fail
              refine (refLetter_any c _).mono ?_
              rintro e w' ⟨rfl, rfl⟩
              cases ho : Vm.ltr c
              · have HO := Lib.hid ho
                clear ho
                by_cases b1 : c.toNat = 46
                · have n1 : ((c.toNat : Int) != 46) = false := by simp [b1]
                  have HB : Hid (Vm.ok1 c = true) := by show _ = _; simp [Vm.ok1, Vm.oth, b1]
                  clear b1
                  go_wp2_with fail
                  go_round
                  case rel => exact ⟨k + 1, by omega, by go_num, by show _ = _; rw [HS.out, hall.out, HB.out]; rfl⟩
                  case measure => simp [intOf]; omega
                · by_cases b2 : c.toNat = 43
                  · have n1 : ((c.toNat : Int) != 46) = true := by simp; omega
                    have n2 : ((c.toNat : Int) != 43) = false := by simp [b2]
                    have HB : Hid (Vm.ok1 c = true) := by show _ = _; simp [Vm.ok1, Vm.oth, b2]
                    clear b1 b2
                    go_wp2_with fail
                    go_round
                    case rel => exact ⟨k + 1, by omega, by go_num, by show _ = _; rw [HS.out, hall.out, HB.out]; rfl⟩
                    case measure => simp [intOf]; omega
                  · by_cases b3 : c.toNat = 126
                    · have n1 : ((c.toNat : Int) != 46) = true := by simp; omega
                      have n2 : ((c.toNat : Int) != 43) = true := by simp; omega
                      have n3 : ((c.toNat : Int) != 126) = false := by simp [b3]
                      have HB : Hid (Vm.ok1 c = true) := by show _ = _; simp [Vm.ok1, Vm.oth, b3]
                      clear b1 b2 b3
                      go_wp2_with fail
                      go_round
                      case rel => exact ⟨k + 1, by omega, by go_num, by show _ = _; rw [HS.out, hall.out, HB.out]; rfl⟩
                      case measure => simp [intOf]; omega
                    · have n1 : ((c.toNat : Int) != 46) = true := by simp; omega
                      have n2 : ((c.toNat : Int) != 43) = true := by simp; omega
                      have n3 : ((c.toNat : Int) != 126) = true := by simp; omega
                      have HB : Hid (Vm.ok1 c = false) := by show _ = _; simp [Vm.ok1, Vm.oth, b1, b2, b3, HD3.out, HO.out]
                      clear b1 b2 b3
                      go_wp2_with fail
                      go_ret
                      exact ⟨by rw [HE.out, HF'.out HB.out]; rfl, rfl⟩
              · have HO := Lib.hid ho
                clear ho
                go_wp2_with fail
                go_round
                case rel => exact ⟨k + 1, by omega, by go_num, by show _ = _; rw [HS.out, hall.out, Vm.ok1, Vm.oth, HD3.out, HO.out]; rfl⟩
                case measure => simp [intOf]; omega
            · have HD3 := Lib.hid hd3
              clear hd3
              go_wp2_with fail
              go_round
              case rel => exact ⟨k + 1, by omega, by go_num, by show _ = _; rw [HS.out, hall.out, Vm.ok1, HD3.out]; rfl⟩
              case measure => simp [intOf]; omega
          · obtain rfl : k = l.length := by omega
            have hall2 : l.all Vm.ok1 = true := by have := hall.out; rwa [List.take_length] at this
            have HA := Lib.hid hall2
            clear hall hall2
            go_wp2_with fail
            go_ret
            exact ⟨by rw [HE.out, HA.out]; rfl, rfl⟩

/-- What the reference's bare leaves. -/
def bareR : List UInt8 → List UInt8
  | [] => []
  | b :: r => if r.isEmpty then b :: r else if b == 48 then bareR r else b :: r
theorem bareR_eq : ∀ l : List UInt8, l ≠ [] → bareR l = Vm.bare l
  | [], h => absurd rfl h
  | [b], _ => by
    by_cases hb : b = 48
    · subst hb; rfl
    · have : (b == 48) = false := by simp [hb]
      simp [bareR, Vm.bare, this]
  | b :: c :: r, _ => by
    have ih := bareR_eq (c :: r) (by simp)
    rw [bareR]
    simp only [List.isEmpty_cons, Bool.false_eq_true, if_false]
    by_cases hb : b = 48
    · subst hb
      simp only [beq_self_eq_true, if_true]
      rw [ih]; simp [Vm.bare]
    · have : (b == 48) = false := by simp [hb]
      rw [this]; simp [Vm.bare, this]
theorem bareR_step (l : List UInt8) (h : 1 < l.length) : bareR l = if (l[0]'(by omega)).toNat == 48 then bareR (l.drop 1) else l := by
  match l, h with
  | b :: c :: r, _ =>
    rw [bareR]
    have e : (b == 48) = (b.toNat == 48) := by
      rw [Bool.eq_iff_iff, beq_iff_eq, beq_iff_eq]; exact ⟨fun h => by rw [h]; rfl, fun h => UInt8.toNat.inj (by rw [h]; rfl)⟩
    simp [e]
theorem bareR_short (l : List UInt8) (h : ¬ 1 < l.length) : bareR l = l := by
  match l, h with
  | [], _ => rfl
  | [b], _ => rfl
  | b :: c :: r, h => simp at h
set_option maxHeartbeats 800000 in
theorem refBare_any (l : List UInt8) (w : World) (hm : l.length ≤ 1000) :
    Calls Tryz.prog 110 #[.string ⟨l.toArray⟩] w fun e w' => e = .returned (.string ⟨(bareR l).toArray⟩) ∧ w = w' := by
  go_enter Tryz.func110, Tryz.ntmps110
  go_wp2_with fail
  go_loop [0] (fun s => ∃ m : List UInt8, m.length ≤ 1000 ∧ s = .string ⟨m.toArray⟩ ∧ Hid (bareR l = bareR m)) (fun s => strLen s)
  case atStart => exact ⟨l, hm, rfl, rfl⟩
  case round =>
    obtain ⟨m, hm', rfl, HE⟩ := hrel
    by_cases h1 : 1 < m.length
    · obtain ⟨c, hc, hc'⟩ := byte_at m 0 (by omega)
      have HS := Lib.hid (bareR_step m h1)
      rw [hc'] at HS
      clear hc'
      by_cases h48 : c.toNat = 48
      · have n1 : ((c.toNat : Int) == 48) = true := by simp [h48]
        have HB : Hid (bareR m = bareR (m.drop 1)) := by show _ = _; rw [HS.out]; simp [h48]
        clear h48 HS
        go_wp2_with fail
        go_round
        case rel => exact ⟨m.drop 1, by simp; omega, by rw [extract_from], by show _ = _; rw [HE.out, HB.out]⟩
        case measure => rw [extract_from]; simp [strLen]; omega
      · have n1 : ((c.toNat : Int) == 48) = false := by simp; omega
        have HB : Hid (bareR m = m) := by show _ = _; rw [HS.out]; simp [h48]
        clear h48 HS
        go_wp2_with fail
        go_ret
        exact ⟨by rw [HE.out, HB.out]; rfl, rfl⟩
    · have HB := Lib.hid (bareR_short m h1)
      go_wp2_with fail
      go_ret
      exact ⟨by rw [HE.out, HB.out]; rfl, rfl⟩

/-- A run of the reference: what begins it, what is behind. -/
theorem run_true (l : List UInt8) : l.takeWhile (fun c => Vm.dig c == true) = Vm.digs l ∧ l.dropWhile (fun c => Vm.dig c == true) = Vm.undigs l := by
  have : (fun c => Vm.dig c == true) = Vm.dig := by funext c; cases Vm.dig c <;> rfl
  rw [this]; exact ⟨rfl, rfl⟩
theorem run_false (l : List UInt8) : l.takeWhile (fun c => Vm.dig c == false) = Vm.oths l ∧ l.dropWhile (fun c => Vm.dig c == false) = Vm.unoths l := by
  have : (fun c => Vm.dig c == false) = fun c => !Vm.dig c := by funext c; cases Vm.dig c <;> rfl
  rw [this]; exact ⟨rfl, rfl⟩
set_option maxHeartbeats 800000 in
theorem run_any (l : List UInt8) (b : Bool) (w : World) (hm : l.length ≤ 1000) :
    Calls Tryz.prog 113 #[.string ⟨l.toArray⟩, .bool b] w fun e w' => e = .returned (.tuple #[.string ⟨(l.takeWhile (fun c => Vm.dig c == b)).toArray⟩, .string ⟨(l.dropWhile (fun c => Vm.dig c == b)).toArray⟩]) ∧ Below w.heap.size w w' := by
  have hle := tw_le (fun c => Vm.dig c == b) l
  have HT := Lib.hid (tw_take (fun c => Vm.dig c == b) l)
  have HD := Lib.hid (tw_drop (fun c => Vm.dig c == b) l)
  have HS := Lib.hid (tw_step (fun c => Vm.dig c == b) l)
  obtain ⟨n, hn⟩ : ∃ n, (l.takeWhile (fun c => Vm.dig c == b)).length = n := ⟨_, rfl⟩
  have HT' : Hid (l.take n = l.takeWhile (fun c => Vm.dig c == b)) := by have := HT.out; rwa [hn] at this
  have HD' : Hid (l.drop n = l.dropWhile (fun c => Vm.dig c == b)) := by have := HD.out; rwa [hn] at this
  have HS' : Hid (∀ (k : Nat) (h : k < l.length), k ≤ n → ((Vm.dig l[k] == b) = true ↔ k + 1 ≤ n)) := by have := HS.out; rwa [hn] at this
  rw [hn] at hle
  clear hn HT HD HS
  go_enter Tryz.func113, Tryz.ntmps113
  go_wp2_with fail
  go_loop [6] (fun i => ∃ k : Nat, k ≤ n ∧ i = .int .i64 k) (fun i => l.length - (intOf i).toNat)
  case atStart => exact ⟨0, Nat.zero_le _, rfl⟩
  case round =>
    obtain ⟨k, hk, rfl⟩ := hrel
    by_cases hlt : k < l.length
    · obtain ⟨c, hc, hc'⟩ := byte_at l k hlt
      have HK := Lib.hid (HS'.out k hlt hk)
      rw [hc'] at HK
      clear hc'
      cases hd : Vm.dig c == b
      · have hz : ¬ (k + 1 ≤ n) := fun h => by have := HK.out.2 h; rw [hd] at this; cases this
        obtain rfl : n = k := by omega
        go_wp2_with fail
        refine (refDigit_any c _).mono ?_
        rintro e w' ⟨rfl, rfl⟩
        go_wp2_with fail
        go_quiet (fail)
        go_wp2_with fail
        go_ret2
        refine ⟨?_, below_drewN (Below.refl _ _) _⟩
        show Ending.returned (.tuple #[.string (ByteArray.extract ⟨l.toArray⟩ 0 n), .string (ByteArray.extract ⟨l.toArray⟩ n l.length)]) = _
        rw [extract_from, extract_to, HT'.out, HD'.out]
      · have hz : k + 1 ≤ n := HK.out.1 hd
        go_wp2_with fail
        refine (refDigit_any c _).mono ?_
        rintro e w' ⟨rfl, rfl⟩
        go_wp2_with fail
        go_round
        case rel => exact ⟨k + 1, hz, by go_num⟩
        case measure => simp [intOf]; omega
    · obtain rfl : n = l.length := by omega
      obtain rfl : k = l.length := by omega
      go_wp2_with fail
      go_quiet (fail)
      go_wp2_with fail
      go_ret2
      refine ⟨?_, below_drewN (Below.refl _ _) _⟩
      show Ending.returned (.tuple #[.string (ByteArray.extract ⟨l.toArray⟩ 0 l.length), .string ⟨([] : List UInt8).toArray⟩]) = _
      rw [extract_to, HT'.out, ← HD'.out, List.drop_length]
end Go.Proofs.YtkdildgdodnbbaaGreatDoor
