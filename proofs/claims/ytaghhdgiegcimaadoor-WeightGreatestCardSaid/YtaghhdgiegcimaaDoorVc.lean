/- The cuts of a part into runs, digits without noughts, and the library's calls in the words of the plain functions. -/
import Derived.Test.YtaghhdgiegcimaaDoorVb
import Derived.Test.YtaghhdgiegcimaaDoorShelf
import Derived.BigQuiet
import Derived.Deep.QuietTactic
namespace Go.Proofs.YtaghhdgiegcimaaDoor
open Go.RowKit

def cs10 : List UInt8 := [48, 49, 50, 51, 52, 53, 54, 55, 56, 57]
theorem u8_all (p q : UInt8 → Bool) (h : ∀ n, n < 256 → p (UInt8.ofNat n) = q (UInt8.ofNat n)) (c : UInt8) : p c = q c := by
  have := h c.toNat c.toNat_lt
  simpa using this
theorem cs10_dig (c : UInt8) : cs10.contains c = Vm.dig c := u8_all (fun c => cs10.contains c) Vm.dig (by decide +kernel) c
theorem trim_undigs (l : List UInt8) : Lib.trimLeftS l cs10 = Vm.undigs l := by
  unfold Lib.trimLeftS Vm.undigs
  congr 1; funext c; exact cs10_dig c
theorem take_app {a b l : List UInt8} (h : a ++ b = l) : l.take a.length = a := by subst h; simp
theorem drop_app {a b l : List UInt8} (h : a ++ b = l) : l.drop a.length = b := by subst h; simp
theorem digs_take (l : List UInt8) : l.take (l.length - (Vm.undigs l).length) = Vm.digs l := by
  have h : Vm.digs l ++ Vm.undigs l = l := List.takeWhile_append_dropWhile
  have h2 : l.length - (Vm.undigs l).length = (Vm.digs l).length := by
    have := congrArg List.length h; rw [List.length_append] at this; omega
  rw [h2]
  exact take_app h
theorem undigs_le (l : List UInt8) : (Vm.undigs l).length ≤ l.length := by
  have h : Vm.digs l ++ Vm.undigs l = l := List.takeWhile_append_dropWhile
  have := congrArg List.length h; rw [List.length_append] at this; omega
theorem unoths_le (l : List UInt8) : (Vm.unoths l).length ≤ l.length := by
  have h : Vm.oths l ++ Vm.unoths l = l := List.takeWhile_append_dropWhile
  have := congrArg List.length h; rw [List.length_append] at this; omega
theorem oths_le (l : List UInt8) : (Vm.oths l).length ≤ l.length := by
  have h : Vm.oths l ++ Vm.unoths l = l := List.takeWhile_append_dropWhile
  have := congrArg List.length h; rw [List.length_append] at this; omega
theorem digs_le (l : List UInt8) : (Vm.digs l).length ≤ l.length := by
  have h : Vm.digs l ++ Vm.undigs l = l := List.takeWhile_append_dropWhile
  have := congrArg List.length h; rw [List.length_append] at this; omega
theorem oths_take (l : List UInt8) : l.take (Vm.oths l).length = Vm.oths l := by
  have h : Vm.oths l ++ Vm.unoths l = l := List.takeWhile_append_dropWhile
  exact take_app h
theorem unoths_drop (l : List UInt8) : l.drop (Vm.oths l).length = Vm.unoths l := by
  have h : Vm.oths l ++ Vm.unoths l = l := List.takeWhile_append_dropWhile
  exact drop_app h
/-- The place of the first digit: where the others end; none: they are all. -/
theorem index_oths : ∀ l : List UInt8, (Lib.indexAny l cs10 = -1 ∧ Vm.oths l = l) ∨ Lib.indexAny l cs10 = (Vm.oths l).length
  | [] => Or.inl ⟨rfl, rfl⟩
  | b :: l => by
    have ih := index_oths l
    have hg := Lib.indexAny_ge cs10 l
    unfold Lib.indexAny Vm.oths
    rw [cs10_dig, List.takeWhile_cons]
    cases hb : Vm.dig b
    · simp only [Bool.false_eq_true, if_false, Bool.not_false, if_true]
      rcases ih with ⟨h1, h2⟩ | h1
      · left
        rw [h1]
        refine ⟨rfl, ?_⟩
        show b :: Vm.oths l = b :: l
        rw [h2]
      · right
        rw [h1, if_neg (by simp)]
        show _ = (((b :: Vm.oths l).length : Nat) : Int)
        simp
    · right; simp
def ascii (l : List UInt8) : Prop := ∀ (j : Nat) b, l[j]? = some b → b.toNat < 128
theorem ascii_cs10 : ascii cs10 := by
  intro j b h
  have := List.mem_of_getElem? h
  simp [cs10] at this
  rcases this with rfl | rfl | rfl | rfl | rfl | rfl | rfl | rfl | rfl | rfl <;> decide

theorem trimDigits_any (l : List UInt8) (w : World) :
    Calls Tryd.prog 98 #[.string ⟨l.toArray⟩, .string ⟨#[48, 49, 50, 51, 52, 53, 54, 55, 56, 57]⟩] w fun e w' => e = .returned (.string ⟨(Vm.undigs l).toArray⟩) ∧ Below w.heap.size w w' :=
  (Tryd.strings_TrimLeft_laid ⟨l.toArray⟩ ⟨cs10.toArray⟩ w (by decide) ascii_cs10).mono fun _ _ h => ⟨by rw [h.1, ← trim_undigs], h.2⟩
theorem trimZeros_any (l : List UInt8) (w : World) :
    Calls Tryd.prog 98 #[.string ⟨l.toArray⟩, .string ⟨#[48]⟩] w fun e w' => e = .returned (.string ⟨(l.dropWhile (· == 48)).toArray⟩) ∧ w = w' :=
  (Tryd.strings_TrimLeft_one ⟨l.toArray⟩ 48 (by decide) w).mono fun _ _ h => ⟨h.1, h.2.symm⟩
theorem indexDigits_any (l : List UInt8) (w : World) (hl : l.length ≤ 1000) (ha : ascii l) :
    Calls Tryd.prog 125 #[.string ⟨l.toArray⟩, .string ⟨#[48, 49, 50, 51, 52, 53, 54, 55, 56, 57]⟩] w fun e w' => e = .returned (.int .i64 (Lib.indexAny l cs10)) ∧ Below w.heap.size w w' :=
  Tryd.strings_IndexAny_laid ⟨l.toArray⟩ ⟨cs10.toArray⟩ w (by show l.toArray.size < _; simp; omega) (by decide) ha ascii_cs10

set_option maxHeartbeats 400000 in
theorem bare_any (l : List UInt8) (w : World) :
    Calls Tryd.prog 76 #[.string ⟨l.toArray⟩] w fun e w' => e = .returned (.string ⟨(Vm.bare l).toArray⟩) ∧ w = w' := by
  have H : Hid (Vm.bare l = if (l.dropWhile (· == 48)).isEmpty then [48] else l.dropWhile (· == 48)) := rfl
  go_enter Tryd.func76, Tryd.ntmps76
  go_wp2_with fail
  refine (trimZeros_any l _).mono ?_
  rintro e w' ⟨rfl, rfl⟩
  generalize l.dropWhile (· == 48) = r at *
  cases hz : r.isEmpty
  all_goals
    go_wp2_with fail
  · go_ret
    exact ⟨by rw [H.out, hz]; rfl, rfl⟩
  · go_ret
    exact ⟨by rw [H.out, hz]; rfl, rfl⟩
set_option maxHeartbeats 400000 in
theorem cutDigits_any (l : List UInt8) (w : World) (hl : l.length ≤ 1000) :
    Calls Tryd.prog 99 #[.string ⟨l.toArray⟩] w fun e w' => e = .returned (.tuple #[.string ⟨(Vm.digs l).toArray⟩, .string ⟨(Vm.undigs l).toArray⟩]) ∧ Below w.heap.size w w' := by
  have H := Lib.hid (digs_take l)
  have hle := undigs_le l
  go_enter Tryd.func99, Tryd.ntmps99
  go_wp2_with fail
  refine (trimDigits_any l _).mono ?_
  rintro e w' ⟨rfl, hb⟩
  obtain ⟨r, hr⟩ : ∃ r, Vm.undigs l = r := ⟨_, rfl⟩
  rw [hr] at H hle
  rw [hr]
  have HR := Lib.hid hr
  clear hr
  go_wp2_with fail
  go_ret2
  refine ⟨?_, hb⟩
  show Ending.returned (.tuple #[.string (ByteArray.extract ⟨l.toArray⟩ 0 (l.length - r.length)), .string ⟨r.toArray⟩]) = _
  rw [ByteArray.extract_mk, List.drop_zero, Nat.sub_zero, H.out, HR.out]
set_option maxHeartbeats 400000 in
theorem cutOthers_any (l : List UInt8) (w : World) (hl : l.length ≤ 1000) (ha : ascii l) :
    Calls Tryd.prog 100 #[.string ⟨l.toArray⟩] w fun e w' => e = .returned (.tuple #[.string ⟨(Vm.oths l).toArray⟩, .string ⟨(Vm.unoths l).toArray⟩]) ∧ Below w.heap.size w w' := by
  have HT := Lib.hid (oths_take l)
  have HD := Lib.hid (unoths_drop l)
  have hle := oths_le l
  have hA := Lib.hid ha
  clear ha
  go_enter Tryd.func100, Tryd.ntmps100
  go_wp2_with fail
  refine (indexDigits_any l _ hl hA.out).mono ?_
  rintro e w' ⟨rfl, hb⟩
  rcases index_oths l with ⟨h1, h2⟩ | h1
  · rw [h1]
    have H2 := Lib.hid h2
    clear h1 h2
    go_wp2_with fail
    go_quiet (fail)
    go_wp2_with fail
    go_ret2
    refine ⟨?_, below_drewN hb _⟩
    have e1 : Vm.unoths l = [] := by rw [← HD.out, H2.out, List.drop_length]
    show Ending.returned (.tuple #[.string (ByteArray.extract ⟨l.toArray⟩ 0 l.length), .string ⟨([] : List UInt8).toArray⟩]) = _
    rw [ByteArray.extract_mk, List.drop_zero, Nat.sub_zero, List.take_length, e1, H2.out]
  · rw [h1]
    clear h1
    go_wp2_with fail
    go_quiet (fail)
    go_wp2_with fail
    go_ret2
    refine ⟨?_, below_drewN hb _⟩
    show Ending.returned (.tuple #[.string (ByteArray.extract ⟨l.toArray⟩ 0 (Vm.oths l).length), .string (ByteArray.extract ⟨l.toArray⟩ (Vm.oths l).length l.length)]) = _
    rw [ByteArray.extract_mk, ByteArray.extract_mk, List.drop_zero, Nat.sub_zero, HT.out, HD.out, List.take_of_length_le (by rw [← HD.out, List.length_drop]; exact Nat.le_refl _)]
end Go.Proofs.YtaghhdgiegcimaaDoor
