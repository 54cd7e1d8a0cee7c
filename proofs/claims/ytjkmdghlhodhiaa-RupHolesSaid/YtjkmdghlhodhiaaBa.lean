/- What every walk leans on: bytes, cuts of texts, the error that a panic bears and that is caught again, blocks of one's own. -/
import Derived.Test.YtjkmdghlhodhiaaRows
import Derived.Test.YtjkmdghlhodhiaaQa
import Derived.WalkKit
import Derived.Lib.Hide
import Derived.WalkSpells
import Derived.WalkLawsBesides
import Derived.Test.YtjkmdghlhodhiaaShelf
import Derived.BigQuiet
import Derived.Deep.QuietTactic
import Derived.Lib.BufferRead
import Derived.Defers
import Derived.Recover
import Derived.Deep.RegionHeld3
import Derived.Deep.DrawnRows
namespace Go.Proofs.Ytjkmdghlhodhiaa
open Go.RowKit

theorem byte_lt (c : UInt8) : (c.toNat : Int) < 256 := by have := c.toNat_lt; omega
/-- The byte at i, under a name of its own: the walk writes the name. -/
theorem byte_at (l : List UInt8) (i : Nat) (h : i < l.length) : ∃ c, ({ data := l.toArray } : ByteArray)[i]'(by rw [ByteArray.size_mk']; simpa using h) = c ∧ l[i] = c := ⟨l[i], rfl, rfl⟩
/-- How a panic with an error number leaves a function. -/
abbrev pan (n : Int) : Ending := .panicked [{ v := .iface 26 (.int .i64 n), recovered := false }]
def okOr (b : Bool) (n : Int) : Ending := if b then .returned (.tuple #[]) else pan n
set_option maxHeartbeats 400000 in
theorem require_any (b : Bool) (n : Int) (w : World) :
    Calls Try.prog 26 #[.bool b, .int .i64 n] w fun e w' => e = okOr b n ∧ w = w' := by
  have hnot : ∀ (x : Bool) (w : World), (Op.unary .not (.bool x)).run Try.prog w = .ok (.bool (!x)) w := fun _ _ => rfl
  cases b
  · go_enter Try.func26, Try.ntmps26
    go_wp2
    exact ⟨rfl, rfl, rfl⟩
  · go_enter Try.func26, Try.ntmps26
    go_wp2
    go_end0
    exact ⟨rfl, rfl⟩
theorem require_yes {n : Int} (w : World) : Calls Try.prog 26 #[.bool true, .int .i64 n] w fun e w' => e = .returned (.tuple #[]) ∧ w = w' := require_any true n w
theorem require_no {n : Int} (w : World) : Calls Try.prog 26 #[.bool false, .int .i64 n] w fun e w' => e = pan n ∧ w = w' := require_any false n w
theorem u8_all (p q : UInt8 → Bool) (h : ∀ n, n < 256 → p (UInt8.ofNat n) = q (UInt8.ofNat n)) (c : UInt8) : p c = q c := by
  have := h c.toNat c.toNat_lt
  simpa using this
theorem take_app {a b l : List UInt8} (h : a ++ b = l) : l.take a.length = a := by subst h; simp
theorem drop_app {a b l : List UInt8} (h : a ++ b = l) : l.drop a.length = b := by subst h; simp
theorem tw_step (p : UInt8 → Bool) : ∀ (l : List UInt8) (k : Nat) (h : k < l.length), k ≤ (l.takeWhile p).length → (p l[k] = true ↔ k + 1 ≤ (l.takeWhile p).length)
  | [], k, h, _ => by simp at h
  | b :: l, k, h, hk => by
    rw [List.takeWhile_cons] at hk ⊢
    cases hb : p b
    · rw [hb] at hk
      have : k = 0 := by simpa using hk
      subst this
      simp [hb]
    · rw [hb] at hk
      cases k with
      | zero => simp [hb]
      | succ k =>
        have ih := tw_step p l k (by simpa using h) (by simpa using hk)
        simpa using ih
theorem tw_le (p : UInt8 → Bool) (l : List UInt8) : (l.takeWhile p).length ≤ l.length := by
  have h : l.takeWhile p ++ l.dropWhile p = l := List.takeWhile_append_dropWhile
  have := congrArg List.length h; rw [List.length_append] at this; omega
theorem tw_take (p : UInt8 → Bool) (l : List UInt8) : l.take (l.takeWhile p).length = l.takeWhile p := take_app List.takeWhile_append_dropWhile
theorem tw_drop (p : UInt8 → Bool) (l : List UInt8) : l.drop (l.takeWhile p).length = l.dropWhile p := drop_app List.takeWhile_append_dropWhile
theorem has_iff (l : List UInt8) (c : UInt8) : Vm.has c l = true ↔ (Vm.fst c l).length < l.length := by
  unfold Vm.has Vm.fst
  induction l with
  | nil => simp
  | cons b l ih =>
    rw [List.takeWhile_cons]
    by_cases hb : b = c
    · simp [hb]
    · have : (b != c) = true := by simp [hb]
      simp only [this, if_true, List.length_cons, List.contains_cons]
      have h2 : (c == b) = false := by simp; exact fun h => hb h.symm
      rw [h2, Bool.false_or, ih]; omega
theorem fst_le (l : List UInt8) (c : UInt8) : (Vm.fst c l).length ≤ l.length := tw_le _ l
/-- The length of the text in a slot: for a loop's measure. -/
def strLen : Value → Nat | .string s => s.data.size | _ => 0
theorem extract_from (m : List UInt8) (k : Nat) : (⟨m.toArray⟩ : ByteArray).extract k m.length = ⟨(m.drop k).toArray⟩ := by
  rw [ByteArray.extract_mk, List.take_of_length_le (by simp)]
theorem extract_to (m : List UInt8) (k : Nat) : (⟨m.toArray⟩ : ByteArray).extract 0 k = ⟨(m.take k).toArray⟩ := by
  rw [ByteArray.extract_mk, List.drop_zero, Nat.sub_zero]
set_option maxHeartbeats 400000 in
theorem raisedAt_nil {o : Int} (w : World) :
    Calls Try.prog 24 #[.nilIface, .int .i64 o] w fun e w' => e = .returned (.tuple #[.int .i64 0, .int .i64 0]) ∧ w = w' := by
  go_enter Try.func24, Try.ntmps24
  go_wp2_with fail
  go_ret2
  exact ⟨rfl, rfl⟩
set_option maxRecDepth 100000 in
set_option maxHeartbeats 400000 in
theorem raisedAt_err (n : Int) {o : Int} (w : World) :
    Calls Try.prog 24 #[.iface 26 (.int .i64 n), .int .i64 o] w fun e w' => e = .returned (.tuple #[.int .i64 0, .int .i64 n]) ∧ w = w' := by
  have hta : ∀ W : World, (Instr.typeAssert (.iface 26 (.int .i64 n)) 20 26 true).run Try.prog W = .ok (.tuple #[.int .i64 n, .bool true]) W := fun _ => by kernel_rfl
  go_enter Try.func24, Try.ntmps24
  go_wp2_with fail
  go_ret2
  exact ⟨rfl, rfl⟩
set_option maxHeartbeats 400000 in
theorem raised_nil {o : Int} (w : World) :
    Calls Try.prog 45 #[.nilIface, .int .i64 o] w fun e w' => e = .returned (.int .i64 0) ∧ w = w' := by
  go_enter Try.func45, Try.ntmps45
  go_wp2_with fail
  refine (raisedAt_nil _).mono ?_
  rintro _ w' ⟨rfl, rfl⟩
  go_wp2_with fail
  go_ret
  exact ⟨rfl, rfl⟩
set_option maxRecDepth 100000 in
set_option maxHeartbeats 400000 in
theorem raised_err (n : Int) {o : Int} (w : World) :
    Calls Try.prog 45 #[.iface 26 (.int .i64 n), .int .i64 o] w fun e w' => e = .returned (.int .i64 n) ∧ w = w' := by
  go_enter Try.func45, Try.ntmps45
  go_wp2_with fail
  refine (raisedAt_err n _).mono ?_
  rintro _ w' ⟨rfl, rfl⟩
  go_wp2_with fail
  go_ret
  exact ⟨rfl, rfl⟩
theorem index_has (l : List UInt8) (c : UInt8) : Lib.index l [c] = if Vm.has c l then ((Vm.fst c l).length : Int) else -1 := by
  unfold Vm.has Vm.fst
  induction l with
  | nil => rfl
  | cons b l ih =>
    unfold Lib.index
    rw [List.takeWhile_cons, List.contains_cons]
    by_cases hb : c = b
    · subst hb; simp
    · have h1 : (c == b) = false := by simp [hb]
      have h2 : (b != c) = true := by simp; exact fun h => hb h.symm
      simp only [List.isPrefixOf, h1, Bool.false_and, Bool.false_eq_true, if_false, Bool.false_or, h2, if_true]
      rw [ih]
      cases hc : l.contains c
      · simp
      · simp only [if_true, List.length_cons]
        rw [if_neg (by simp)]; omega
theorem cut_has (l : List UInt8) (c : UInt8) : Lib.cut l [c] = if Vm.has c l then (Vm.fst c l, Vm.snd c l, true) else (l, [], false) := by
  unfold Lib.cut
  rw [index_has]
  cases hc : Vm.has c l
  · simp
  · simp only [if_true]
    rw [if_pos (by omega)]
    have e1 : ((Vm.fst c l).length : Int).toNat = (Vm.fst c l).length := by omega
    rw [e1]
    have h2 : l.drop ((Vm.fst c l).length + [c].length) = Vm.snd c l := by
      rw [← List.drop_drop]
      unfold Vm.snd Vm.fst
      rw [tw_drop]; rfl
    rw [h2, show l.take (Vm.fst c l).length = Vm.fst c l from tw_take _ l]
theorem cell_int (w w1 : World) (T : TypeId) (x : Value) (hb : Below (w.heap.size + 1) (w.alloc (.cells #[x] T)) w1) : w1.cell? ⟨w.heap.size, 0, none⟩ = some x ∧ w1.frozen? ⟨w.heap.size, 0, none⟩ = false := by
  have h : w1.heap[w.heap.size]? = some (.cells #[x] T (0, 0)) := (hb.block _ (Nat.lt_succ_self _)).trans (heap_alloc_new w _)
  exact ⟨cell_of_one h, free_of_one h⟩
theorem below_new {w w1 : World} {o : Obj} (h : Below (w.heap.size + 1) (w.alloc o) w1) : Below w.heap.size w w1 := ((Below.refl _ _).alloc (Nat.le_refl _) _).trans (h.mono (Nat.le_succ _))
theorem alloc_low {w W1 : World} {o : Obj} (h : w.alloc o = W1) : Below w.heap.size w W1 := by rw [← h]; exact (Below.refl _ _).alloc (Nat.le_refl _) _
theorem cell_two {w W1 u : World} {a b : Value} {T : TypeId} (h1 : w.alloc (.cells #[a, b] T) = W1) (hb : Below W1.heap.size W1 u) :
    u.cell? ⟨w.heap.size, 0, none⟩ = some a ∧ u.cell? ⟨w.heap.size, 1, none⟩ = some b ∧ u.frozen? ⟨w.heap.size, 0, none⟩ = false ∧ u.frozen? ⟨w.heap.size, 1, none⟩ = false := by
  subst h1
  have h : u.heap[w.heap.size]? = some (.cells #[a, b] T (0, 0)) := (hb.block _ (by simp)).trans (heap_alloc_new w _)
  refine ⟨?_, ?_, ?_, ?_⟩ <;> simp [World.cell?, World.frozen?, h]
attribute [local go_sem ↓] Go.wp_at_zero Go.wp_at_succ
end Go.Proofs.Ytjkmdghlhodhiaa
