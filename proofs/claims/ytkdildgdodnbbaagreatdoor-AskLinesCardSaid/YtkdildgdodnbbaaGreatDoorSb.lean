/- The leaves of the reader of stanzas, walked: what is raised with a line, which byte may stand where. -/
import Derived.Test.YtkdildgdodnbbaaGreatDoorSa
import Derived.Test.YtkdildgdodnbbaaGreatDoorBr
namespace Go.Proofs.YtkdildgdodnbbaaGreatDoor
open Go.RowKit
/-- How a panic with an error number and a line leaves a function. -/
abbrev panAt (k n : Int) : Ending := .panicked [{ v := .iface 95 (.agg #[.int .i64 k, .int .i64 n]), recovered := false }]
set_option maxHeartbeats 400000 in
theorem requireAt_yes {k n : Int} (w : World) : Calls Tryz.prog 51 #[.bool true, .int .i64 k, .int .i64 n] w fun e w' => e = .returned (.tuple #[]) ∧ w = w' := by
  go_enter Tryz.func51, Tryz.ntmps51
  go_wp2_with fail
  go_end0
  exact ⟨rfl, rfl⟩
set_option maxHeartbeats 400000 in
theorem requireAt_no {k n : Int} (w : World) : Calls Tryz.prog 51 #[.bool false, .int .i64 k, .int .i64 n] w fun e w' => e = panAt k n ∧ w = w' := by
  go_enter Tryz.func51, Tryz.ntmps51
  go_wp2_with fail
  exact ⟨rfl, rfl, rfl⟩
set_option maxRecDepth 100000 in
set_option maxHeartbeats 400000 in
theorem raisedAt_placed (k n : Int) {o : Int} (w : World) :
    Calls Tryz.prog 30 #[.iface 95 (.agg #[.int .i64 k, .int .i64 n]), .int .i64 o] w fun e w' => e = .returned (.tuple #[.int .i64 k, .int .i64 n]) ∧ Below w.heap.size w w' := by
  have hta : ∀ W : World, (Instr.typeAssert (.iface 95 (.agg #[.int .i64 k, .int .i64 n])) 20 27 true).run Tryz.prog W = .ok (.tuple #[.int .i64 0, .bool false]) W := fun _ => by kernel_rfl
  have htb : ∀ W : World, (Instr.typeAssert (.iface 95 (.agg #[.int .i64 k, .int .i64 n])) 20 95 true).run Tryz.prog W = .ok (.tuple #[.agg #[.int .i64 k, .int .i64 n], .bool true]) W := fun _ => by kernel_rfl
  go_enter Tryz.func30, Tryz.ntmps30
  go_wp2_with fail
  go_quiet (fail)
  go_wp2_with fail
  go_ret2
  refine ⟨rfl, below_drewN ?_ _⟩
  first
    | exact (Below.refl _ _).alloc (Nat.le_refl _) _
    | exact ((Below.refl _ _).alloc (Nat.le_refl _) _).setCell (Nat.le_refl _) _
    | exact Below.setCell (Below.setCell ((Below.refl _ _).alloc (Nat.le_refl _) _) (by simp) _) (by simp) _
    | trace_state
/-! Letters, keys, values. -/
theorem all_snocZ (l : List UInt8) (p : UInt8 → Bool) (k : Nat) (h : k < l.length) : (l.take (k + 1)).all p = ((l.take k).all p && p l[k]) := by
  rw [List.take_succ_eq_append_getElem h, List.all_append]; simp only [List.all_cons, List.all_nil, Bool.and_true]
theorem all_falseZ (l : List UInt8) (p : UInt8 → Bool) (k : Nat) (h : k < l.length) (hp : p l[k] = false) : l.all p = false := by
  rw [Bool.eq_false_iff]; intro ha; rw [List.all_eq_true] at ha; have := ha _ (List.getElem_mem h); simp [hp] at this
theorem val_cases (c : UInt8) : (Sz.valC c = true ∧ decide ((c.toNat : Int) < 32) = false ∧ decide ((126 : Int) < (c.toNat : Int)) = false) ∨ (Sz.valC c = false ∧ decide ((c.toNat : Int) < 32) = true) ∨ (Sz.valC c = false ∧ decide ((c.toNat : Int) < 32) = false ∧ decide ((126 : Int) < (c.toNat : Int)) = true) := by
  unfold Sz.valC
  by_cases h1 : 32 ≤ c.toNat
  · by_cases h2 : c.toNat ≤ 126
    · left; exact ⟨by rw [decide_eq_true h1, decide_eq_true h2]; rfl, decide_eq_false (by omega), decide_eq_false (by omega)⟩
    · right; right; exact ⟨by rw [decide_eq_false h2, Bool.and_false], decide_eq_false (by omega), decide_eq_true (by omega)⟩
  · right; left; exact ⟨by rw [decide_eq_false h1]; rfl, decide_eq_true (by omega)⟩
end Go.Proofs.YtkdildgdodnbbaaGreatDoor
