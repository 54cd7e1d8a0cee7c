/- A slice that came in is no longer than a slice may be. -/
import Derived.Test.YtkdildgdodnbbaaGreatDoorRows
import Derived.Deep.Slices
import Derived.RowKit
namespace Go.Proofs.YtkdildgdodnbbaaGreatDoor
open Go.ChangeShapes Go.WideShapes
theorem slice_cap {H : Type} {enc : TypeId × Value → H} {P : Program} {W : World} {t e : TypeId} {A : Option Addr} {n c : Nat} {d : DataW H} {ps : List MemPlace} (ht : P.underlying t = some (.slice e)) (h : DataW.Trod enc P W 0 (fun _ => true) true t (.slice A n c) d ps) : n ≤ maxLen := by
  obtain ⟨fuel, hf⟩ := h
  rcases Go.Deep.open_slice ht hf with ⟨hcs, _⟩ | ⟨a, len, cap, m, k, D, Pl, hcs, _, hl, hm, _⟩
  · simp [Value.cells] at hcs
    rw [hcs.2.1]; exact Nat.zero_le _
  · simp [Value.cells] at hcs
    obtain ⟨_, rfl, rfl⟩ := hcs
    exact Nat.le_trans hl hm
end Go.Proofs.YtkdildgdodnbbaaGreatDoor
