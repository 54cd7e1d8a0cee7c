/- known: the orders and canonical forms that each statement looks at first. The laws VerRows and VerAny, walked. -/
import Derived.Test.YtkdildgdodnbbaaGreatDoorQd
import Derived.Test.YtkdildgdodnbbaaGreatDoorQa
namespace Go.Proofs.YtkdildgdodnbbaaGreatDoor
open Go.RowKit

theorem compare_at (a b : List UInt8) (c : Int) (w : World) (hw : MaxOk w) (h1 : Vm.check a = 0) (h2 : Vm.check b = 0) (hc : Vm.cmpV a b = c) :
    Calls Tryz.prog 159 #[.string ⟨a.toArray⟩, .string ⟨b.toArray⟩] w fun e w' => e = .returned (.int .i64 c) ∧ Below w.heap.size w w' := by
  have := compare_any a b w hw h1 h2; rw [hc] at this; exact this
theorem canon_at (a b : List UInt8) (w : World) (hw : MaxOk w) (h1 : Vm.check a = 0) (hc : Vm.canon a = b) :
    Calls Tryz.prog 155 #[.string ⟨a.toArray⟩] w fun e w' => e = .returned (.tuple #[.string ⟨b.toArray⟩, .int .i64 0]) ∧ Below w.heap.size w w' := by
  have := canon_any a w hw; rw [canonOf, if_pos h1, h1, hc] at this; exact this

end Go.Proofs.YtkdildgdodnbbaaGreatDoor
namespace Go.Proofs.YtkdildgdodnbbaaGreatDoor
open Go.RowKit

theorem checkVer_at (l : List UInt8) (c : Int) (w : World) (hc : Vm.check l = c) :
    Calls Tryz.prog 108 #[.string ⟨l.toArray⟩] w fun e w' => e = .returned (.int .i64 c) ∧ w = w' := by
  have := checkVer_any l w; rw [hc] at this; exact this
theorem bne_of {c : Int} (h : c ≠ 0) : (c != 0) = true := by simpa using h


end Go.Proofs.YtkdildgdodnbbaaGreatDoor
