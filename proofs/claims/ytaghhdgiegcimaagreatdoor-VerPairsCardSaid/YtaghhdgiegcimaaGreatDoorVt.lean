/- The laws VerRows and VerAny, walked. -/
import Derived.Test.YtaghhdgiegcimaaGreatDoorVo
namespace Go.Proofs.YtaghhdgiegcimaaGreatDoor
open Go.RowKit

theorem checkVer_at (l : List UInt8) (c : Int) (w : World) (hc : Vm.check l = c) :
    Calls Tryz.prog 11 #[.string ⟨l.toArray⟩] w fun e w' => e = .returned (.int .i64 c) ∧ w = w' := by
  have := checkVer_any l w; rw [hc] at this; exact this
theorem bne_of {c : Int} (h : c ≠ 0) : (c != 0) = true := by simpa using h


end Go.Proofs.YtaghhdgiegcimaaGreatDoor
