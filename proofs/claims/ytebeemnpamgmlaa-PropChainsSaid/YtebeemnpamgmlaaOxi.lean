/- The program's Close and Units as the laws ask of them. -/
import Derived.Test.YtebeemnpamgmlaaOxh
import Derived.Test.YtebeemnpamgmlaaOl
namespace Go.Proofs.Ytebeemnpamgmlaa.Up
open Go.RowKit Cl
theorem unitsC : UnitsC := fun A ll c l w hl hg h => pUnits_any A ll c l w hl hg (by omega)
theorem known15 : KnownC15 := known15_any pClose_any unitsC
end Go.Proofs.Ytebeemnpamgmlaa.Up
