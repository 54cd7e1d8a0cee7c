/- The reference's check of a proof, and whether it ends in a clause: walked. -/
import Derived.Test.YtebeemnpamgmlaaOi
import Derived.Test.YtebeemnpamgmlaaOf
import Derived.Test.YtebeemnpamgmlaaEl
namespace Go.Proofs.Ytebeemnpamgmlaa.Up
open Go.RowKit Cl
/-- A row of rows copied onto an empty one of one's own. -/
theorem ggrid_copy {w u' : World} {B : Nat} {T : TypeId} {v' : Value} {t : List (List Int)} {ds : List Desc} (hI : Gr.In encI 1 w ds t) (hwu : Below w.heap.size w u') (hO : Rg.Own encO 1 u' B T v' ds) (hB : w.heap.size ≤ B) : Gr.Own encI 1 u' B T v' t := by
  refine ⟨ds, hO, Gr.in_below hI hwu, fun i d l h1 h2 h0 a ha e => ?_⟩
  obtain ⟨a', ha', hb, _⟩ := (hI.2 i d l h1 h2).2 h0
  obtain rfl := Option.some.inj (ha.symm.trans ha')
  have := (Rg.own_lt hO _ e).1
  omega
end Go.Proofs.Ytebeemnpamgmlaa.Up
namespace Go.Proofs.Ytebeemnpamgmlaa
open Go.RowKit Cl Up
attribute [local go_sem ↓] Go.wp_at_zero Go.wp_at_succ
noncomputable def Up.endsB (n : Int) (l p : List (List Int)) (c : List Int) : Bool := (proofP n l p).2 == 0 && (decide (0 < p.length) && decide (p.getLastD [] = c))
end Go.Proofs.Ytebeemnpamgmlaa
