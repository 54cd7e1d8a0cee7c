/-
  No cell of these rows narrows 'for every input' (looked for: loops, veiled, ifaces, maps, wideKeys, modest, calm, conditions, laid).
  DERIVED. THE GIVEN ROWS OF THIS SEAT. 4 by the template 'for every input the law returns true; each argument reads behind the call as it read before'; 0 by the template 'total and deterministic' (their statements: YtebeemnpamgmlaaTotals.lean).
  GIVEN WITH THE SEED: the statements are not yours to turn. If you find one false, say at which input.
  Laid BY PROGRAM, IN A SANDBOX (cutbox-rows.mjs): the forced cells as the released guide's own fill.sh prints them over the translation 6da995a8b0ab8491… (all of the seat's roots in one cut). By AI agents, Wed Nov 11 2026. No macro, syntax, notation, axiom, sorry.
-/
import Derived.Test.YtebeemnpamgmlaaChecked
import GoSem.Claim
import GoSem.ClaimJoined
import GoSem.ClaimMapViews
import Derived.JoinedTies
import Derived.KernelRfl
namespace Go.Proofs.Ytebeemnpamgmlaa
/- THE CELL 'sum', in the pinned program and in every row, IS THE sha256 OF THE DUMP (.gsa) THAT YtebeemnpamgmlaaProg.lean LOADS. Nothing in Lean hashes anything: it is a label: what it is worth is what the hold of that sum in a sandbox is worth. -/
noncomputable def Try.pinned : Pinned := { name := "ytebeemnpamgmlaa", sum := "6da995a8b0ab8491c6b5da4c64ad60e851f7058aeed18f62efe9903c32409333", checked := Try.checked }
namespace Rows
def none {H : Type} : Left H := { results := [], args := [] }

/-- 'manciplelaw15.PropAny': WHATEVER THE INPUT: true; the input reads as it did. -/
def propAnySpec : ChangeSpec := { name := "propAny", fn := fun _ => fun
  | [d1, d2, d3] => { results := [.lit (.bool true)], args := [d1, d2, d3] }
  | _ => none }
def propAnyRow : OpenClaim := { program := "ytebeemnpamgmlaa", sum := "6da995a8b0ab8491c6b5da4c64ad60e851f7058aeed18f62efe9903c32409333", func := "manciple/manciplelaw15.PropAny", spec := "propAny", unfollowed := true, recurses := true, apart := false }
def PropAnySaid : Prop := propAnyRow.holds Try.pinned (OpenSpec.ofChange propAnySpec)

/-- ITS FALSE NEIGHBOUR: 'it returns false'. Refute it at one input. -/
def propAnyWrong : ChangeSpec := { name := "propAny", fn := fun _ => fun
  | [d1, d2, d3] => { results := [.lit (.bool false)], args := [d1, d2, d3] }
  | _ => none }
def PropAnyWrongFalsely : Prop := propAnyRow.holds Try.pinned (OpenSpec.ofChange propAnyWrong)

/-- 'manciplelaw15.PropFollows': WHATEVER THE INPUT: true; the input reads as it did. -/
def propFollowsSpec : ChangeSpec := { name := "propFollows", fn := fun _ => fun
  | [d1, d2, d3] => { results := [.lit (.bool true)], args := [d1, d2, d3] }
  | _ => none }
def propFollowsRow : OpenClaim := { program := "ytebeemnpamgmlaa", sum := "6da995a8b0ab8491c6b5da4c64ad60e851f7058aeed18f62efe9903c32409333", func := "manciple/manciplelaw15.PropFollows", spec := "propFollows", unfollowed := true, recurses := true, apart := false }
def PropFollowsSaid : Prop := propFollowsRow.holds Try.pinned (OpenSpec.ofChange propFollowsSpec)

/-- ITS FALSE NEIGHBOUR: 'it returns false'. Refute it at one input. -/
def propFollowsWrong : ChangeSpec := { name := "propFollows", fn := fun _ => fun
  | [d1, d2, d3] => { results := [.lit (.bool false)], args := [d1, d2, d3] }
  | _ => none }
def PropFollowsWrongFalsely : Prop := propFollowsRow.holds Try.pinned (OpenSpec.ofChange propFollowsWrong)

/-- 'manciplelaw15.PropChains': WHATEVER THE INPUT: true; the input reads as it did. -/
def propChainsSpec : ChangeSpec := { name := "propChains", fn := fun _ => fun
  | [d1, d2, d3] => { results := [.lit (.bool true)], args := [d1, d2, d3] }
  | _ => none }
def propChainsRow : OpenClaim := { program := "ytebeemnpamgmlaa", sum := "6da995a8b0ab8491c6b5da4c64ad60e851f7058aeed18f62efe9903c32409333", func := "manciple/manciplelaw15.PropChains", spec := "propChains", unfollowed := true, recurses := true, apart := false }
def PropChainsSaid : Prop := propChainsRow.holds Try.pinned (OpenSpec.ofChange propChainsSpec)

/-- ITS FALSE NEIGHBOUR: 'it returns false'. Refute it at one input. -/
def propChainsWrong : ChangeSpec := { name := "propChains", fn := fun _ => fun
  | [d1, d2, d3] => { results := [.lit (.bool false)], args := [d1, d2, d3] }
  | _ => none }
def PropChainsWrongFalsely : Prop := propChainsRow.holds Try.pinned (OpenSpec.ofChange propChainsWrong)

/-- 'manciplelaw15.PropMore': WHATEVER THE INPUT: true; the input reads as it did. -/
def propMoreSpec : ChangeSpec := { name := "propMore", fn := fun _ => fun
  | [d1, d2, d3, d4] => { results := [.lit (.bool true)], args := [d1, d2, d3, d4] }
  | _ => none }
def propMoreRow : OpenClaim := { program := "ytebeemnpamgmlaa", sum := "6da995a8b0ab8491c6b5da4c64ad60e851f7058aeed18f62efe9903c32409333", func := "manciple/manciplelaw15.PropMore", spec := "propMore", unfollowed := true, recurses := true, apart := false }
def PropMoreSaid : Prop := propMoreRow.holds Try.pinned (OpenSpec.ofChange propMoreSpec)

/-- ITS FALSE NEIGHBOUR: 'it returns false'. Refute it at one input. -/
def propMoreWrong : ChangeSpec := { name := "propMore", fn := fun _ => fun
  | [d1, d2, d3, d4] => { results := [.lit (.bool false)], args := [d1, d2, d3, d4] }
  | _ => none }
def PropMoreWrongFalsely : Prop := propMoreRow.holds Try.pinned (OpenSpec.ofChange propMoreWrong)

/- THE SECOND FORM. 'bulk': how many values and letters a reading holds, each counted each time it is reached (what is shared counts as often as it is met; a slice's spare places count too). A statement '..UptoSaid' is the law's where the arguments, and the package variables that the reading takes, are together of bulk at most 1048576: NARROWER than '..Said'. Prove '..Said' where nothing that the law and all that it calls make is longer than what came in: it says more and counts as full. Else prove '..UptoSaid'. A law counts once. -/
mutual
def uptoBulk {H : Type} : DataW H → Nat
  | .lit (.string bytes) => bytes.length + 1
  | .lit _ => 1
  | .nil => 1
  | .ptr d => uptoBulk d + 1
  | .slice elems spare => uptoBulkAll elems + uptoBulkAll spare + 1
  | .agg parts => uptoBulkAll parts + 1
  | .iface _ d => uptoBulk d + 1
  | .map entries => uptoBulkEntries entries + 1
  | .held _ => 1
def uptoBulkAll {H : Type} : List (DataW H) → Nat
  | [] => 0
  | d :: r => uptoBulk d + uptoBulkAll r
def uptoBulkEntries {H : Type} : List (Lit × DataW H) → Nat
  | [] => 0
  | x :: r => uptoBulkEntry x + uptoBulkEntries r
def uptoBulkEntry {H : Type} : Lit × DataW H → Nat
  | (.string bytes, d) => bytes.length + uptoBulk d + 1
  | (_, d) => uptoBulk d + 1
 end
def uptoSmall : (H : Type) → List (DataW H) → Bool := fun _ ds => decide (uptoBulkAll ds ≤ 1048576)
def OpenSpec.upto (s : _root_.Go.ChangeSpec) : _root_.Go.OpenSpec := { _root_.Go.OpenSpec.ofChange s with cond := some uptoSmall }

/-- 'manciplelaw15.PropAny', WHERE WHAT IT READS IS OF BULK AT MOST 1048576: true; the input reads as it did. -/
def propAnyUptoRow : OpenClaim := { program := "ytebeemnpamgmlaa", sum := "6da995a8b0ab8491c6b5da4c64ad60e851f7058aeed18f62efe9903c32409333", func := "manciple/manciplelaw15.PropAny", spec := "propAny", unfollowed := true, recurses := true, apart := false, narrowed := true }
def PropAnyUptoSaid : Prop := propAnyUptoRow.holds Try.pinned (OpenSpec.upto propAnySpec)

/-- 'manciplelaw15.PropFollows', WHERE WHAT IT READS IS OF BULK AT MOST 1048576: true; the input reads as it did. -/
def propFollowsUptoRow : OpenClaim := { program := "ytebeemnpamgmlaa", sum := "6da995a8b0ab8491c6b5da4c64ad60e851f7058aeed18f62efe9903c32409333", func := "manciple/manciplelaw15.PropFollows", spec := "propFollows", unfollowed := true, recurses := true, apart := false, narrowed := true }
def PropFollowsUptoSaid : Prop := propFollowsUptoRow.holds Try.pinned (OpenSpec.upto propFollowsSpec)

/-- 'manciplelaw15.PropChains', WHERE WHAT IT READS IS OF BULK AT MOST 1048576: true; the input reads as it did. -/
def propChainsUptoRow : OpenClaim := { program := "ytebeemnpamgmlaa", sum := "6da995a8b0ab8491c6b5da4c64ad60e851f7058aeed18f62efe9903c32409333", func := "manciple/manciplelaw15.PropChains", spec := "propChains", unfollowed := true, recurses := true, apart := false, narrowed := true }
def PropChainsUptoSaid : Prop := propChainsUptoRow.holds Try.pinned (OpenSpec.upto propChainsSpec)

/-- 'manciplelaw15.PropMore', WHERE WHAT IT READS IS OF BULK AT MOST 1048576: true; the input reads as it did. -/
def propMoreUptoRow : OpenClaim := { program := "ytebeemnpamgmlaa", sum := "6da995a8b0ab8491c6b5da4c64ad60e851f7058aeed18f62efe9903c32409333", func := "manciple/manciplelaw15.PropMore", spec := "propMore", unfollowed := true, recurses := true, apart := false, narrowed := true }
def PropMoreUptoSaid : Prop := propMoreUptoRow.holds Try.pinned (OpenSpec.upto propMoreSpec)

end Rows
end Go.Proofs.Ytebeemnpamgmlaa
