/-
  No cell of these rows narrows 'for every input' (looked for: loops, veiled, ifaces, maps, wideKeys, modest, calm, conditions, laid).
  DERIVED. THE GIVEN ROWS OF THIS SEAT. 5 by the template 'for every input the law returns true; each argument reads behind the call as it read before'; 0 by the template 'total and deterministic' (their statements: YtjkmdghlhodhiaaTotals.lean).
  GIVEN WITH THE SEED: the statements are not yours to turn. If you find one false, say at which input.
  Laid BY PROGRAM, IN A SANDBOX (cutbox-rows.mjs): the forced cells as the released guide's own fill.sh prints them over the translation 72584314dc61ee71… (all of the seat's roots in one cut). By AI agents, Wed Nov 11 2026. No macro, syntax, notation, axiom, sorry.
-/
import Derived.Test.YtjkmdghlhodhiaaChecked
import GoSem.Claim
import GoSem.ClaimJoined
import GoSem.ClaimMapViews
import Derived.JoinedTies
import Derived.KernelRfl
namespace Go.Proofs.Ytjkmdghlhodhiaa
/- THE CELL 'sum', in the pinned program and in every row, IS THE sha256 OF THE DUMP (.gsa) THAT YtjkmdghlhodhiaaProg.lean LOADS. Nothing in Lean hashes anything: it is a label: what it is worth is what the hold of that sum in a sandbox is worth. -/
noncomputable def Try.pinned : Pinned := { name := "ytjkmdghlhodhiaa", sum := "72584314dc61ee7186b8dacd0d39ec22ccf65a357e65faeaeb06d12f6267c9b2", checked := Try.checked }
namespace Rows
def none {H : Type} : Left H := { results := [], args := [] }

/-- 'manciplelaw16.RupAny': WHATEVER THE INPUT: true; the input reads as it did. -/
def rupAnySpec : ChangeSpec := { name := "rupAny", fn := fun _ => fun
  | [d1, d2, d3, d4] => { results := [.lit (.bool true)], args := [d1, d2, d3, d4] }
  | _ => none }
def rupAnyRow : OpenClaim := { program := "ytjkmdghlhodhiaa", sum := "72584314dc61ee7186b8dacd0d39ec22ccf65a357e65faeaeb06d12f6267c9b2", func := "manciple/manciplelaw16.RupAny", spec := "rupAny", unfollowed := true, recurses := true, apart := false }
def RupAnySaid : Prop := rupAnyRow.holds Try.pinned (OpenSpec.ofChange rupAnySpec)

/-- ITS FALSE NEIGHBOUR: 'it returns false'. Refute it at one input. -/
def rupAnyWrong : ChangeSpec := { name := "rupAny", fn := fun _ => fun
  | [d1, d2, d3, d4] => { results := [.lit (.bool false)], args := [d1, d2, d3, d4] }
  | _ => none }
def RupAnyWrongFalsely : Prop := rupAnyRow.holds Try.pinned (OpenSpec.ofChange rupAnyWrong)

/-- 'manciplelaw16.RupTrue': WHATEVER THE INPUT: true; the input reads as it did. -/
def rupTrueSpec : ChangeSpec := { name := "rupTrue", fn := fun _ => fun
  | [d1, d2, d3] => { results := [.lit (.bool true)], args := [d1, d2, d3] }
  | _ => none }
def rupTrueRow : OpenClaim := { program := "ytjkmdghlhodhiaa", sum := "72584314dc61ee7186b8dacd0d39ec22ccf65a357e65faeaeb06d12f6267c9b2", func := "manciple/manciplelaw16.RupTrue", spec := "rupTrue", unfollowed := true, recurses := true, apart := false }
def RupTrueSaid : Prop := rupTrueRow.holds Try.pinned (OpenSpec.ofChange rupTrueSpec)

/-- ITS FALSE NEIGHBOUR: 'it returns false'. Refute it at one input. -/
def rupTrueWrong : ChangeSpec := { name := "rupTrue", fn := fun _ => fun
  | [d1, d2, d3] => { results := [.lit (.bool false)], args := [d1, d2, d3] }
  | _ => none }
def RupTrueWrongFalsely : Prop := rupTrueRow.holds Try.pinned (OpenSpec.ofChange rupTrueWrong)

/-- 'manciplelaw16.RupFronts': WHATEVER THE INPUT: true; the input reads as it did. -/
def rupFrontsSpec : ChangeSpec := { name := "rupFronts", fn := fun _ => fun
  | [d1, d2, d3, d4, d5] => { results := [.lit (.bool true)], args := [d1, d2, d3, d4, d5] }
  | _ => none }
def rupFrontsRow : OpenClaim := { program := "ytjkmdghlhodhiaa", sum := "72584314dc61ee7186b8dacd0d39ec22ccf65a357e65faeaeb06d12f6267c9b2", func := "manciple/manciplelaw16.RupFronts", spec := "rupFronts", unfollowed := true, recurses := true, apart := false }
def RupFrontsSaid : Prop := rupFrontsRow.holds Try.pinned (OpenSpec.ofChange rupFrontsSpec)

/-- ITS FALSE NEIGHBOUR: 'it returns false'. Refute it at one input. -/
def rupFrontsWrong : ChangeSpec := { name := "rupFronts", fn := fun _ => fun
  | [d1, d2, d3, d4, d5] => { results := [.lit (.bool false)], args := [d1, d2, d3, d4, d5] }
  | _ => none }
def RupFrontsWrongFalsely : Prop := rupFrontsRow.holds Try.pinned (OpenSpec.ofChange rupFrontsWrong)

/-- 'manciplelaw16.RupOwn': WHATEVER THE INPUT: true; the input reads as it did. -/
def rupOwnSpec : ChangeSpec := { name := "rupOwn", fn := fun _ => fun
  | [d1, d2, d3, d4] => { results := [.lit (.bool true)], args := [d1, d2, d3, d4] }
  | _ => none }
def rupOwnRow : OpenClaim := { program := "ytjkmdghlhodhiaa", sum := "72584314dc61ee7186b8dacd0d39ec22ccf65a357e65faeaeb06d12f6267c9b2", func := "manciple/manciplelaw16.RupOwn", spec := "rupOwn", unfollowed := true, recurses := true, apart := false }
def RupOwnSaid : Prop := rupOwnRow.holds Try.pinned (OpenSpec.ofChange rupOwnSpec)

/-- ITS FALSE NEIGHBOUR: 'it returns false'. Refute it at one input. -/
def rupOwnWrong : ChangeSpec := { name := "rupOwn", fn := fun _ => fun
  | [d1, d2, d3, d4] => { results := [.lit (.bool false)], args := [d1, d2, d3, d4] }
  | _ => none }
def RupOwnWrongFalsely : Prop := rupOwnRow.holds Try.pinned (OpenSpec.ofChange rupOwnWrong)

/-- 'manciplelaw16.RupHoles': WHATEVER THE INPUT: true; the input reads as it did. -/
def rupHolesSpec : ChangeSpec := { name := "rupHoles", fn := fun _ => fun
  | [d] => { results := [.lit (.bool true)], args := [d] }
  | _ => none }
def rupHolesRow : OpenClaim := { program := "ytjkmdghlhodhiaa", sum := "72584314dc61ee7186b8dacd0d39ec22ccf65a357e65faeaeb06d12f6267c9b2", func := "manciple/manciplelaw16.RupHoles", spec := "rupHoles", unfollowed := true, recurses := true, apart := false }
def RupHolesSaid : Prop := rupHolesRow.holds Try.pinned (OpenSpec.ofChange rupHolesSpec)

/-- ITS FALSE NEIGHBOUR: 'it returns false'. Refute it at one input. -/
def rupHolesWrong : ChangeSpec := { name := "rupHoles", fn := fun _ => fun
  | [d] => { results := [.lit (.bool false)], args := [d] }
  | _ => none }
def RupHolesWrongFalsely : Prop := rupHolesRow.holds Try.pinned (OpenSpec.ofChange rupHolesWrong)

/- THE SECOND FORM. 'bulk': how many values and letters a reading holds, each counted each time it is reached (what is shared counts as often as it is met; a slice's spare places count too). A statement '..UptoSaid' is the law's where the arguments, and the package variables that the reading takes, are together of bulk at most 1048576: NARROWER than '..Said'. Prove '..Said' where nothing that the law and all that it calls make is longer than what came in: it says more and counts as full. Else prove '..UptoSaid'. A law counts once. -/
mutual
def uptoBulk {H : Type} : DataW H → Nat
  | .lit (.string bytes) => bytes.length + 1
  | .lit _ => 1
  | .nil => 1
  | .ptr d => uptoBulk d + 1
  | .slice elems spare => uptoBulkAll elems + uptoBulkAll spare + 1
  | .agg parts => uptoBulkAll parts + 1
  | .iface _ d => uptoBulk d + 1
  | .map entries => uptoBulkEntries entries + 1
  | .held _ => 1
def uptoBulkAll {H : Type} : List (DataW H) → Nat
  | [] => 0
  | d :: r => uptoBulk d + uptoBulkAll r
def uptoBulkEntries {H : Type} : List (Lit × DataW H) → Nat
  | [] => 0
  | x :: r => uptoBulkEntry x + uptoBulkEntries r
def uptoBulkEntry {H : Type} : Lit × DataW H → Nat
  | (.string bytes, d) => bytes.length + uptoBulk d + 1
  | (_, d) => uptoBulk d + 1
 end
def uptoSmall : (H : Type) → List (DataW H) → Bool := fun _ ds => decide (uptoBulkAll ds ≤ 1048576)
def OpenSpec.upto (s : _root_.Go.ChangeSpec) : _root_.Go.OpenSpec := { _root_.Go.OpenSpec.ofChange s with cond := some uptoSmall }

/-- 'manciplelaw16.RupAny', WHERE WHAT IT READS IS OF BULK AT MOST 1048576: true; the input reads as it did. -/
def rupAnyUptoRow : OpenClaim := { program := "ytjkmdghlhodhiaa", sum := "72584314dc61ee7186b8dacd0d39ec22ccf65a357e65faeaeb06d12f6267c9b2", func := "manciple/manciplelaw16.RupAny", spec := "rupAny", unfollowed := true, recurses := true, apart := false, narrowed := true }
def RupAnyUptoSaid : Prop := rupAnyUptoRow.holds Try.pinned (OpenSpec.upto rupAnySpec)

/-- 'manciplelaw16.RupTrue', WHERE WHAT IT READS IS OF BULK AT MOST 1048576: true; the input reads as it did. -/
def rupTrueUptoRow : OpenClaim := { program := "ytjkmdghlhodhiaa", sum := "72584314dc61ee7186b8dacd0d39ec22ccf65a357e65faeaeb06d12f6267c9b2", func := "manciple/manciplelaw16.RupTrue", spec := "rupTrue", unfollowed := true, recurses := true, apart := false, narrowed := true }
def RupTrueUptoSaid : Prop := rupTrueUptoRow.holds Try.pinned (OpenSpec.upto rupTrueSpec)

/-- 'manciplelaw16.RupFronts', WHERE WHAT IT READS IS OF BULK AT MOST 1048576: true; the input reads as it did. -/
def rupFrontsUptoRow : OpenClaim := { program := "ytjkmdghlhodhiaa", sum := "72584314dc61ee7186b8dacd0d39ec22ccf65a357e65faeaeb06d12f6267c9b2", func := "manciple/manciplelaw16.RupFronts", spec := "rupFronts", unfollowed := true, recurses := true, apart := false, narrowed := true }
def RupFrontsUptoSaid : Prop := rupFrontsUptoRow.holds Try.pinned (OpenSpec.upto rupFrontsSpec)

/-- 'manciplelaw16.RupOwn', WHERE WHAT IT READS IS OF BULK AT MOST 1048576: true; the input reads as it did. -/
def rupOwnUptoRow : OpenClaim := { program := "ytjkmdghlhodhiaa", sum := "72584314dc61ee7186b8dacd0d39ec22ccf65a357e65faeaeb06d12f6267c9b2", func := "manciple/manciplelaw16.RupOwn", spec := "rupOwn", unfollowed := true, recurses := true, apart := false, narrowed := true }
def RupOwnUptoSaid : Prop := rupOwnUptoRow.holds Try.pinned (OpenSpec.upto rupOwnSpec)

/-- 'manciplelaw16.RupHoles', WHERE WHAT IT READS IS OF BULK AT MOST 1048576: true; the input reads as it did. -/
def rupHolesUptoRow : OpenClaim := { program := "ytjkmdghlhodhiaa", sum := "72584314dc61ee7186b8dacd0d39ec22ccf65a357e65faeaeb06d12f6267c9b2", func := "manciple/manciplelaw16.RupHoles", spec := "rupHoles", unfollowed := true, recurses := true, apart := false, narrowed := true }
def RupHolesUptoSaid : Prop := rupHolesUptoRow.holds Try.pinned (OpenSpec.upto rupHolesSpec)

end Rows
end Go.Proofs.Ytjkmdghlhodhiaa
