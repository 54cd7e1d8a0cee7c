/-
  NARROWER THAN 'FOR EVERY INPUT', by the rows' own cells (each row's printed sentence says how): StanzaReads: laid · StanzaOrder: laid · StanzaLines: laid · StanzaBytes: laid.
  DERIVED. THE GIVEN ROWS OF THIS SEAT. 4 by the template 'for every input the law returns true; each argument reads behind the call as it read before'; 0 by the template 'total and deterministic' (their statements: YtmhobdlhmkbkdaaDoorTotals.lean).
  GIVEN WITH THE SEED: the statements are not yours to turn. If you find one false, say at which input.
  Laid BY PROGRAM, IN A SANDBOX (cutbox-rows.mjs): the forced cells as the released guide's own fill.sh prints them over the translation abdf5a8659536a65… (all of the seat's roots in one cut). By AI agents, Wed Nov 11 2026. No macro, syntax, notation, axiom, sorry.
-/
import Derived.Test.YtmhobdlhmkbkdaaDoorChecked
import GoSem.PinnedTables
import GoSem.Claim
import GoSem.ClaimJoined
import GoSem.ClaimMapViews
import Derived.JoinedTies
import Derived.KernelRfl
namespace Go.Proofs.YtmhobdlhmkbkdaaDoor
/- THE CELL 'sum', in the pinned program and in every row, IS THE sha256 OF THE DUMP (.gsa) THAT YtmhobdlhmkbkdaaDoorProg.lean LOADS. Nothing in Lean hashes anything: it is a label: what it is worth is what the hold of that sum in a sandbox is worth. -/
noncomputable def Tryd.pinned : Pinned := { name := "ytmhobdlhmkbkdaadoor", sum := "abdf5a8659536a6566d258ec2116761baa5d7aa7592fc41af5f8d9dd5c98d34f", checked := Tryd.checked }
namespace Rows
def none {H : Type} : Left H := { results := [], args := [] }

/- WHAT THE LISTED PACKAGE-LEVEL VARIABLES READ AS WHEN THE CALL BEGINS. Each datum BY PROGRAM (the guide's laid-datum.mjs) off the statement by which the dump's own 'gosem.cut.vars' lays the variable. In a bare row this is a premise. The card (YtmhobdlhmkbkdaaDoorCards.lean) ties it to the program's text. -/
def laid_unicode_utf8_acceptRanges {H : Type} : DataW H := .agg [.agg [.lit (.int .u8 128), .lit (.int .u8 191)], .agg [.lit (.int .u8 160), .lit (.int .u8 191)], .agg [.lit (.int .u8 128), .lit (.int .u8 159)], .agg [.lit (.int .u8 144), .lit (.int .u8 191)], .agg [.lit (.int .u8 128), .lit (.int .u8 143)], .agg [.lit (.int .u8 0), .lit (.int .u8 0)], .agg [.lit (.int .u8 0), .lit (.int .u8 0)], .agg [.lit (.int .u8 0), .lit (.int .u8 0)], .agg [.lit (.int .u8 0), .lit (.int .u8 0)], .agg [.lit (.int .u8 0), .lit (.int .u8 0)], .agg [.lit (.int .u8 0), .lit (.int .u8 0)], .agg [.lit (.int .u8 0), .lit (.int .u8 0)], .agg [.lit (.int .u8 0), .lit (.int .u8 0)], .agg [.lit (.int .u8 0), .lit (.int .u8 0)], .agg [.lit (.int .u8 0), .lit (.int .u8 0)], .agg [.lit (.int .u8 0), .lit (.int .u8 0)]]
/-- One of Go's own tables, pinned by name: the form's constant. -/
def laid_unicode_utf8_first : DataW Unit := Go.Pinned.utf8First

/-- 'manciplelaw5.StanzaReads': WHATEVER THE INPUT: true; the input reads as it did. -/
def stanzaReadsSpec : ChangeSpec := { name := "stanzaReads", fn := fun _ => fun
  | [d] => { results := [.lit (.bool true)], args := [d] }
  | _ => none }
def stanzaReadsRow : OpenClaim := { program := "ytmhobdlhmkbkdaadoor", sum := "abdf5a8659536a6566d258ec2116761baa5d7aa7592fc41af5f8d9dd5c98d34f", func := "manciple/manciplelaw5.StanzaReads", spec := "stanzaReads", inPlace := ["internal/bytealg.CountString", "internal/bytealg.IndexByteString", "internal/bytealg.IndexString", "internal/abi.NoEscape"], unfollowed := true, recurses := true, named := ["unicode/utf8.first", "unicode/utf8.acceptRanges", "internal/bytealg.MaxLen"], apart := false, laid := [("unicode/utf8.acceptRanges", laid_unicode_utf8_acceptRanges), ("unicode/utf8.first", laid_unicode_utf8_first)] }
def StanzaReadsSaid : Prop := stanzaReadsRow.holds Tryd.pinned (OpenSpec.ofChange stanzaReadsSpec)

/-- ITS FALSE NEIGHBOUR: 'it returns false'. Refute it at one input. -/
def stanzaReadsWrong : ChangeSpec := { name := "stanzaReads", fn := fun _ => fun
  | [d] => { results := [.lit (.bool false)], args := [d] }
  | _ => none }
def StanzaReadsWrongFalsely : Prop := stanzaReadsRow.holds Tryd.pinned (OpenSpec.ofChange stanzaReadsWrong)

/-- 'manciplelaw5.StanzaOrder': WHATEVER THE INPUT: true; the input reads as it did. -/
def stanzaOrderSpec : ChangeSpec := { name := "stanzaOrder", fn := fun _ => fun
  | [d1, d2, d3] => { results := [.lit (.bool true)], args := [d1, d2, d3] }
  | _ => none }
def stanzaOrderRow : OpenClaim := { program := "ytmhobdlhmkbkdaadoor", sum := "abdf5a8659536a6566d258ec2116761baa5d7aa7592fc41af5f8d9dd5c98d34f", func := "manciple/manciplelaw5.StanzaOrder", spec := "stanzaOrder", inPlace := ["internal/bytealg.CountString", "internal/bytealg.IndexByteString", "internal/bytealg.IndexString", "internal/abi.NoEscape"], unfollowed := true, recurses := true, named := ["unicode/utf8.first", "unicode/utf8.acceptRanges", "internal/bytealg.MaxLen"], apart := false, laid := [("unicode/utf8.acceptRanges", laid_unicode_utf8_acceptRanges), ("unicode/utf8.first", laid_unicode_utf8_first)] }
def StanzaOrderSaid : Prop := stanzaOrderRow.holds Tryd.pinned (OpenSpec.ofChange stanzaOrderSpec)

/-- ITS FALSE NEIGHBOUR: 'it returns false'. Refute it at one input. -/
def stanzaOrderWrong : ChangeSpec := { name := "stanzaOrder", fn := fun _ => fun
  | [d1, d2, d3] => { results := [.lit (.bool false)], args := [d1, d2, d3] }
  | _ => none }
def StanzaOrderWrongFalsely : Prop := stanzaOrderRow.holds Tryd.pinned (OpenSpec.ofChange stanzaOrderWrong)

/-- 'manciplelaw5.StanzaLines': WHATEVER THE INPUT: true; the input reads as it did. -/
def stanzaLinesSpec : ChangeSpec := { name := "stanzaLines", fn := fun _ => fun
  | [d1, d2] => { results := [.lit (.bool true)], args := [d1, d2] }
  | _ => none }
def stanzaLinesRow : OpenClaim := { program := "ytmhobdlhmkbkdaadoor", sum := "abdf5a8659536a6566d258ec2116761baa5d7aa7592fc41af5f8d9dd5c98d34f", func := "manciple/manciplelaw5.StanzaLines", spec := "stanzaLines", inPlace := ["internal/bytealg.CountString", "internal/bytealg.IndexByteString", "internal/bytealg.IndexString", "internal/abi.NoEscape"], unfollowed := true, recurses := true, named := ["unicode/utf8.first", "unicode/utf8.acceptRanges", "internal/bytealg.MaxLen"], apart := false, laid := [("unicode/utf8.acceptRanges", laid_unicode_utf8_acceptRanges), ("unicode/utf8.first", laid_unicode_utf8_first)] }
def StanzaLinesSaid : Prop := stanzaLinesRow.holds Tryd.pinned (OpenSpec.ofChange stanzaLinesSpec)

/-- ITS FALSE NEIGHBOUR: 'it returns false'. Refute it at one input. -/
def stanzaLinesWrong : ChangeSpec := { name := "stanzaLines", fn := fun _ => fun
  | [d1, d2] => { results := [.lit (.bool false)], args := [d1, d2] }
  | _ => none }
def StanzaLinesWrongFalsely : Prop := stanzaLinesRow.holds Tryd.pinned (OpenSpec.ofChange stanzaLinesWrong)

/-- 'manciplelaw5.StanzaBytes': WHATEVER THE INPUT: true; the input reads as it did. -/
def stanzaBytesSpec : ChangeSpec := { name := "stanzaBytes", fn := fun _ => fun
  | [d1, d2] => { results := [.lit (.bool true)], args := [d1, d2] }
  | _ => none }
def stanzaBytesRow : OpenClaim := { program := "ytmhobdlhmkbkdaadoor", sum := "abdf5a8659536a6566d258ec2116761baa5d7aa7592fc41af5f8d9dd5c98d34f", func := "manciple/manciplelaw5.StanzaBytes", spec := "stanzaBytes", inPlace := ["internal/bytealg.CountString", "internal/bytealg.IndexByteString", "internal/bytealg.IndexString", "internal/abi.NoEscape"], unfollowed := true, recurses := true, named := ["unicode/utf8.first", "unicode/utf8.acceptRanges", "internal/bytealg.MaxLen"], apart := false, laid := [("unicode/utf8.acceptRanges", laid_unicode_utf8_acceptRanges), ("unicode/utf8.first", laid_unicode_utf8_first)] }
def StanzaBytesSaid : Prop := stanzaBytesRow.holds Tryd.pinned (OpenSpec.ofChange stanzaBytesSpec)

/-- ITS FALSE NEIGHBOUR: 'it returns false'. Refute it at one input. -/
def stanzaBytesWrong : ChangeSpec := { name := "stanzaBytes", fn := fun _ => fun
  | [d1, d2] => { results := [.lit (.bool false)], args := [d1, d2] }
  | _ => none }
def StanzaBytesWrongFalsely : Prop := stanzaBytesRow.holds Tryd.pinned (OpenSpec.ofChange stanzaBytesWrong)

/- THE SECOND FORM. 'bulk': how many values and letters a reading holds, each counted each time it is reached (what is shared counts as often as it is met; a slice's spare places count too). A statement '..UptoSaid' is the law's where the arguments, and the package variables that the reading takes, are together of bulk at most 1048576: NARROWER than '..Said'. Prove '..Said' where nothing that the law and all that it calls make is longer than what came in: it says more and counts as full. Else prove '..UptoSaid'. A law counts once. -/
mutual
def uptoBulk {H : Type} : DataW H → Nat
  | .lit (.string bytes) => bytes.length + 1
  | .lit _ => 1
  | .nil => 1
  | .ptr d => uptoBulk d + 1
  | .slice elems spare => uptoBulkAll elems + uptoBulkAll spare + 1
  | .agg parts => uptoBulkAll parts + 1
  | .iface _ d => uptoBulk d + 1
  | .map entries => uptoBulkEntries entries + 1
  | .held _ => 1
def uptoBulkAll {H : Type} : List (DataW H) → Nat
  | [] => 0
  | d :: r => uptoBulk d + uptoBulkAll r
def uptoBulkEntries {H : Type} : List (Lit × DataW H) → Nat
  | [] => 0
  | x :: r => uptoBulkEntry x + uptoBulkEntries r
def uptoBulkEntry {H : Type} : Lit × DataW H → Nat
  | (.string bytes, d) => bytes.length + uptoBulk d + 1
  | (_, d) => uptoBulk d + 1
 end
def uptoSmall : (H : Type) → List (DataW H) → Bool := fun _ ds => decide (uptoBulkAll ds ≤ 1048576)
def OpenSpec.upto (s : _root_.Go.ChangeSpec) : _root_.Go.OpenSpec := { _root_.Go.OpenSpec.ofChange s with cond := some uptoSmall }

/-- 'manciplelaw5.StanzaReads', WHERE WHAT IT READS IS OF BULK AT MOST 1048576: true; the input reads as it did. -/
def stanzaReadsUptoRow : OpenClaim := { program := "ytmhobdlhmkbkdaadoor", sum := "abdf5a8659536a6566d258ec2116761baa5d7aa7592fc41af5f8d9dd5c98d34f", func := "manciple/manciplelaw5.StanzaReads", spec := "stanzaReads", inPlace := ["internal/bytealg.CountString", "internal/bytealg.IndexByteString", "internal/bytealg.IndexString", "internal/abi.NoEscape"], unfollowed := true, recurses := true, named := ["unicode/utf8.first", "unicode/utf8.acceptRanges", "internal/bytealg.MaxLen"], apart := false, laid := [("unicode/utf8.acceptRanges", laid_unicode_utf8_acceptRanges), ("unicode/utf8.first", laid_unicode_utf8_first)], narrowed := true }
def StanzaReadsUptoSaid : Prop := stanzaReadsUptoRow.holds Tryd.pinned (OpenSpec.upto stanzaReadsSpec)

/-- 'manciplelaw5.StanzaOrder', WHERE WHAT IT READS IS OF BULK AT MOST 1048576: true; the input reads as it did. -/
def stanzaOrderUptoRow : OpenClaim := { program := "ytmhobdlhmkbkdaadoor", sum := "abdf5a8659536a6566d258ec2116761baa5d7aa7592fc41af5f8d9dd5c98d34f", func := "manciple/manciplelaw5.StanzaOrder", spec := "stanzaOrder", inPlace := ["internal/bytealg.CountString", "internal/bytealg.IndexByteString", "internal/bytealg.IndexString", "internal/abi.NoEscape"], unfollowed := true, recurses := true, named := ["unicode/utf8.first", "unicode/utf8.acceptRanges", "internal/bytealg.MaxLen"], apart := false, laid := [("unicode/utf8.acceptRanges", laid_unicode_utf8_acceptRanges), ("unicode/utf8.first", laid_unicode_utf8_first)], narrowed := true }
def StanzaOrderUptoSaid : Prop := stanzaOrderUptoRow.holds Tryd.pinned (OpenSpec.upto stanzaOrderSpec)

/-- 'manciplelaw5.StanzaLines', WHERE WHAT IT READS IS OF BULK AT MOST 1048576: true; the input reads as it did. -/
def stanzaLinesUptoRow : OpenClaim := { program := "ytmhobdlhmkbkdaadoor", sum := "abdf5a8659536a6566d258ec2116761baa5d7aa7592fc41af5f8d9dd5c98d34f", func := "manciple/manciplelaw5.StanzaLines", spec := "stanzaLines", inPlace := ["internal/bytealg.CountString", "internal/bytealg.IndexByteString", "internal/bytealg.IndexString", "internal/abi.NoEscape"], unfollowed := true, recurses := true, named := ["unicode/utf8.first", "unicode/utf8.acceptRanges", "internal/bytealg.MaxLen"], apart := false, laid := [("unicode/utf8.acceptRanges", laid_unicode_utf8_acceptRanges), ("unicode/utf8.first", laid_unicode_utf8_first)], narrowed := true }
def StanzaLinesUptoSaid : Prop := stanzaLinesUptoRow.holds Tryd.pinned (OpenSpec.upto stanzaLinesSpec)

/-- 'manciplelaw5.StanzaBytes', WHERE WHAT IT READS IS OF BULK AT MOST 1048576: true; the input reads as it did. -/
def stanzaBytesUptoRow : OpenClaim := { program := "ytmhobdlhmkbkdaadoor", sum := "abdf5a8659536a6566d258ec2116761baa5d7aa7592fc41af5f8d9dd5c98d34f", func := "manciple/manciplelaw5.StanzaBytes", spec := "stanzaBytes", inPlace := ["internal/bytealg.CountString", "internal/bytealg.IndexByteString", "internal/bytealg.IndexString", "internal/abi.NoEscape"], unfollowed := true, recurses := true, named := ["unicode/utf8.first", "unicode/utf8.acceptRanges", "internal/bytealg.MaxLen"], apart := false, laid := [("unicode/utf8.acceptRanges", laid_unicode_utf8_acceptRanges), ("unicode/utf8.first", laid_unicode_utf8_first)], narrowed := true }
def StanzaBytesUptoSaid : Prop := stanzaBytesUptoRow.holds Tryd.pinned (OpenSpec.upto stanzaBytesSpec)

end Rows
end Go.Proofs.YtmhobdlhmkbkdaaDoor
