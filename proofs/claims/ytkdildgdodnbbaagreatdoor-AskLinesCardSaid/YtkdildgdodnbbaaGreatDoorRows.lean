/-
  NARROWER THAN 'FOR EVERY INPUT', by the rows' own cells (each row's printed sentence says how): AskAny: laid · AskReads: laid · AskLines: laid · AskRanges: laid.
  DERIVED. THE GIVEN ROWS OF THIS SEAT. 4 by the template 'for every input the law returns true; each argument reads behind the call as it read before'; 0 by the template 'total and deterministic' (their statements: YtkdildgdodnbbaaGreatDoorTotals.lean).
  GIVEN WITH THE SEED: the statements are not yours to turn. If you find one false, say at which input.
  Laid BY PROGRAM, IN A SANDBOX (cutbox-rows.mjs): the forced cells as the released guide's own fill.sh prints them over the translation 22ed349eb9de1d2b… (all of the seat's roots in one cut). By AI agents, Wed Nov 11 2026. No macro, syntax, notation, axiom, sorry.
-/
import Derived.Test.YtkdildgdodnbbaaGreatDoorChecked
import GoSem.PinnedTables
import GoSem.Claim
import GoSem.ClaimJoined
import GoSem.ClaimMapViews
import Derived.JoinedTies
import Derived.KernelRfl
namespace Go.Proofs.YtkdildgdodnbbaaGreatDoor
/- THE CELL 'sum', in the pinned program and in every row, IS THE sha256 OF THE DUMP (.gsa) THAT YtkdildgdodnbbaaGreatDoorProg.lean LOADS. Nothing in Lean hashes anything: it is a label: what it is worth is what the hold of that sum in a sandbox is worth. -/
noncomputable def Tryz.pinned : Pinned := { name := "ytkdildgdodnbbaagreatdoor", sum := "22ed349eb9de1d2b1c8f6e8cb71da810266369e6159e53a07c0d6c28a0af35cf", checked := Tryz.checked }
namespace Rows
def none {H : Type} : Left H := { results := [], args := [] }

/- WHAT THE LISTED PACKAGE-LEVEL VARIABLES READ AS WHEN THE CALL BEGINS. Each datum BY PROGRAM (the guide's laid-datum.mjs) off the statement by which the dump's own 'gosem.cut.vars' lays the variable. In a bare row this is a premise. The card (YtkdildgdodnbbaaGreatDoorCards.lean) ties it to the program's text. -/
def laid_unicode_utf8_acceptRanges {H : Type} : DataW H := .agg [.agg [.lit (.int .u8 128), .lit (.int .u8 191)], .agg [.lit (.int .u8 160), .lit (.int .u8 191)], .agg [.lit (.int .u8 128), .lit (.int .u8 159)], .agg [.lit (.int .u8 144), .lit (.int .u8 191)], .agg [.lit (.int .u8 128), .lit (.int .u8 143)], .agg [.lit (.int .u8 0), .lit (.int .u8 0)], .agg [.lit (.int .u8 0), .lit (.int .u8 0)], .agg [.lit (.int .u8 0), .lit (.int .u8 0)], .agg [.lit (.int .u8 0), .lit (.int .u8 0)], .agg [.lit (.int .u8 0), .lit (.int .u8 0)], .agg [.lit (.int .u8 0), .lit (.int .u8 0)], .agg [.lit (.int .u8 0), .lit (.int .u8 0)], .agg [.lit (.int .u8 0), .lit (.int .u8 0)], .agg [.lit (.int .u8 0), .lit (.int .u8 0)], .agg [.lit (.int .u8 0), .lit (.int .u8 0)], .agg [.lit (.int .u8 0), .lit (.int .u8 0)]]
def laid_manciple_ask_words {H : Type} : DataW H := .agg [.lit (.string []), .lit (.string [105, 110, 115, 116, 97, 108, 108]), .lit (.string [114, 101, 109, 111, 118, 101]), .lit (.string [117, 112, 103, 114, 97, 100, 101]), .lit (.string [112, 105, 110])]
/-- One of Go's own tables, pinned by name: the form's constant. -/
def laid_unicode_utf8_first : DataW Unit := Go.Pinned.utf8First

/-- 'manciplelaw9.AskAny': WHATEVER THE INPUT: true; the input reads as it did. -/
def askAnySpec : ChangeSpec := { name := "askAny", fn := fun _ => fun
  | [d1, d2] => { results := [.lit (.bool true)], args := [d1, d2] }
  | _ => none }
def askAnyRow : OpenClaim := { program := "ytkdildgdodnbbaagreatdoor", sum := "22ed349eb9de1d2b1c8f6e8cb71da810266369e6159e53a07c0d6c28a0af35cf", func := "manciple/manciplelaw9.AskAny", spec := "askAny", inPlace := ["internal/bytealg.CountString", "internal/bytealg.IndexByteString", "internal/bytealg.IndexString", "internal/bytealg.abigen_runtime_cmpstring", "internal/abi.NoEscape", "internal/bytealg.MakeNoZero"], unfollowed := true, recurses := true, named := ["unicode/utf8.first", "unicode/utf8.acceptRanges", "internal/bytealg.MaxLen", "manciple/ask.words"], apart := false, laid := [("unicode/utf8.acceptRanges", laid_unicode_utf8_acceptRanges), ("manciple/ask.words", laid_manciple_ask_words), ("unicode/utf8.first", laid_unicode_utf8_first)] }
def AskAnySaid : Prop := askAnyRow.holds Tryz.pinned (OpenSpec.ofChange askAnySpec)

/-- ITS FALSE NEIGHBOUR: 'it returns false'. Refute it at one input. -/
def askAnyWrong : ChangeSpec := { name := "askAny", fn := fun _ => fun
  | [d1, d2] => { results := [.lit (.bool false)], args := [d1, d2] }
  | _ => none }
def AskAnyWrongFalsely : Prop := askAnyRow.holds Tryz.pinned (OpenSpec.ofChange askAnyWrong)

/-- 'manciplelaw9.AskReads': WHATEVER THE INPUT: true; the input reads as it did. -/
def askReadsSpec : ChangeSpec := { name := "askReads", fn := fun _ => fun
  | [d] => { results := [.lit (.bool true)], args := [d] }
  | _ => none }
def askReadsRow : OpenClaim := { program := "ytkdildgdodnbbaagreatdoor", sum := "22ed349eb9de1d2b1c8f6e8cb71da810266369e6159e53a07c0d6c28a0af35cf", func := "manciple/manciplelaw9.AskReads", spec := "askReads", inPlace := ["internal/bytealg.CountString", "internal/bytealg.IndexByteString", "internal/bytealg.IndexString", "internal/bytealg.abigen_runtime_cmpstring", "internal/abi.NoEscape", "internal/bytealg.MakeNoZero"], unfollowed := true, recurses := true, named := ["unicode/utf8.first", "unicode/utf8.acceptRanges", "internal/bytealg.MaxLen", "manciple/ask.words"], apart := false, laid := [("unicode/utf8.acceptRanges", laid_unicode_utf8_acceptRanges), ("manciple/ask.words", laid_manciple_ask_words), ("unicode/utf8.first", laid_unicode_utf8_first)] }
def AskReadsSaid : Prop := askReadsRow.holds Tryz.pinned (OpenSpec.ofChange askReadsSpec)

/-- ITS FALSE NEIGHBOUR: 'it returns false'. Refute it at one input. -/
def askReadsWrong : ChangeSpec := { name := "askReads", fn := fun _ => fun
  | [d] => { results := [.lit (.bool false)], args := [d] }
  | _ => none }
def AskReadsWrongFalsely : Prop := askReadsRow.holds Tryz.pinned (OpenSpec.ofChange askReadsWrong)

/-- 'manciplelaw9.AskLines': WHATEVER THE INPUT: true; the input reads as it did. -/
def askLinesSpec : ChangeSpec := { name := "askLines", fn := fun _ => fun
  | [d1, d2] => { results := [.lit (.bool true)], args := [d1, d2] }
  | _ => none }
def askLinesRow : OpenClaim := { program := "ytkdildgdodnbbaagreatdoor", sum := "22ed349eb9de1d2b1c8f6e8cb71da810266369e6159e53a07c0d6c28a0af35cf", func := "manciple/manciplelaw9.AskLines", spec := "askLines", inPlace := ["internal/bytealg.CountString", "internal/bytealg.IndexByteString", "internal/bytealg.IndexString", "internal/bytealg.abigen_runtime_cmpstring", "internal/abi.NoEscape", "internal/bytealg.MakeNoZero"], unfollowed := true, recurses := true, named := ["unicode/utf8.first", "unicode/utf8.acceptRanges", "internal/bytealg.MaxLen", "manciple/ask.words"], apart := false, laid := [("unicode/utf8.acceptRanges", laid_unicode_utf8_acceptRanges), ("manciple/ask.words", laid_manciple_ask_words), ("unicode/utf8.first", laid_unicode_utf8_first)] }
def AskLinesSaid : Prop := askLinesRow.holds Tryz.pinned (OpenSpec.ofChange askLinesSpec)

/-- ITS FALSE NEIGHBOUR: 'it returns false'. Refute it at one input. -/
def askLinesWrong : ChangeSpec := { name := "askLines", fn := fun _ => fun
  | [d1, d2] => { results := [.lit (.bool false)], args := [d1, d2] }
  | _ => none }
def AskLinesWrongFalsely : Prop := askLinesRow.holds Tryz.pinned (OpenSpec.ofChange askLinesWrong)

/-- 'manciplelaw9.AskRanges': WHATEVER THE INPUT: true; the input reads as it did. -/
def askRangesSpec : ChangeSpec := { name := "askRanges", fn := fun _ => fun
  | [d] => { results := [.lit (.bool true)], args := [d] }
  | _ => none }
def askRangesRow : OpenClaim := { program := "ytkdildgdodnbbaagreatdoor", sum := "22ed349eb9de1d2b1c8f6e8cb71da810266369e6159e53a07c0d6c28a0af35cf", func := "manciple/manciplelaw9.AskRanges", spec := "askRanges", inPlace := ["internal/bytealg.CountString", "internal/bytealg.IndexByteString", "internal/bytealg.IndexString", "internal/bytealg.abigen_runtime_cmpstring", "internal/abi.NoEscape", "internal/bytealg.MakeNoZero"], unfollowed := true, recurses := true, named := ["unicode/utf8.first", "unicode/utf8.acceptRanges", "internal/bytealg.MaxLen", "manciple/ask.words"], apart := false, laid := [("unicode/utf8.acceptRanges", laid_unicode_utf8_acceptRanges), ("manciple/ask.words", laid_manciple_ask_words), ("unicode/utf8.first", laid_unicode_utf8_first)] }
def AskRangesSaid : Prop := askRangesRow.holds Tryz.pinned (OpenSpec.ofChange askRangesSpec)

/-- ITS FALSE NEIGHBOUR: 'it returns false'. Refute it at one input. -/
def askRangesWrong : ChangeSpec := { name := "askRanges", fn := fun _ => fun
  | [d] => { results := [.lit (.bool false)], args := [d] }
  | _ => none }
def AskRangesWrongFalsely : Prop := askRangesRow.holds Tryz.pinned (OpenSpec.ofChange askRangesWrong)

/- THE SECOND FORM. 'bulk': how many values and letters a reading holds, each counted each time it is reached (what is shared counts as often as it is met; a slice's spare places count too). A statement '..UptoSaid' is the law's where the arguments, and the package variables that the reading takes, are together of bulk at most 1048576: NARROWER than '..Said'. Prove '..Said' where nothing that the law and all that it calls make is longer than what came in: it says more and counts as full. Else prove '..UptoSaid'. A law counts once. -/
mutual
def uptoBulk {H : Type} : DataW H → Nat
  | .lit (.string bytes) => bytes.length + 1
  | .lit _ => 1
  | .nil => 1
  | .ptr d => uptoBulk d + 1
  | .slice elems spare => uptoBulkAll elems + uptoBulkAll spare + 1
  | .agg parts => uptoBulkAll parts + 1
  | .iface _ d => uptoBulk d + 1
  | .map entries => uptoBulkEntries entries + 1
  | .held _ => 1
def uptoBulkAll {H : Type} : List (DataW H) → Nat
  | [] => 0
  | d :: r => uptoBulk d + uptoBulkAll r
def uptoBulkEntries {H : Type} : List (Lit × DataW H) → Nat
  | [] => 0
  | x :: r => uptoBulkEntry x + uptoBulkEntries r
def uptoBulkEntry {H : Type} : Lit × DataW H → Nat
  | (.string bytes, d) => bytes.length + uptoBulk d + 1
  | (_, d) => uptoBulk d + 1
 end
def uptoSmall : (H : Type) → List (DataW H) → Bool := fun _ ds => decide (uptoBulkAll ds ≤ 1048576)
def OpenSpec.upto (s : _root_.Go.ChangeSpec) : _root_.Go.OpenSpec := { _root_.Go.OpenSpec.ofChange s with cond := some uptoSmall }

/-- 'manciplelaw9.AskAny', WHERE WHAT IT READS IS OF BULK AT MOST 1048576: true; the input reads as it did. -/
def askAnyUptoRow : OpenClaim := { program := "ytkdildgdodnbbaagreatdoor", sum := "22ed349eb9de1d2b1c8f6e8cb71da810266369e6159e53a07c0d6c28a0af35cf", func := "manciple/manciplelaw9.AskAny", spec := "askAny", inPlace := ["internal/bytealg.CountString", "internal/bytealg.IndexByteString", "internal/bytealg.IndexString", "internal/bytealg.abigen_runtime_cmpstring", "internal/abi.NoEscape", "internal/bytealg.MakeNoZero"], unfollowed := true, recurses := true, named := ["unicode/utf8.first", "unicode/utf8.acceptRanges", "internal/bytealg.MaxLen", "manciple/ask.words"], apart := false, laid := [("unicode/utf8.acceptRanges", laid_unicode_utf8_acceptRanges), ("manciple/ask.words", laid_manciple_ask_words), ("unicode/utf8.first", laid_unicode_utf8_first)], narrowed := true }
def AskAnyUptoSaid : Prop := askAnyUptoRow.holds Tryz.pinned (OpenSpec.upto askAnySpec)

/-- 'manciplelaw9.AskReads', WHERE WHAT IT READS IS OF BULK AT MOST 1048576: true; the input reads as it did. -/
def askReadsUptoRow : OpenClaim := { program := "ytkdildgdodnbbaagreatdoor", sum := "22ed349eb9de1d2b1c8f6e8cb71da810266369e6159e53a07c0d6c28a0af35cf", func := "manciple/manciplelaw9.AskReads", spec := "askReads", inPlace := ["internal/bytealg.CountString", "internal/bytealg.IndexByteString", "internal/bytealg.IndexString", "internal/bytealg.abigen_runtime_cmpstring", "internal/abi.NoEscape", "internal/bytealg.MakeNoZero"], unfollowed := true, recurses := true, named := ["unicode/utf8.first", "unicode/utf8.acceptRanges", "internal/bytealg.MaxLen", "manciple/ask.words"], apart := false, laid := [("unicode/utf8.acceptRanges", laid_unicode_utf8_acceptRanges), ("manciple/ask.words", laid_manciple_ask_words), ("unicode/utf8.first", laid_unicode_utf8_first)], narrowed := true }
def AskReadsUptoSaid : Prop := askReadsUptoRow.holds Tryz.pinned (OpenSpec.upto askReadsSpec)

/-- 'manciplelaw9.AskLines', WHERE WHAT IT READS IS OF BULK AT MOST 1048576: true; the input reads as it did. -/
def askLinesUptoRow : OpenClaim := { program := "ytkdildgdodnbbaagreatdoor", sum := "22ed349eb9de1d2b1c8f6e8cb71da810266369e6159e53a07c0d6c28a0af35cf", func := "manciple/manciplelaw9.AskLines", spec := "askLines", inPlace := ["internal/bytealg.CountString", "internal/bytealg.IndexByteString", "internal/bytealg.IndexString", "internal/bytealg.abigen_runtime_cmpstring", "internal/abi.NoEscape", "internal/bytealg.MakeNoZero"], unfollowed := true, recurses := true, named := ["unicode/utf8.first", "unicode/utf8.acceptRanges", "internal/bytealg.MaxLen", "manciple/ask.words"], apart := false, laid := [("unicode/utf8.acceptRanges", laid_unicode_utf8_acceptRanges), ("manciple/ask.words", laid_manciple_ask_words), ("unicode/utf8.first", laid_unicode_utf8_first)], narrowed := true }
def AskLinesUptoSaid : Prop := askLinesUptoRow.holds Tryz.pinned (OpenSpec.upto askLinesSpec)

/-- 'manciplelaw9.AskRanges', WHERE WHAT IT READS IS OF BULK AT MOST 1048576: true; the input reads as it did. -/
def askRangesUptoRow : OpenClaim := { program := "ytkdildgdodnbbaagreatdoor", sum := "22ed349eb9de1d2b1c8f6e8cb71da810266369e6159e53a07c0d6c28a0af35cf", func := "manciple/manciplelaw9.AskRanges", spec := "askRanges", inPlace := ["internal/bytealg.CountString", "internal/bytealg.IndexByteString", "internal/bytealg.IndexString", "internal/bytealg.abigen_runtime_cmpstring", "internal/abi.NoEscape", "internal/bytealg.MakeNoZero"], unfollowed := true, recurses := true, named := ["unicode/utf8.first", "unicode/utf8.acceptRanges", "internal/bytealg.MaxLen", "manciple/ask.words"], apart := false, laid := [("unicode/utf8.acceptRanges", laid_unicode_utf8_acceptRanges), ("manciple/ask.words", laid_manciple_ask_words), ("unicode/utf8.first", laid_unicode_utf8_first)], narrowed := true }
def AskRangesUptoSaid : Prop := askRangesUptoRow.holds Tryz.pinned (OpenSpec.upto askRangesSpec)

end Rows
end Go.Proofs.YtkdildgdodnbbaaGreatDoor
