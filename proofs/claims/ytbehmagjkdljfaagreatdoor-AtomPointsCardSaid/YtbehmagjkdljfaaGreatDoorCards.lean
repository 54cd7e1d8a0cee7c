/-
  DERIVED. GIVEN WITH THE SEED: THE CARDS: each row of YtbehmagjkdljfaaGreatDoorRows.lean that lists a variable, with what it lists TIED to the program's text (the seventh form; the later family's looks); each row that meets fmt, with fmt's text TOLD by the authors' own Lean function (tested against real Go, not proved from fmt's source: count such statements apart). THE CARD IS WHAT COUNTS. Prove the row's statement (the work); the ties are given (YtbehmagjkdljfaaGreatDoorTie.lean); close each card by the builder's one call (the guide's Derived/Test/ToyasCard.lean, 'card_holds'). Laid BY PROGRAM, IN A SANDBOX (cutbox-door.mjs). By AI agents, Wed Nov 11 2026. No macro, syntax, notation, axiom, sorry.
-/
import Derived.Test.YtbehmagjkdljfaaGreatDoorRows
import GoSem.ClaimSeven
namespace Go.Proofs.YtbehmagjkdljfaaGreatDoor
namespace Rows

/-- THE TIED CARD OF 'manciplelaw4.AtomAny'. -/
def atomAnyCard : Claim7 := { stood := { row := atomAnyRow, standIns := [], harness := (true, "440fbe30bbb46d0c342b0c4cee6c5d4a29bb532198f03224e59c0fc72d9e0c1e"), looks := true }, kinds := [], alts := [], laidByText := true, laidKinds := [.data, .pinned], laidTests := true, laidLooks := .later }
def AtomAnyCardSaid : Prop := Claim7.holds Tryz.pinned (.plain (OpenSpec.ofChange atomAnySpec)) atomAnyCard

/-- THE TIED CARD OF 'manciplelaw4.AtomReads'. -/
def atomReadsCard : Claim7 := { stood := { row := atomReadsRow, standIns := [], harness := (true, "440fbe30bbb46d0c342b0c4cee6c5d4a29bb532198f03224e59c0fc72d9e0c1e"), looks := true }, kinds := [], alts := [], laidByText := true, laidKinds := [.data, .pinned], laidTests := true, laidLooks := .later }
def AtomReadsCardSaid : Prop := Claim7.holds Tryz.pinned (.plain (OpenSpec.ofChange atomReadsSpec)) atomReadsCard

/-- THE TIED CARD OF 'manciplelaw4.AtomPoints'. -/
def atomPointsCard : Claim7 := { stood := { row := atomPointsRow, standIns := [], harness := (true, "440fbe30bbb46d0c342b0c4cee6c5d4a29bb532198f03224e59c0fc72d9e0c1e"), looks := true }, kinds := [], alts := [], laidByText := true, laidKinds := [.data, .pinned], laidTests := true, laidLooks := .later }
def AtomPointsCardSaid : Prop := Claim7.holds Tryz.pinned (.plain (OpenSpec.ofChange atomPointsSpec)) atomPointsCard

/-- THE TIED CARD OF 'manciplelaw4.AtomWays'. -/
def atomWaysCard : Claim7 := { stood := { row := atomWaysRow, standIns := [], harness := (true, "440fbe30bbb46d0c342b0c4cee6c5d4a29bb532198f03224e59c0fc72d9e0c1e"), looks := true }, kinds := [], alts := [], laidByText := true, laidKinds := [.data, .pinned], laidTests := true, laidLooks := .later }
def AtomWaysCardSaid : Prop := Claim7.holds Tryz.pinned (.plain (OpenSpec.ofChange atomWaysSpec)) atomWaysCard

/-- THE SECOND FORM's CARD OF 'manciplelaw4.AtomAny'. -/
def atomAnyUptoCard : Claim7 := { stood := { row := atomAnyUptoRow, standIns := [], harness := (true, "440fbe30bbb46d0c342b0c4cee6c5d4a29bb532198f03224e59c0fc72d9e0c1e"), looks := true }, kinds := [], alts := [], laidByText := true, laidKinds := [.data, .pinned], laidTests := true, laidLooks := .later }
def AtomAnyUptoCardSaid : Prop := Claim7.holds Tryz.pinned (.plain (OpenSpec.upto atomAnySpec)) atomAnyUptoCard

/-- THE SECOND FORM's CARD OF 'manciplelaw4.AtomReads'. -/
def atomReadsUptoCard : Claim7 := { stood := { row := atomReadsUptoRow, standIns := [], harness := (true, "440fbe30bbb46d0c342b0c4cee6c5d4a29bb532198f03224e59c0fc72d9e0c1e"), looks := true }, kinds := [], alts := [], laidByText := true, laidKinds := [.data, .pinned], laidTests := true, laidLooks := .later }
def AtomReadsUptoCardSaid : Prop := Claim7.holds Tryz.pinned (.plain (OpenSpec.upto atomReadsSpec)) atomReadsUptoCard

/-- THE SECOND FORM's CARD OF 'manciplelaw4.AtomPoints'. -/
def atomPointsUptoCard : Claim7 := { stood := { row := atomPointsUptoRow, standIns := [], harness := (true, "440fbe30bbb46d0c342b0c4cee6c5d4a29bb532198f03224e59c0fc72d9e0c1e"), looks := true }, kinds := [], alts := [], laidByText := true, laidKinds := [.data, .pinned], laidTests := true, laidLooks := .later }
def AtomPointsUptoCardSaid : Prop := Claim7.holds Tryz.pinned (.plain (OpenSpec.upto atomPointsSpec)) atomPointsUptoCard

/-- THE SECOND FORM's CARD OF 'manciplelaw4.AtomWays'. -/
def atomWaysUptoCard : Claim7 := { stood := { row := atomWaysUptoRow, standIns := [], harness := (true, "440fbe30bbb46d0c342b0c4cee6c5d4a29bb532198f03224e59c0fc72d9e0c1e"), looks := true }, kinds := [], alts := [], laidByText := true, laidKinds := [.data, .pinned], laidTests := true, laidLooks := .later }
def AtomWaysUptoCardSaid : Prop := Claim7.holds Tryz.pinned (.plain (OpenSpec.upto atomWaysSpec)) atomWaysUptoCard
end Rows
end Go.Proofs.YtbehmagjkdljfaaGreatDoor
