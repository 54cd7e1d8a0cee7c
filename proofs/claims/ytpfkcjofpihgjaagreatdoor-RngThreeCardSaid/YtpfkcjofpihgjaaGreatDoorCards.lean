/-
  DERIVED. GIVEN WITH THE SEED: THE CARDS: each row of YtpfkcjofpihgjaaGreatDoorRows.lean that lists a variable, with what it lists TIED to the program's text (the seventh form; the later family's looks); each row that meets fmt, with fmt's text TOLD by the authors' own Lean function (tested against real Go, not proved from fmt's source: count such statements apart). THE CARD IS WHAT COUNTS. Prove the row's statement (the work); the ties are given (YtpfkcjofpihgjaaGreatDoorTie.lean); close each card by the builder's one call (the guide's Derived/Test/ToyasCard.lean, 'card_holds'). Laid BY PROGRAM, IN A SANDBOX (cutbox-door.mjs). By AI agents, Wed Nov 11 2026. No macro, syntax, notation, axiom, sorry.
-/
import Derived.Test.YtpfkcjofpihgjaaGreatDoorRows
import GoSem.ClaimSeven
namespace Go.Proofs.YtpfkcjofpihgjaaGreatDoor
namespace Rows

/-- THE TIED CARD OF 'manciplelaw3.RngAny'. -/
def rngAnyCard : Claim7 := { stood := { row := rngAnyRow, standIns := [], harness := (true, "f74ee19a785f5777b986ab206f602f11f31bd89fb5c801fcb33c624d3da3a6a7"), looks := true }, kinds := [], alts := [], laidByText := true, laidKinds := [.data, .pinned], laidTests := true, laidLooks := .later }
def RngAnyCardSaid : Prop := Claim7.holds Tryz.pinned (.plain (OpenSpec.ofChange rngAnySpec)) rngAnyCard

/-- THE TIED CARD OF 'manciplelaw3.RngPlays'. -/
def rngPlaysCard : Claim7 := { stood := { row := rngPlaysRow, standIns := [], harness := (true, "f74ee19a785f5777b986ab206f602f11f31bd89fb5c801fcb33c624d3da3a6a7"), looks := true }, kinds := [], alts := [], laidByText := true, laidKinds := [.data, .pinned], laidTests := true, laidLooks := .later }
def RngPlaysCardSaid : Prop := Claim7.holds Tryz.pinned (.plain (OpenSpec.ofChange rngPlaysSpec)) rngPlaysCard

/-- THE TIED CARD OF 'manciplelaw3.RngTurns'. -/
def rngTurnsCard : Claim7 := { stood := { row := rngTurnsRow, standIns := [], harness := (true, "f74ee19a785f5777b986ab206f602f11f31bd89fb5c801fcb33c624d3da3a6a7"), looks := true }, kinds := [], alts := [], laidByText := true, laidKinds := [.data, .pinned], laidTests := true, laidLooks := .later }
def RngTurnsCardSaid : Prop := Claim7.holds Tryz.pinned (.plain (OpenSpec.ofChange rngTurnsSpec)) rngTurnsCard

/-- THE TIED CARD OF 'manciplelaw3.RngThree'. -/
def rngThreeCard : Claim7 := { stood := { row := rngThreeRow, standIns := [], harness := (true, "f74ee19a785f5777b986ab206f602f11f31bd89fb5c801fcb33c624d3da3a6a7"), looks := true }, kinds := [], alts := [], laidByText := true, laidKinds := [.data, .pinned], laidTests := true, laidLooks := .later }
def RngThreeCardSaid : Prop := Claim7.holds Tryz.pinned (.plain (OpenSpec.ofChange rngThreeSpec)) rngThreeCard

/-- THE TIED CARD OF 'manciplelaw4.AtomAny'. -/
def atomAnyCard : Claim7 := { stood := { row := atomAnyRow, standIns := [], harness := (true, "f74ee19a785f5777b986ab206f602f11f31bd89fb5c801fcb33c624d3da3a6a7"), looks := true }, kinds := [], alts := [], laidByText := true, laidKinds := [.data, .pinned], laidTests := true, laidLooks := .later }
def AtomAnyCardSaid : Prop := Claim7.holds Tryz.pinned (.plain (OpenSpec.ofChange atomAnySpec)) atomAnyCard

/-- THE TIED CARD OF 'manciplelaw4.AtomReads'. -/
def atomReadsCard : Claim7 := { stood := { row := atomReadsRow, standIns := [], harness := (true, "f74ee19a785f5777b986ab206f602f11f31bd89fb5c801fcb33c624d3da3a6a7"), looks := true }, kinds := [], alts := [], laidByText := true, laidKinds := [.data, .pinned], laidTests := true, laidLooks := .later }
def AtomReadsCardSaid : Prop := Claim7.holds Tryz.pinned (.plain (OpenSpec.ofChange atomReadsSpec)) atomReadsCard

/-- THE TIED CARD OF 'manciplelaw4.AtomPoints'. -/
def atomPointsCard : Claim7 := { stood := { row := atomPointsRow, standIns := [], harness := (true, "f74ee19a785f5777b986ab206f602f11f31bd89fb5c801fcb33c624d3da3a6a7"), looks := true }, kinds := [], alts := [], laidByText := true, laidKinds := [.data, .pinned], laidTests := true, laidLooks := .later }
def AtomPointsCardSaid : Prop := Claim7.holds Tryz.pinned (.plain (OpenSpec.ofChange atomPointsSpec)) atomPointsCard

/-- THE TIED CARD OF 'manciplelaw4.AtomWays'. -/
def atomWaysCard : Claim7 := { stood := { row := atomWaysRow, standIns := [], harness := (true, "f74ee19a785f5777b986ab206f602f11f31bd89fb5c801fcb33c624d3da3a6a7"), looks := true }, kinds := [], alts := [], laidByText := true, laidKinds := [.data, .pinned], laidTests := true, laidLooks := .later }
def AtomWaysCardSaid : Prop := Claim7.holds Tryz.pinned (.plain (OpenSpec.ofChange atomWaysSpec)) atomWaysCard

/-- THE SECOND FORM's CARD OF 'manciplelaw3.RngAny'. -/
def rngAnyUptoCard : Claim7 := { stood := { row := rngAnyUptoRow, standIns := [], harness := (true, "f74ee19a785f5777b986ab206f602f11f31bd89fb5c801fcb33c624d3da3a6a7"), looks := true }, kinds := [], alts := [], laidByText := true, laidKinds := [.data, .pinned], laidTests := true, laidLooks := .later }
def RngAnyUptoCardSaid : Prop := Claim7.holds Tryz.pinned (.plain (OpenSpec.upto rngAnySpec)) rngAnyUptoCard

/-- THE SECOND FORM's CARD OF 'manciplelaw3.RngPlays'. -/
def rngPlaysUptoCard : Claim7 := { stood := { row := rngPlaysUptoRow, standIns := [], harness := (true, "f74ee19a785f5777b986ab206f602f11f31bd89fb5c801fcb33c624d3da3a6a7"), looks := true }, kinds := [], alts := [], laidByText := true, laidKinds := [.data, .pinned], laidTests := true, laidLooks := .later }
def RngPlaysUptoCardSaid : Prop := Claim7.holds Tryz.pinned (.plain (OpenSpec.upto rngPlaysSpec)) rngPlaysUptoCard

/-- THE SECOND FORM's CARD OF 'manciplelaw3.RngTurns'. -/
def rngTurnsUptoCard : Claim7 := { stood := { row := rngTurnsUptoRow, standIns := [], harness := (true, "f74ee19a785f5777b986ab206f602f11f31bd89fb5c801fcb33c624d3da3a6a7"), looks := true }, kinds := [], alts := [], laidByText := true, laidKinds := [.data, .pinned], laidTests := true, laidLooks := .later }
def RngTurnsUptoCardSaid : Prop := Claim7.holds Tryz.pinned (.plain (OpenSpec.upto rngTurnsSpec)) rngTurnsUptoCard

/-- THE SECOND FORM's CARD OF 'manciplelaw3.RngThree'. -/
def rngThreeUptoCard : Claim7 := { stood := { row := rngThreeUptoRow, standIns := [], harness := (true, "f74ee19a785f5777b986ab206f602f11f31bd89fb5c801fcb33c624d3da3a6a7"), looks := true }, kinds := [], alts := [], laidByText := true, laidKinds := [.data, .pinned], laidTests := true, laidLooks := .later }
def RngThreeUptoCardSaid : Prop := Claim7.holds Tryz.pinned (.plain (OpenSpec.upto rngThreeSpec)) rngThreeUptoCard

/-- THE SECOND FORM's CARD OF 'manciplelaw4.AtomAny'. -/
def atomAnyUptoCard : Claim7 := { stood := { row := atomAnyUptoRow, standIns := [], harness := (true, "f74ee19a785f5777b986ab206f602f11f31bd89fb5c801fcb33c624d3da3a6a7"), looks := true }, kinds := [], alts := [], laidByText := true, laidKinds := [.data, .pinned], laidTests := true, laidLooks := .later }
def AtomAnyUptoCardSaid : Prop := Claim7.holds Tryz.pinned (.plain (OpenSpec.upto atomAnySpec)) atomAnyUptoCard

/-- THE SECOND FORM's CARD OF 'manciplelaw4.AtomReads'. -/
def atomReadsUptoCard : Claim7 := { stood := { row := atomReadsUptoRow, standIns := [], harness := (true, "f74ee19a785f5777b986ab206f602f11f31bd89fb5c801fcb33c624d3da3a6a7"), looks := true }, kinds := [], alts := [], laidByText := true, laidKinds := [.data, .pinned], laidTests := true, laidLooks := .later }
def AtomReadsUptoCardSaid : Prop := Claim7.holds Tryz.pinned (.plain (OpenSpec.upto atomReadsSpec)) atomReadsUptoCard

/-- THE SECOND FORM's CARD OF 'manciplelaw4.AtomPoints'. -/
def atomPointsUptoCard : Claim7 := { stood := { row := atomPointsUptoRow, standIns := [], harness := (true, "f74ee19a785f5777b986ab206f602f11f31bd89fb5c801fcb33c624d3da3a6a7"), looks := true }, kinds := [], alts := [], laidByText := true, laidKinds := [.data, .pinned], laidTests := true, laidLooks := .later }
def AtomPointsUptoCardSaid : Prop := Claim7.holds Tryz.pinned (.plain (OpenSpec.upto atomPointsSpec)) atomPointsUptoCard

/-- THE SECOND FORM's CARD OF 'manciplelaw4.AtomWays'. -/
def atomWaysUptoCard : Claim7 := { stood := { row := atomWaysUptoRow, standIns := [], harness := (true, "f74ee19a785f5777b986ab206f602f11f31bd89fb5c801fcb33c624d3da3a6a7"), looks := true }, kinds := [], alts := [], laidByText := true, laidKinds := [.data, .pinned], laidTests := true, laidLooks := .later }
def AtomWaysUptoCardSaid : Prop := Claim7.holds Tryz.pinned (.plain (OpenSpec.upto atomWaysSpec)) atomWaysUptoCard
end Rows
end Go.Proofs.YtpfkcjofpihgjaaGreatDoor
